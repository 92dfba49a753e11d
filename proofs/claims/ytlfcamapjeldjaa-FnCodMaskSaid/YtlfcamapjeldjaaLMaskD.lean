/- The law on what is told last, drawn. -/
import Derived.Test.YtlfcamapjeldjaaMaskI
import Derived.Test.YtlfcamapjeldjaaMaskS
import Derived.Test.YtlfcamapjeldjaaMaskB
import Derived.Test.YtlfcamapjeldjaaDraw3
import Derived.Deep.AppendLies
namespace Go.Proofs.Ytlfcamapjeldjaa
open Go.RowKit Go.Maps

/-- A number that is drawn for how much. -/
def qNum : Int → Prop := fun q => q = 0 ∨ q = 1000 ∨ q = 500 ∨ q = -1
theorem pair_newI (w : World) (s t : Int) (T : TypeId) : ∀ (j : Nat) u, [Value.int .i64 s, .int .i64 t][j]? = some u → (w.alloc (.cells #[.int .i64 s, .int .i64 t] T)).cell? ((⟨w.heap.size, 0, none⟩ : Addr).add j) = some u := by
  intro j u hu
  match j, hu with
  | 0, hu => exact (World.cell?_alloc_at _ _ _ _ rfl).trans (by simpa using hu)
  | 1, hu => exact (World.cell?_alloc_at _ _ _ _ rfl).trans (by simpa using hu)
  | j + 2, hu => simp at hu
theorem own_base {w : World} {B B' : Nat} {T : TypeId} {size n : Nat} {v : Value} {xs : List Value} (h : w.ownsRow B T size v n xs) (hB : B' ≤ B) : w.ownsRow B' T size v n xs := by
  rcases h with ⟨h1, h2 | ⟨g, cap, cur, h2, h3, h4⟩⟩
  · exact ⟨h1, .inl h2⟩
  · exact ⟨h1, .inr ⟨g, cap, cur, h2, Nat.le_trans hB h3, h4⟩⟩
theorem drawn_grown {w0 w w' : World} {B g m : Nat} {row : Option Nat} (h : Drawn w0 w B g m) (hg : w.grownBy w' row) (hlt : g < w0.heap.size) (hrow : ∀ r, row = some r → w0.heap.size ≤ r) : Drawn w0 w' B g m := by
  have hne : ∀ k, k < w0.heap.size → some k ≠ row := fun k hk e => by have := hrow k e.symm; omega
  refine ⟨h.1.keep fun k hk => hg.block k (by have := h.1.lt; omega) (hne k (by omega)), ⟨hg.os.trans h.2.os, hg.tape.trans h.2.tape, hg.output.trans h.2.output, Nat.le_trans h.2.size hg.size, fun k hk hn => ?_⟩⟩
  exact (hg.block k (Nat.lt_of_lt_of_le hk h.2.size) (hne k hk)).trans (h.2.block k hk hn)
theorem own_drawnW {w w' : World} {B g n size : Nat} {e : TypeId} {v : Value} {xs : List Value} (h : w.ownsRow B e size v n xs) (hgB : g < B) (hg : w.grownBy w' (some g)) : w'.ownsRow B e size v n xs := by
  refine h.kept hg ?_
  cases hv : v.ownBlock with
  | none => exact .inl rfl
  | some b => exact .inr fun e => by have := (h.lt b hv).1; cases e; omega

set_option maxRecDepth 100000 in
set_option maxHeartbeats 3200000 in
theorem draw_codmask (a : Option Addr) (len cap : Nat) (zs : List Int) (w : World) (h : IsRow .u8 w a len cap zs) :
    Calls Try.prog 6 #[.slice a len cap] w fun e w' => (∃ v ws, e = .returned v ∧ w'.ownsRow w.heap.size 27 2 v ws.length (wcells ws) ∧ v ≠ .slice none 0 0 ∧ ws.length ≤ 4) ∧ Below w.heap.size w w' := by
  obtain ⟨i0, hi, hz0, hz1, hz2⟩ := info_parts Try.infoWt
  have HI := Lib.hid h
  clear h
  go_enter Try.func6, Try.ntmps6
  go_wp2_with fail
  refine (open_any a len cap zs _ HI.out).mono ?_
  rintro e w1 ⟨g, rfl, hr, hb⟩
  have hg := hr.lt
  have hgB := hr.1
  go_wp2_with fail
  refine (pick_lit g 5 5 rfl (by decide) w.heap.size 0 _ (by omega) (by decide) (hr.alloc _)).mono ?_
  rintro e w2 ⟨r, rfl, hr5, -, hd1⟩
  have hD1 := hd1.of_alloc
  have ho1 : w2.ownsRow w1.heap.size 27 2 (.slice (some ⟨w1.heap.size, 0, none⟩) 0 0) 0 (wcells []) := (World.ownsRow_made w1 #[] 0 (Nat.le_refl _) (by decide) rfl).kept hd1.2 (.inr (by simp [Value.ownBlock]; omega))
  have HBB := Lib.hid hb
  have HIN := Lib.hid hi
  have hbs := hb.size
  clear hd1 hb hi
  go_wp2
  go_loopw [4, 5] (fun o i wr => ∃ (k : Nat) (ws : List Wt), i = .int .i64 k ∧ k + ws.length ≤ 4 ∧ wr.ownsRow w1.heap.size 27 2 o ws.length (wcells ws) ∧ o ≠ .slice none 0 0 ∧ Drawn w1 wr w.heap.size g (0 + 1 + 2 * ws.length)) (fun _ i _ => (intOf i).toNat)
  case atStart => exact ⟨r, [], rfl, by simp; omega, ho1, by simp, hD1⟩
  case round =>
    obtain ⟨k, ws, rfl, hk, hown, hne, hD⟩ := hrel
    by_cases hlt : 0 < k
    · have hrd := hD.1
      have hszr := hD.2.size
      go_wp2_with fail
      refine (pick_lit g 5 5 rfl (by decide) w.heap.size _ _ (by omega) (by decide) hrd).mono ?_
      rintro e w3 ⟨r1, rfl, hr1, -, hd3⟩
      have hown3 := own_drawnW hown hg hd3.2
      have hD3 := hD.trans hd3
      have hvl := hown.lt
      clear hown hd3 hD hrd
      go_wp2_with fail
      refine (pick_lit g 5 5 rfl (by decide) w.heap.size _ _ (by omega) (by decide) (hD3.1.alloc _)).mono ?_
      rintro e w4 ⟨r2, rfl, hr2, hrq2, hd4⟩
      have hlit : ∀ x : Int, [Value.int .i64 0, .int .i64 1000, .int .i64 500, .int .i64 (-1), .int .i64 0][r2]? = some (.int .i64 x) → w4.cell? ⟨w3.heap.size, r2, none⟩ = some (.int .i64 x) := fun x hx => lit_cell hd4 hD3.1.lt (by simpa using hx)
      have hx : ∃ x : Int, [Value.int .i64 0, .int .i64 1000, .int .i64 500, .int .i64 (-1), .int .i64 0][r2]? = some (.int .i64 x) := by
        match r2, hr2 with
        | 0, _ => exact ⟨_, rfl⟩
        | 1, _ => exact ⟨_, rfl⟩
        | 2, _ => exact ⟨_, rfl⟩
        | 3, _ => exact ⟨_, rfl⟩
        | 4, _ => exact ⟨_, rfl⟩
      obtain ⟨x, hx⟩ := hx
      have hcx := hlit x hx
      have hD4 := hD3.trans hd4.of_alloc
      have hown4 := own_drawnW (hown3.alloc (.cells #[.int .i64 0, .int .i64 1000, .int .i64 500, .int .i64 (-1), .int .i64 0] 3)) hg hd4.2
      have hsz4 := hD4.2.size
      clear hlit hx hd4 hown3 hD3
      go_wp2_with (at_builtin; go_must (refine wpList_append_lies _ rfl _ _ 23 (by rfl) w1.heap.size 27 i0 _ 2 16 Try.underlying23 HIN.out hz0 hz1 hz2 (by rfl) (by decide) _ ws.length (wcells ws) (by rfl) (hown4.alloc _) ⟨w4.heap.size, 0, none⟩ 1 1 [.int .i64 ((r1 : Int) - 2), .int .i64 x] (by rfl) (by rfl) (pair_newI w4 _ _ _) (by intro x hx; simp at hx; rcases hx with rfl | rfl <;> rfl) (by omega) (by unfold maxLen; omega) (by omega) (by simp; omega) (w4.heap.size + 1) (by simp) ?_); intro g3 cap3 w5 ho5 hg5 hat5 hlt5)
      have hD5 := drawn_grown (hD4.alloc (.cells #[.int .i64 ((r1 : Int) - 2), .int .i64 x] 27)) hg5 hg (fun r hr => (hvl r hr).1)
      clear hg5 hD4 hown4
      go_roundw
      case rel => exact ⟨k - 1, ws ++ [((r1 : Int) - 2, x)], by go_num, by simp; omega, by rw [wcells_app, List.length_append]; exact ho5, by simp, by rw [List.length_append]; exact hD5.mono (by simp; omega)⟩
      case measure => simp [intOf]; omega
    · have hk0 : k = 0 := by omega
      subst hk0
      have HF := Lib.hid (HBB.out.trans ((hD.below hg).mono (by exact Nat.le_refl _)))
      have HO := Lib.hid (own_base hown hbs)
      clear hD hown
      go_wp2
      go_ret
      exact ⟨⟨_, ws, rfl, HO.out, hne, by omega⟩, HF.out⟩

theorem mask_in (ws : List Wt) (c : Int) (hc : c = 0 ∨ c = 1 ∨ c = 2) : inB (maskL ws : Int) c = decide (0 < qual ws c) := by
  have hl := maskL_lt ws
  rw [inB_ok (by omega)]
  unfold maskL
  by_cases h0 : 0 < qual ws 0 <;> by_cases h1 : 0 < qual ws 1 <;> by_cases h2 : 0 < qual ws 2 <;> rcases hc with rfl | rfl | rfl <;> simp [h0, h1, h2]
theorem qual_same (ws : List Wt) (k q : Int) (hk : 0 ≤ k) : qual (ws ++ [(k, q)]) k = q := by
  unfold qual; rw [lastQ_snoc]; simp
theorem qual_other (ws : List Wt) (k q c : Int) (hk : 0 ≤ k) (hc : c ≠ k) : qual (ws ++ [(k, q)]) c = qual ws c := by
  unfold qual
  rw [lastQ_snoc, if_neg (fun e => hc e.symm), lastQ_snoc, if_neg (show ¬ k = -1 from by omega)]
theorem wcells_one (ws : List Wt) : ∀ u ∈ wcells ws, u.oneCell' = true := by
  intro u hu
  obtain ⟨f, _, hf⟩ := List.mem_flatMap.1 hu
  simp at hf
  rcases hf with rfl | rfl <;> rfl

set_option maxRecDepth 100000 in
set_option maxHeartbeats 6400000 in
theorem law_codmaskd (a : Option Addr) (len cap : Nat) (zs : List Int) (w : World) (h : IsRow .u8 w a len cap zs) :
    Calls Try.prog 3 #[.slice a len cap] w fun e w' => e = .returned (.bool true) ∧ Below w.heap.size w w' := by
  obtain ⟨i0, hi, hz0, hz1, hz2⟩ := info_parts Try.infoWt
  have hlen : len ≤ 9223372036854775807 := by
    rcases h with ⟨_, rfl, _⟩ | ⟨x, _, h1, h2, _⟩
    · omega
    · unfold maxLen at h2; omega
  have HI := Lib.hid h; have HIN := Lib.hid hi
  clear h hi
  by_cases hbig : 1048576 < len
  · go_enter Try.func3, Try.ntmps3
    go_wp2_with fail
    go_ret
    exact ⟨rfl, Below.refl _ _⟩
  go_enter Try.func3, Try.ntmps3
  go_wp2_with fail
  refine (draw_codmask a len cap zs _ HI.out).mono ?_
  rintro e w1 ⟨⟨v, ws, rfl, ho, hne, hn⟩, hb1⟩
  have hW : ∀ W, Below w1.heap.size w1 W → WRow W v ws := fun W hW => (wrow_of_own ho).below (Nat.le_refl _) hW
  have hO : ∀ W, Below w1.heap.size w1 W → W.ownsRow w.heap.size 27 2 v ws.length (wcells ws) := fun W hW => own_below ho hW
  have hform : ∃ g vc, v = .slice (some ⟨g, 0, none⟩) ws.length vc := by
    rcases own_wants ho with ⟨h, _⟩ | ⟨g, vc, h, _⟩
    · exact absurd h hne
    · exact ⟨g, vc, h⟩
  obtain ⟨g, vc, rfl⟩ := hform
  have HW := Lib.hid hW; have HO := Lib.hid hO; have HB1 := Lib.hid hb1
  have hm0 := maskL_lt ws
  have hs1 := hb1.size
  have HMI : Hid (∀ c : Int, c = 0 ∨ c = 1 ∨ c = 2 → inB (maskL ws : Int) c = decide (0 < qual ws c)) := Lib.hid fun c hc => mask_in ws c hc
  clear hW hO ho hne hb1
  have HMG : Hid (∀ W, Below w1.heap.size w1 W → Calls Try.prog 7 #[.slice (some ⟨g, 0, none⟩) ws.length vc] W fun e w' => e = .returned (.int .i64 (maskL ws : Int)) ∧ Below W.heap.size W w') := Lib.hid fun W hW => impl_mask _ ws W (HW.out W hW)
  have HSG : Hid (∀ W, Below w1.heap.size w1 W → Calls Try.prog 8 #[.slice (some ⟨g, 0, none⟩) ws.length vc] W fun e w' => e = .returned (.int .i64 (maskL ws : Int)) ∧ ∃ n, w' = W.drewN n) := Lib.hid fun W hW => spec_mask _ ws W (HW.out W hW)
  generalize hm : maskL ws = m at *
  have HM := Lib.hid hm
  clear hm
  go_wp2_with fail
  refine (HMG.out _ (Below.refl _ _)).mono ?_
  rintro e w2 ⟨rfl, hb2⟩
  go_wp2_with fail
  refine (HSG.out _ hb2).mono ?_
  rintro e w3 ⟨rfl, n3, rfl⟩
  have hb3 := Lib.hid (below_drewN (n := n3) hb2)
  clear hb2 HMG HSG
  go_wp2
  go_loopw [5] (fun i wr => ∃ k : Nat, k ≤ 3 ∧ i = .int .i64 k ∧ Below w1.heap.size w1 wr) (fun i _ => 3 - (intOf i).toNat)
  case atStart => exact ⟨0, by omega, rfl, hb3.out⟩
  case round =>
    obtain ⟨k, hk, rfl, hb⟩ := hrel
    by_cases hlt : k < 3
    · have hsr := hb.size
      have hk2 : (k : Int) ≤ 2 := by omega
      have HK := Lib.hid hb
      clear hb
      have HMa : Hid ((wr.alloc (.cells #[] 27)).ownsRow wr.heap.size 27 2 (.slice (some ⟨wr.heap.size, 0, none⟩) 0 0) 0 []) := Lib.hid (World.ownsRow_made wr #[] 0 (Nat.le_refl _) (by decide) rfl)
      have HAa : Hid (Below wr.heap.size wr (wr.alloc (.cells #[] 27))) := Lib.hid ((Below.refl _ _).alloc (Nat.le_refl _) _)
      have HSa : Hid (∀ W, Below wr.heap.size wr W → ∀ j u, (wcells ws)[j]? = some u → W.cell? ((⟨g, 0, none⟩ : Addr).add j) = some u) := Lib.hid fun W hW => (HO.out W (HK.out.trans (hW.mono HK.out.size))).cells rfl
      go_wp2_with (at_builtin; first | (refine wpList_append_own _ rfl _ _ 23 (by rfl) wr.heap.size 27 i0 _ 2 16 Try.underlying23 HIN.out hz0 hz1 hz2 (by rfl) (by decide) _ 0 [] (by rfl) HMa.out ⟨g, 0, none⟩ ws.length vc (wcells ws) (by rfl) (wcells_len ws) (HSa.out _ HAa.out) (wcells_one ws) (by unfold maxLen; omega) (by omega) (by simp) ?_; intro v4 w4 ho4 hg4 _; have hb4 := HAa.out.grown hg4 (by simp) (fun k hk => by cases hk; exact Nat.le_refl _); have hvl4 := ho4.lt; clear hg4) | (go_must (refine wpList_append_own _ rfl _ _ 23 (by rfl) wr.heap.size 27 i0 _ 2 16 Try.underlying23 HIN.out hz0 hz1 hz2 (by rfl) (by decide) _ (0 + ws.length) ([] ++ wcells ws) (by rfl) (ho4.alloc _) ⟨w4.heap.size, 0, none⟩ 1 1 [.int .i64 (k : Int), .int .i64 1] (by rfl) (by rfl) (pair_newI w4 _ _ _) (by intro x hx; simp at hx; rcases hx with rfl | rfl <;> rfl) (by unfold maxLen; omega) (by omega) (by have := hb4.size; simp; omega) ?_); intro v5 w5 ho5 hg5 _; have hb5 := (hb4.alloc hb4.size (.cells #[.int .i64 (k : Int), .int .i64 1] 27)).grown hg5 (by have := hb4.size; simp; omega) (fun k hk => (hvl4 k hk).1); clear hg5 ho4 hvl4))
      have ho6 : w5.ownsRow wr.heap.size 27 2 v5 (ws ++ [((k : Int), 1)]).length (wcells (ws ++ [((k : Int), 1)])) := by
        rw [wcells_app, List.length_append]
        simpa [Nat.zero_add] using ho5
      have hWr := wrow_of_own ho6
      clear ho5 ho6
      refine (impl_mask _ (ws ++ [((k : Int), 1)]) _ hWr).mono ?_
      rintro e w6 ⟨rfl, hb6⟩
      have HBw6 : Hid (Below w1.heap.size w1 w6) := Lib.hid (HK.out.trans ((hb5.trans (hb6.mono hb5.size)).mono HK.out.size))
      clear hb4 hb5 hb6 hWr
      have HMb : Hid ((w6.alloc (.cells #[] 27)).ownsRow w6.heap.size 27 2 (.slice (some ⟨w6.heap.size, 0, none⟩) 0 0) 0 []) := Lib.hid (World.ownsRow_made w6 #[] 0 (Nat.le_refl _) (by decide) rfl)
      have HAb : Hid (Below w6.heap.size w6 (w6.alloc (.cells #[] 27))) := Lib.hid ((Below.refl _ _).alloc (Nat.le_refl _) _)
      have HSb : Hid (∀ W, Below w6.heap.size w6 W → ∀ j u, (wcells ws)[j]? = some u → W.cell? ((⟨g, 0, none⟩ : Addr).add j) = some u) := Lib.hid fun W hW => (HO.out W (HBw6.out.trans (hW.mono HBw6.out.size))).cells rfl
      go_wp2_with (at_builtin; first | (refine wpList_append_own _ rfl _ _ 23 (by rfl) w6.heap.size 27 i0 _ 2 16 Try.underlying23 HIN.out hz0 hz1 hz2 (by rfl) (by decide) _ 0 [] (by rfl) HMb.out ⟨g, 0, none⟩ ws.length vc (wcells ws) (by rfl) (wcells_len ws) (HSb.out _ HAb.out) (wcells_one ws) (by unfold maxLen; omega) (by omega) (by simp) ?_; intro v4 w4 ho4 hg4 _; have hb4 := HAb.out.grown hg4 (by simp) (fun k hk => by cases hk; exact Nat.le_refl _); have hvl4 := ho4.lt; clear hg4) | (go_must (refine wpList_append_own _ rfl _ _ 23 (by rfl) w6.heap.size 27 i0 _ 2 16 Try.underlying23 HIN.out hz0 hz1 hz2 (by rfl) (by decide) _ (0 + ws.length) ([] ++ wcells ws) (by rfl) (ho4.alloc _) ⟨w4.heap.size, 0, none⟩ 1 1 [.int .i64 (k : Int), .int .i64 0] (by rfl) (by rfl) (pair_newI w4 _ _ _) (by intro x hx; simp at hx; rcases hx with rfl | rfl <;> rfl) (by unfold maxLen; omega) (by omega) (by have := hb4.size; simp; omega) ?_); intro v5 w5 ho5 hg5 _; have hb5 := (hb4.alloc hb4.size (.cells #[.int .i64 (k : Int), .int .i64 0] 27)).grown hg5 (by have := hb4.size; simp; omega) (fun k hk => (hvl4 k hk).1); clear hg5 ho4 hvl4))
      have ho6 : w5.ownsRow w6.heap.size 27 2 v5 (ws ++ [((k : Int), 0)]).length (wcells (ws ++ [((k : Int), 0)])) := by
        rw [wcells_app, List.length_append]
        simpa [Nat.zero_add] using ho5
      have hWr := wrow_of_own ho6
      clear ho5 ho6
      refine (impl_mask _ (ws ++ [((k : Int), 0)]) _ hWr).mono ?_
      rintro e w7 ⟨rfl, hb6⟩
      have HBw7 : Hid (Below w1.heap.size w1 w7) := Lib.hid (HBw6.out.trans ((hb5.trans (hb6.mono hb5.size)).mono HBw6.out.size))
      clear hb4 hb5 hb6 hWr
      have hkc : (k : Int) = 0 ∨ (k : Int) = 1 ∨ (k : Int) = 2 := by omega
      have hm1 := mask_in (ws ++ [((k : Int), 1)]) (k : Int) hkc
      have hm2 := mask_in (ws ++ [((k : Int), 0)]) (k : Int) hkc
      rw [qual_same _ _ _ (by omega)] at hm1 hm2
      have hoth : ∀ (j : Nat) (q : Int), (j : Int) = 0 ∨ (j : Int) = 1 ∨ (j : Int) = 2 → (j : Int) ≠ k → inB (maskL (ws ++ [((k : Int), q)]) : Int) (j : Int) = inB (m : Int) (j : Int) := fun j q hj hjk => by
        rw [mask_in _ _ hj, qual_other _ _ _ _ (by omega) hjk, HMI.out _ hj]
      have HOT1 := Lib.hid (fun j => hoth j 1); have HOT2 := Lib.hid (fun j => hoth j 0)
      have HC1 := Lib.hid (fun c W => impl_codin (maskL (ws ++ [((k : Int), 1)]) : Int) c W)
      have HC2 := Lib.hid (fun c W => impl_codin (maskL (ws ++ [((k : Int), 0)]) : Int) c W)
      have HC0 := Lib.hid (fun c W => impl_codin (m : Int) c W)
      have HK1 := Lib.hid (HC1.out (k : Int)); have HK2 := Lib.hid (HC2.out (k : Int))
      rw [hm1] at HK1
      rw [hm2] at HK2
      clear hm1 hm2 hoth hkc
      generalize maskL (ws ++ [((k : Int), 1)]) = M1 at *
      generalize maskL (ws ++ [((k : Int), 0)]) = M2 at *
      simp only [show decide ((0 : Int) < 1) = true from rfl, show decide ((0 : Int) < 0) = false from rfl] at HK1 HK2
      go_wp2_with fail
      refine (HK1.out _).mono ?_
      rintro e w8 ⟨rfl, rfl⟩
      go_wp2_with fail
      refine (HK2.out _).mono ?_
      rintro e w8 ⟨rfl, rfl⟩
      go_wp2
      go_loopw [8] (fun i wr => wr = w7 ∧ ∃ j : Nat, j ≤ 3 ∧ i = .int .i64 j) (fun i _ => 3 - (intOf i).toNat)
      case atStart => exact ⟨rfl, 0, by omega, rfl⟩
      case round =>
        obtain ⟨rfl, j, hj, rfl⟩ := hrel
        by_cases hjl : j < 3
        · have hj2 : (j : Int) ≤ 2 := by omega
          by_cases hjk : (j : Int) = k
          · have hjn : ((j : Int) != (k : Int)) = false := by rw [hjk]; simp
            clear hjk
            go_wp2
            go_roundw
            case rel => exact ⟨trivial, j + 1, by omega, by go_num⟩
            case measure => simp [intOf]; omega
          · have hjn : ((j : Int) != (k : Int)) = true := bne_iff_ne.2 hjk
            have hjc : (j : Int) = 0 ∨ (j : Int) = 1 ∨ (j : Int) = 2 := by omega
            have e1 := HOT1.out j hjc hjk
            have e2 := HOT2.out j hjc hjk
            have HJ1 := Lib.hid (HC1.out (j : Int)); have HJ2 := Lib.hid (HC2.out (j : Int)); have HJ0 := Lib.hid (HC0.out (j : Int))
            rw [e1] at HJ1
            rw [e2] at HJ2
            clear e1 e2 hjk hjc
            generalize inB (m : Int) (j : Int) = bb at *
            go_wp2_with fail
            refine (HJ1.out _).mono ?_
            rintro e w8 ⟨rfl, rfl⟩
            go_wp2_with fail
            refine (HJ0.out _).mono ?_
            rintro e w8 ⟨rfl, rfl⟩
            go_wp2_with fail
            refine (HJ2.out _).mono ?_
            rintro e w8 ⟨rfl, rfl⟩
            go_wp2_with fail
            refine (HJ0.out _).mono ?_
            rintro e w8 ⟨rfl, rfl⟩
            go_wp2
            go_roundw
            case rel => exact ⟨trivial, j + 1, by omega, by go_num⟩
            case measure => simp [intOf]; omega
        · have hj3 : j = 3 := by omega
          subst hj3
          go_wp2
          go_roundw
          case rel => exact ⟨k + 1, by omega, by go_num, HBw7.out⟩
          case measure => simp [intOf]; omega
    · have hk3 : k = 3 := by omega
      subst hk3
      have HBR := Lib.hid (HB1.out.trans (hb.mono hs1))
      have hE : WRow (wr.alloc (.cells #[] 27)) (.slice (some ⟨wr.heap.size, 0, none⟩) 0 0) [] := wrow_of_own (World.ownsRow_made wr #[] 0 (Nat.le_refl _) (by decide) rfl : (wr.alloc (.cells #[] 27)).ownsRow wr.heap.size 27 2 (.slice (some ⟨wr.heap.size, 0, none⟩) 0 0) 0 [])
      have HE := Lib.hid (impl_mask _ [] _ hE)
      rw [show maskL [] = 1 from rfl] at HE
      have HAL : Hid (Below w.heap.size w (wr.alloc (.cells #[] 27))) := Lib.hid (HBR.out.alloc HBR.out.size _)
      clear hE hb
      go_wp2_with fail
      refine HE.out.mono ?_
      rintro e w5 ⟨rfl, hb5⟩
      go_wp2
      go_ret
      exact ⟨rfl, HAL.out.trans (hb5.mono HAL.out.size)⟩
namespace Lw
theorem fnCodMask (w : World) (a : Option Addr) (len cap : Nat) (zs : List Int) (h : IsRow .u8 w a len cap zs) :
    Calls Try.prog 3 #[.slice a len cap] w fun e w' => e = .returned (.bool true) ∧ Below w.heap.size w w' := law_codmaskd a len cap zs w h
end Lw
end Go.Proofs.Ytlfcamapjeldjaa
