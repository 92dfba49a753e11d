/- Walks: seals, by the program: the fold, and a seal. -/
import Derived.Test.YtbhnjnoblkfckabDoorSlJ
namespace Go.Proofs.YtbhnjnoblkfckabDoor
open Go.RowKit Go.Shelf
attribute [local go_sem] Oper.semAt_some

theorem sumS_take {L : List Int} {k : Nat} (hk : k < L.length) : sumS (L.take (k + 1)) = mixS (sumS (L.take k)) (L.getD k 0) := by
  rw [List.take_add_one, List.getElem?_eq_getElem hk, List.getD_eq_getElem?_getD, List.getElem?_eq_getElem hk]
  exact sumS_snoc _ _
theorem parts_bd {key : Int} {p : List UInt8} {u : Bool} {t n : Int} (h1 : 1 ≤ key) (h2 : key ≤ 9999) (hp : p.length ≤ 40) (ht : 0 ≤ t ∧ t ≤ 999999) (hn : 0 ≤ n ∧ n ≤ 999999) (k : Nat) :
    0 ≤ (partS key p u t n).getD k 0 ∧ (partS key p u t n).getD k 0 ≤ 1000000 := by
  have hall : ∀ x ∈ partS key p u t n, 0 ≤ x ∧ x ≤ 1000000 := by
    intro x hx
    unfold partS tailS numS at hx
    simp only [List.mem_append, List.mem_cons, List.mem_map, List.not_mem_nil, or_false] at hx
    rcases hx with ((rfl | rfl) | ⟨c, -, rfl⟩) | (rfl | rfl | rfl | rfl | rfl)
    · omega
    · omega
    · have := c.toNat_lt; omega
    · omega
    · split <;> omega
    · omega
    · omega
    · omega
  rw [List.getD_eq_getElem?_getD]
  cases hg : (partS key p u t n)[k]? with
  | none => simp
  | some x => exact hall x (List.mem_of_getElem? hg)

set_option maxRecDepth 100000 in
set_option maxHeartbeats 3200000 in
theorem fold_seal (key : Int) (s : Sl) (kb sb : Nat) (w : World) (h1 : 1 ≤ key) (h2 : key ≤ 9999) (hp : s.path.size ≤ 40) (ht : 0 ≤ s.til ∧ s.til ≤ 999999) (hn : 0 ≤ s.nonce ∧ s.nonce ≤ 999999)
    (hkb : w.cell? ⟨kb, 0, none⟩ = some (.int .i64 key)) (hkl : kb < w.heap.size) (hsb : w.heap[sb]? = some (.cells #[.string s.path, .bool s.under, .int .i64 s.til, .int .i64 s.nonce, .int .i64 s.code] 29 (0, 0))) :
    Calls Tryd.prog 16 #[.int .i64 7, .func (.func 28) #[] #[.pointer (some ⟨kb, 0, none⟩), .pointer (some ⟨sb, 0, none⟩)], .func (.func 18) #[] #[]] w fun e w' => e = .returned (.int .i64 (sumS (partS key s.path.data.toList s.under s.til s.nonce))) ∧ Below w.heap.size w w' := by
  have hro : Fence.wide.round = none := rfl
  have hsl : sb < w.heap.size := (Array.getElem?_eq_some_iff.1 hsb).1
  have hpl : s.path.data.toList.length ≤ 40 := by rw [← size_len]; exact hp
  have hbd := fun k => parts_bd (p := s.path.data.toList) (u := s.under) h1 h2 hpl ht hn k
  have hlen : (partS key s.path.data.toList s.under s.til s.nonce).length = s.path.size + 7 := by rw [parts_len, size_len]
  have hSeq := seal_seq 8 (by decide) key s kb sb (w.heap.size + 1) ⟨h1, h2⟩ hp
  generalize partS key s.path.data.toList s.under s.til s.nonce = L at *
  obtain ⟨N, hN⟩ : ∃ N, N = s.path.size + 7 := ⟨_, rfl⟩
  rw [← hN] at hlen hSeq
  have HBd := Lib.hid hbd
  have HLen := Lib.hid hlen
  have HSeq := Lib.hid hSeq
  have HK := Lib.hid (And.intro hkb hsb)
  clear hbd hlen hSeq hpl hN hkb hsb
  refine (callsIn_wide (n := 9)).1 ?_
  refine callsIn_of_wp_marks Tryd.func16 rfl trivial ?_ hro
  simp only [Tryd.ntmps16, List.size_toArray, List.length_cons, List.length_nil, Nat.reduceAdd, Nat.reduceSub, Array.replicate_succ, Array.replicate_zero, List.push_toArray, List.append_toArray, List.nil_append, List.cons_append]
  gi_wp2_with fail
  obtain ⟨W0, hW0⟩ : ∃ W0, (w.alloc (.cells #[.func (.func 18) #[] #[]] 43)).alloc (.cells #[.int .i64 7] 3) = W0 := ⟨_, rfl⟩
  have b5 := (Boxed.new w 43 (.func (.func 18) #[] #[])).alloc (.cells #[.int .i64 7] 3)
  have b7 := Boxed.new (w.alloc (.cells #[.func (.func 18) #[] #[]] 43)) 3 (.int .i64 7)
  have hb0 : Below w.heap.size w ((w.alloc (.cells #[.func (.func 18) #[] #[]] 43)).alloc (.cells #[.int .i64 7] 3)) := ((Below.refl _ w).alloc (Nat.le_refl _) _).alloc (by simp) _
  have hs0 : ((w.alloc (.cells #[.func (.func 18) #[] #[]] 43)).alloc (.cells #[.int .i64 7] 3)).heap.size = w.heap.size + 2 := by simp
  simp only [World.size_alloc] at b7
  rw [hW0] at b5 b7 hb0 hs0 ⊢
  clear hW0
  refine wpIn_rangeCntK (K := CellsBut (w.heap.size + 1)) hro (by decide) (gf := 28) (lb := #[.pointer (some ⟨kb, 0, none⟩), .pointer (some ⟨sb, 0, none⟩)]) rfl trivial (enters_of Tryd.func28 (by kernel_rfl) rfl)
    (fun h k => h.trans k) (fun X q r r' h => CellsBut.put X q r r' h) HSeq.out (fun _ => rfl)
    (fun k W => Boxed W (w.heap.size + 1) 3 (.int .i64 (sumS (L.take k))) ∧ Boxed W w.heap.size 43 (.func (.func 18) #[] #[]) ∧ Below w.heap.size w W)
    (fun _ _ _ => False)
    (OwnFrom.and (Own.from (boxed_own (w.heap.size + 1) 3 (fun k => .int .i64 (sumS (L.take k)))) _) (OwnFrom.and (Own.from (boxed_own _ _ _) _) (ownFrom_below (Nat.le_refl _) (by omega))))
    (fun c' => ownFrom_pure _ _)
    (fun k W hI => ⟨by have := hI.1.lt; omega, by omega, (hI.2.2.cell (p := ⟨kb, 0, none⟩) hkl).trans HK.out.1, (hI.2.2.block sb hsl).trans HK.out.2⟩)
    ⟨b7, b5, hb0⟩
    (fun k => { tmps := #[.int .i64 7, .func (.func 28) #[] #[.pointer (some ⟨kb, 0, none⟩), .pointer (some ⟨sb, 0, none⟩)], .func (.func 18) #[] #[], undef, undef, .pointer (some ⟨w.heap.size, 0, none⟩), .int .i64 0, .pointer (some ⟨w.heap.size + 1, 0, none⟩), .int .i64 (L.getD k 0), .int .i64 7, .func (.func 28) #[] #[.pointer (some ⟨kb, 0, none⟩), .pointer (some ⟨sb, 0, none⟩)], .int .i64 (L.getD k 0), undef, undef, undef, undef, undef], defers := [] })
    ?assign ?body ?done ?stop
  case assign =>
    intro l k W K2 hK
    generalize L.getD k 0 = z at hK ⊢
    gi_wp2
    exact hK
  case body =>
    rintro l k W hl ⟨r, hr⟩ hk ⟨c7, c5, hBW⟩
    have hkL : k < L.length := by rw [HLen.out]; exact hk
    have hM := impl_mixed (sumS (L.take k)) (L.getD k 0) W (sumS_lt _).1 (sumS_lt _).2 (HBd.out k).1 (HBd.out k).2
    rw [← sumS_take hkL] at hM
    have q7 := c7.cell
    have f7 := c7.frozen
    have q5 := c5.cell
    have HF : Hid (cntPostK W0.heap.size (CellsBut (w.heap.size + 1)) (fun k W => Boxed W (w.heap.size + 1) 3 (.int .i64 (sumS (L.take k))) ∧ Boxed W w.heap.size 43 (.func (.func 18) #[] #[]) ∧ Below w.heap.size w W) (fun _ _ _ => False) (k + 1) W .normal { tmps := #[], defers := [] } (W.setCell ⟨w.heap.size + 1, 0, none⟩ (.int .i64 (sumS (L.take (k + 1)))))) := Lib.hid (by
      have hoth : ∀ j, j ≠ w.heap.size + 1 → (W.setCell ⟨w.heap.size + 1, 0, none⟩ (.int .i64 (sumS (L.take (k + 1))))).heap[j]? = W.heap[j]? := fun j hj => heap_setCell_other W ⟨w.heap.size + 1, 0, none⟩ j _ hj
      refine ⟨⟨by simp, fun j o hj ho _ => (hoth j (by omega)).trans ho⟩, ⟨c7.set _, (hoth w.heap.size (by omega)).trans c5, hBW.setCell (p := ⟨w.heap.size + 1, 0, none⟩) (by simp) _⟩, ⟨by simp, fun j cs T f hj hx => (hoth j hj).trans hx⟩⟩)
    generalize sumS (L.take (k + 1)) = S2 at *
    generalize sumS (L.take k) = S1 at *
    generalize L.getD k 0 = z at *
    clear c7 c5 hBW
    gi_wp2_with fail
    refine ⟨trivial, ?_⟩
    refine (CallsIn.inRound l (callsIn_wide.2 hM)).mono ?_
    rintro e w' ⟨rfl, rfl⟩
    clear hM
    gi_wp2
    exact HF.out
  case stop => exact fun D c k W _ _ h _ => h.elim
  case done =>
    rintro D W hD ⟨c7, c5, hBW⟩ hd
    rw [List.take_of_length_le (by rw [HLen.out]; exact Nat.le_refl _)] at c7
    have q7 := c7.cell
    have HB := Lib.hid hBW
    have Hd := Lib.hid hd
    obtain ⟨S, hS⟩ : ∃ S, S = sumS L := ⟨_, rfl⟩
    rw [← hS] at q7
    have HS := Lib.hid hS
    clear c7 c5 hBW hd hS
    gi_wp2
    refine ⟨by simp, .inl ⟨_, _, rfl, run_takeDeferred Hd.out, ?_⟩⟩
    refine ⟨.int .i64 S, ?_, by rw [HS.out], ?_⟩
    · simp [results, Tryd.f16, go_sem]
    · exact HB.out.trans (belowK_b (w := w) (Nat.le_refl _) _ D _ _ (by omega) Hd.out rfl rfl)
end Go.Proofs.YtbhnjnoblkfckabDoor
