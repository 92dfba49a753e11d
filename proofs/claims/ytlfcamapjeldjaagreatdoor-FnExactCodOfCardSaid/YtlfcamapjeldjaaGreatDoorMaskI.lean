/- Walks: the set of what would be taken, by the program. -/
import Derived.Test.YtlfcamapjeldjaaGreatDoorWant
import Derived.Test.YtlfcamapjeldjaaGreatDoorRegR
namespace Go.Proofs.YtlfcamapjeldjaaGreatDoor
open Go.RowKit Go.Maps

set_option maxHeartbeats 1600000 in
theorem last_quality (v : Value) (ws : List Wt) (c o : Int) (w : World) (hF : WRow w v ws) :
    Calls Tryz.prog 57 #[v, .int .i64 c, .int .i64 o] w fun e w' => e = .returned (.int .i64 (lastQ ws c o)) ∧ Below w.heap.size w w' := by
  obtain ⟨a, cap, rfl, h1, h2, h3⟩ := hF
  unfold maxLen at h2
  have H3 := Lib.hid h3; clear h3
  go_enter Tryz.func57, Tryz.ntmps57
  go_wp2
  go_loopw [7, 13] (fun q i wr => ∃ k : Nat, k ≤ ws.length ∧ i = .int .i64 k ∧ q = .int .i64 (lastQ (ws.take k) c o) ∧ Below w.heap.size w wr) (fun _ i _ => ws.length - (intOf i).toNat)
  case atStart => exact ⟨0, Nat.zero_le _, rfl, rfl, Below.refl _ _⟩
  case round =>
    obtain ⟨k, hk, rfl, rfl, hb⟩ := hrel
    by_cases hlt : k < ws.length
    · obtain ⟨b1, o1, rfl, hb1, c1, c2⟩ := H3.out k ws[k] (List.getElem?_eq_getElem hlt)
      obtain ⟨f, hf⟩ : ∃ f, f = ws[k] := ⟨_, rfl⟩
      rw [← hf] at c1 c2
      have hfk : ws[k]? = some f := by rw [hf]; exact List.getElem?_eq_getElem hlt
      clear hf
      have k1 := (hb.cell (p := ⟨b1, o1 + k * 2, none⟩) hb1).trans c1
      have k2 := (hb.cell (p := ⟨b1, o1 + k * 2 + 1, none⟩) hb1).trans c2
      have hst := lastQ_take hfk c o
      obtain ⟨x, y⟩ := f
      simp only at k1 k2 hst
      have HB := Lib.hid hb
      have hbn := Lib.hid (hb.alloc hb.size (.cells #[.int .i64 x, .int .i64 y] 52))
      clear c1 c2 hfk hb
      by_cases he : x = c
      · rw [if_pos he] at hst
        have HS := Lib.hid hst
        have hxe : (x == c) = true := beq_iff_eq.2 he
        clear hst he
        go_wp2
        go_roundw
        case rel => exact ⟨k + 1, by omega, by go_num, by rw [HS.out], hbn.out⟩
        case measure => simp [intOf]; omega
      · rw [if_neg he] at hst
        have HS := Lib.hid hst
        have hxe : (x == c) = false := beq_eq_false_iff_ne.2 he
        clear hst he
        go_wp2
        go_roundw
        case rel => exact ⟨k + 1, by omega, by go_num, by rw [HS.out], hbn.out⟩
        case measure => simp [intOf]; omega
    · have hkn : k = ws.length := by omega
      subst hkn
      have HQ := Lib.hid (show lastQ (ws.take ws.length) c o = lastQ ws c o from by rw [List.take_length])
      go_wp2
      go_ret
      exact ⟨by rw [← HQ.out]; rfl, hb⟩

theorem eqs_at (xs : List Value) (i : Nat) (v : Value) (w w' : World) (h : RAt (xs.map REq) i v w) : RAt (xs.map REq) i v w' := by
  unfold RAt at h ⊢
  rw [List.getD_eq_getElem?_getD, List.getElem?_map] at h ⊢
  cases hx : xs[i]? with
  | none => trivial
  | some x => rw [hx] at h; exact h

set_option maxRecDepth 100000 in
set_option maxHeartbeats 3200000 in
theorem quality_of (b : Nat) (T : TypeId) (v : Value) (ws : List Wt) (c : Int) (w : World) (hF : WRow w v ws) (hbx : w.heap[b]? = some (.cells #[v] T (0, 0))) :
    Calls Tryz.prog 56 #[.int .i64 c, .pointer (some ⟨b, 0, none⟩)] w fun e w' => e = .returned (.int .i64 (qual ws c)) ∧ Below w.heap.size w w' := by
  have hblt : b < w.heap.size := (Array.getElem?_eq_some_iff.1 hbx).1
  have hX : ∀ W, Below w.heap.size w W → WRow W v ws ∧ W.cell? ⟨b, 0, none⟩ = some v := fun W hW => ⟨hF.below (Nat.le_refl _) hW, by
    have : W.heap[b]? = some (.cells #[v] T (0, 0)) := (hW.block b hblt).trans hbx
    simp [World.cell?, this]⟩
  have HX := Lib.hid hX
  have hc0 := (hX w (Below.refl _ _)).2
  clear hX hbx
  have HL : Hid (∀ (c o : Int) W, Below w.heap.size w W → Calls Tryz.prog 57 #[v, .int .i64 c, .int .i64 o] W fun e w' => e = .returned (.int .i64 (lastQ ws c o)) ∧ Below W.heap.size W w') := Lib.hid fun c o W hW => last_quality v ws c o W (HX.out W hW).1
  obtain ⟨va, vc, rfl, _⟩ := hF
  by_cases h0 : c = 0
  · have HQ := Lib.hid (show lastQ ws c (lastQ ws (-1) 1000) = qual ws c from by unfold qual; rw [if_pos h0])
    have hce : (c == 0) = true := beq_iff_eq.2 h0
    have H1 := Lib.hid (fun W (h : Below w.heap.size w W) => HL.out (-1) 1000 W h)
    have H2 := Lib.hid (fun W (h : Below w.heap.size w W) => HL.out c (lastQ ws (-1) 1000) W h)
    rw [HQ.out] at H2
    generalize lastQ ws (-1) 1000 = X at *
    generalize qual ws c = Y at *
    clear h0 HL HQ
    go_enter Tryz.func56, Tryz.ntmps56
    go_wp2_with fail
    refine wp_region_last (by kernel_rfl) 6 (by kernel_rfl) (by kernel_rfl) (by kernel_rfl)
      (fun u => { tmps := #[.int .i64 c, .pointer (some ⟨b, 0, none⟩), undef, .int .i64 0, .int .i64 1000, .int .i64 c, .bool true, u 0, u 1, u 2, u 3, u 4, u 5], defers := [] })
      (fun _ W => Below w.heap.size w W)
      (RAt ([.slice va ws.length vc, .int .i64 c, .slice va ws.length vc, .int .i64 1000, .int .i64 X, .int .i64 Y].map REq))
      (fun w w' => Below w.heap.size w w') (fun _ => undef) (Below.refl _ _).drew
      (fun i x wa wb _ hR _ => eqs_at _ i x wa wb hR) ?_ ?_
    · intro i hi u w1 kk hkk hC hd
      have hcw := (HX.out w1 hC).2
      match i, hi with
      | 0, _ =>
        refine wpOp_step rfl (fun K hK => ?_)
        clear hd
        go_simp
        exact hK _ _ ⟨_, rfl, rfl, Below.refl _ _, hC⟩
      | 1, _ =>
        refine wpOp_step rfl (fun K hK => ?_)
        clear hd
        go_simp
        exact hK _ _ ⟨_, rfl, rfl, Below.refl _ _, hC⟩
      | 2, _ =>
        refine wpOp_step rfl (fun K hK => ?_)
        clear hd
        go_simp
        exact hK _ _ ⟨_, rfl, rfl, Below.refl _ _, hC⟩
      | 3, _ =>
        refine wpOp_step rfl (fun K hK => ?_)
        clear hd
        go_simp
        exact hK _ _ ⟨_, rfl, rfl, Below.refl _ _, hC⟩
      | 4, _ =>
        have e2 : u 2 = .slice va ws.length vc := hd 2 (dep_of (by kernel_rfl))
        have e3 : u 3 = .int .i64 1000 := hd 3 (dep_of (by kernel_rfl))
        have hK1 := H1.out w1 hC
        refine wpOp_step rfl (fun K hK => ?_)
        clear hd
        go_simp
        refine hK1.mono ?_
        rintro e w2 ⟨rfl, hb2⟩
        exact hK _ _ ⟨_, by simp [upd, e2, e3], rfl, hb2, hC.trans (hb2.mono hC.size)⟩
      | 5, _ =>
        have e0 : u 0 = .slice va ws.length vc := hd 0 (dep_of (by kernel_rfl))
        have e1 : u 1 = .int .i64 c := hd 1 (dep_of (by kernel_rfl))
        have e4 : u 4 = .int .i64 X := hd 4 (dep_of (by kernel_rfl))
        have hK1 := H2.out w1 hC
        refine wpOp_step rfl (fun K hK => ?_)
        clear hd
        go_simp
        refine hK1.mono ?_
        rintro e w2 ⟨rfl, hb2⟩
        exact hK _ _ ⟨_, by simp [upd, e0, e1, e4], rfl, hb2, hC.trans (hb2.mono hC.size)⟩
    · intro u w1 kk hkk hC hd
      have e5 : u 5 = .int .i64 Y := hd 5 (by decide)
      have HB := Lib.hid hC
      refine wpOp_step rfl (fun K hK => ?_)
      clear hd
      go_simp
      refine hK _ _ ?_
      clear hK K hC
      go_wp2
      go_ret
      exact ⟨rfl, HB.out⟩
  · have HQ := Lib.hid (show lastQ ws c (lastQ ws (-1) 0) = qual ws c from by unfold qual; rw [if_neg h0])
    have hce : (c == 0) = false := beq_eq_false_iff_ne.2 h0
    have H1 := Lib.hid (fun W (h : Below w.heap.size w W) => HL.out (-1) 0 W h)
    have H2 := Lib.hid (fun W (h : Below w.heap.size w W) => HL.out c (lastQ ws (-1) 0) W h)
    rw [HQ.out] at H2
    generalize lastQ ws (-1) 0 = X at *
    generalize qual ws c = Y at *
    clear h0 HL HQ
    go_enter Tryz.func56, Tryz.ntmps56
    go_wp2_with fail
    refine wp_region_last (by kernel_rfl) 6 (by kernel_rfl) (by kernel_rfl) (by kernel_rfl)
      (fun u => { tmps := #[.int .i64 c, .pointer (some ⟨b, 0, none⟩), undef, .int .i64 0, .int .i64 0, .int .i64 c, .bool false, u 0, u 1, u 2, u 3, u 4, u 5], defers := [] })
      (fun _ W => Below w.heap.size w W)
      (RAt ([.slice va ws.length vc, .int .i64 c, .slice va ws.length vc, .int .i64 0, .int .i64 X, .int .i64 Y].map REq))
      (fun w w' => Below w.heap.size w w') (fun _ => undef) (Below.refl _ _).drew
      (fun i x wa wb _ hR _ => eqs_at _ i x wa wb hR) ?_ ?_
    · intro i hi u w1 kk hkk hC hd
      have hcw := (HX.out w1 hC).2
      match i, hi with
      | 0, _ =>
        refine wpOp_step rfl (fun K hK => ?_)
        clear hd
        go_simp
        exact hK _ _ ⟨_, rfl, rfl, Below.refl _ _, hC⟩
      | 1, _ =>
        refine wpOp_step rfl (fun K hK => ?_)
        clear hd
        go_simp
        exact hK _ _ ⟨_, rfl, rfl, Below.refl _ _, hC⟩
      | 2, _ =>
        refine wpOp_step rfl (fun K hK => ?_)
        clear hd
        go_simp
        exact hK _ _ ⟨_, rfl, rfl, Below.refl _ _, hC⟩
      | 3, _ =>
        refine wpOp_step rfl (fun K hK => ?_)
        clear hd
        go_simp
        exact hK _ _ ⟨_, rfl, rfl, Below.refl _ _, hC⟩
      | 4, _ =>
        have e2 : u 2 = .slice va ws.length vc := hd 2 (dep_of (by kernel_rfl))
        have e3 : u 3 = .int .i64 0 := hd 3 (dep_of (by kernel_rfl))
        have hK1 := H1.out w1 hC
        refine wpOp_step rfl (fun K hK => ?_)
        clear hd
        go_simp
        refine hK1.mono ?_
        rintro e w2 ⟨rfl, hb2⟩
        exact hK _ _ ⟨_, by simp [upd, e2, e3], rfl, hb2, hC.trans (hb2.mono hC.size)⟩
      | 5, _ =>
        have e0 : u 0 = .slice va ws.length vc := hd 0 (dep_of (by kernel_rfl))
        have e1 : u 1 = .int .i64 c := hd 1 (dep_of (by kernel_rfl))
        have e4 : u 4 = .int .i64 X := hd 4 (dep_of (by kernel_rfl))
        have hK1 := H2.out w1 hC
        refine wpOp_step rfl (fun K hK => ?_)
        clear hd
        go_simp
        refine hK1.mono ?_
        rintro e w2 ⟨rfl, hb2⟩
        exact hK _ _ ⟨_, by simp [upd, e0, e1, e4], rfl, hb2, hC.trans (hb2.mono hC.size)⟩
    · intro u w1 kk hkk hC hd
      have e5 : u 5 = .int .i64 Y := hd 5 (by decide)
      have HB := Lib.hid hC
      refine wpOp_step rfl (fun K hK => ?_)
      clear hd
      go_simp
      refine hK _ _ ?_
      clear hK K hC
      go_wp2
      go_ret
      exact ⟨rfl, HB.out⟩

theorem or_bits : ∀ m : Fin 8, (m.val < 1 → bits .or .i64 (m.val : Int) 1 = (m.val : Int) + 1) ∧ (m.val < 2 → bits .or .i64 (m.val : Int) 2 = (m.val : Int) + 2) ∧ (m.val < 4 → bits .or .i64 (m.val : Int) 4 = (m.val : Int) + 4) := by decide

set_option maxHeartbeats 800000 in
theorem with_code (m : Nat) (k : Nat) (hk : k < 3) (hm : m < 2 ^ k) (w : World) :
    Calls Tryz.prog 34 #[.int .i64 (m : Int), .int .i64 (k : Int)] w fun e w' => e = .returned (.int .i64 ((m + 2 ^ k : Nat) : Int)) ∧ w = w' := by
  have h3 : k = 0 ∨ k = 1 ∨ k = 2 := by omega
  have hm8 : m < 8 := by rcases h3 with rfl | rfl | rfl <;> simp at hm <;> omega
  obtain ⟨o1, o2, o4⟩ := or_bits ⟨m, hm8⟩
  simp only at o1 o2 o4
  rcases h3 with rfl | rfl | rfl
  · have o := o1 (by simpa using hm)
    clear o1 o2 o4
    go_enter Tryz.func34, Tryz.ntmps34
    go_wp2
    go_ret
    exact ⟨by simp, rfl⟩
  · have o := o2 (by simpa using hm)
    clear o1 o2 o4
    go_enter Tryz.func34, Tryz.ntmps34
    go_wp2
    go_ret
    exact ⟨by simp, rfl⟩
  · have o := o4 (by simpa using hm)
    clear o1 o2 o4
    go_enter Tryz.func34, Tryz.ntmps34
    go_wp2
    go_ret
    exact ⟨by simp, rfl⟩

set_option maxHeartbeats 400000 in
theorem qualities_of (a : Option Addr) (n c : Nat) (w : World) :
    Calls Tryz.prog 33 #[.slice a n c] w fun e w' => e = .returned (.func (.func 56) #[] #[.pointer (some ⟨w.heap.size, 0, none⟩)]) ∧ w' = w.alloc (.cells #[.slice a n c] 31) := by
  go_enter Tryz.func33, Tryz.ntmps33
  go_wp2
  go_ret
  exact ⟨rfl, rfl⟩

set_option maxHeartbeats 1600000 in
theorem impl_mask (v : Value) (ws : List Wt) (w : World) (hF : WRow w v ws) :
    Calls Tryz.prog 20 #[v] w fun e w' => e = .returned (.int .i64 (maskL ws : Int)) ∧ Below w.heap.size w w' := by
  have HM := Lib.hid (maskTo_all ws)
  obtain ⟨va, vc, rfl⟩ : ∃ va vc, v = .slice va ws.length vc := by
    obtain ⟨va, vc, e, _⟩ := hF
    exact ⟨va, vc, e⟩
  go_enter Tryz.func20, Tryz.ntmps20
  go_wp2_with fail
  refine (qualities_of va ws.length vc _).mono ?_
  rintro e w1 ⟨rfl, rfl⟩
  have hb1 : Below w.heap.size w (w.alloc (.cells #[.slice va ws.length vc] 31)) := (Below.refl _ _).alloc (Nat.le_refl _) _
  have hX1 : (w.alloc (.cells #[.slice va ws.length vc] 31)).heap[w.heap.size]? = some (.cells #[.slice va ws.length vc] 31 (0, 0)) := heap_alloc_new w _
  have hs1 : (w.alloc (.cells #[.slice va ws.length vc] 31)).heap.size = w.heap.size + 1 := by simp
  have HF := Lib.hid (hF.below (Nat.le_refl _) hb1)
  clear hF
  generalize (w.alloc (.cells #[.slice va ws.length vc] 31)) = w1 at *
  have HQ : Hid (∀ (c : Int) W, Below w1.heap.size w1 W → Calls Tryz.prog 56 #[.int .i64 c, .pointer (some ⟨w.heap.size, 0, none⟩)] W fun e w' => e = .returned (.int .i64 (qual ws c)) ∧ Below W.heap.size W w') := Lib.hid fun c W hW =>
    quality_of w.heap.size 31 (.slice va ws.length vc) ws c W (HF.out.below (Nat.le_refl _) hW) ((hW.block w.heap.size (by omega)).trans hX1)
  have HB1 := Lib.hid hb1
  clear hb1 hX1
  go_wp2
  go_loopw [4, 8] (fun m i wr => ∃ k : Nat, k ≤ 3 ∧ i = .int .i64 k ∧ m = .int .i64 (maskTo ws k : Int) ∧ Below w1.heap.size w1 wr) (fun _ i _ => 3 - (intOf i).toNat)
  case atStart => exact ⟨0, by omega, rfl, by rw [maskTo_zero]; rfl, Below.refl _ _⟩
  case round =>
    obtain ⟨k, hk, rfl, rfl, hb⟩ := hrel
    by_cases hlt : k < 3
    · have hst := maskTo_step ws k hlt
      have hmt := maskTo_lt ws k hk
      have hC := HQ.out (k : Int) wr hb
      have hW := fun W => with_code (maskTo ws k) k hlt hmt W
      generalize maskTo ws k = M at *
      generalize qual ws (k : Int) = Y at *
      have HST := Lib.hid hst; have HC := Lib.hid hC; have HW := Lib.hid hW
      clear hst hC hW hmt
      have hk3 : (k : Int) < 3 := by omega
      by_cases hY : 0 < Y
      · go_wp2_with fail
        refine HC.out.mono ?_
        rintro e w2 ⟨rfl, hb2⟩
        have hb02 := Lib.hid (hb.trans (hb2.mono hb.size))
        go_wp2_with fail
        refine (HW.out _).mono ?_
        rintro e w3 ⟨rfl, rfl⟩
        have hst := HST.out
        rw [if_pos hY] at hst
        have HM1 := Lib.hid hst
        clear hst
        go_wp2
        go_roundw
        case rel => exact ⟨k + 1, by omega, by go_num, by rw [HM1.out]; simp, hb02.out⟩
        case measure => simp [intOf]; omega
      · go_wp2_with fail
        refine HC.out.mono ?_
        rintro e w2 ⟨rfl, hb2⟩
        have hb02 := Lib.hid (hb.trans (hb2.mono hb.size))
        have hst := HST.out
        rw [if_neg (by omega)] at hst
        have HM1 := Lib.hid hst
        clear hst
        go_wp2
        go_roundw
        case rel => exact ⟨k + 1, by omega, by go_num, by rw [HM1.out]; rfl, hb02.out⟩
        case measure => simp [intOf]; omega
    · have hkn : k = 3 := by omega
      subst hkn
      rw [HM.out]
      have HBF := Lib.hid (HB1.out.trans (hb.mono (by omega)))
      go_wp2
      go_ret
      exact ⟨rfl, HBF.out⟩
end Go.Proofs.YtlfcamapjeldjaaGreatDoor
