/- The law on a key's text, read, exact. -/
import Derived.Test.YtiepobifbkleaaaGreatDoorGKyL
import Derived.Test.YtiepobifbkleaaaGreatDoorKyRI
import Derived.Test.YtiepobifbkleaaaGreatDoorKyRS
namespace Go.Proofs.YtiepobifbkleaaaGreatDoor
open Go.RowKit Go.Maps

set_option maxRecDepth 100000 in
set_option maxHeartbeats 6400000 in
theorem law_keyread (hs : List Hs) (v : Value) (s : ByteArray) (w : World) (hH : HRow w v hs) (hN : HOks hs maxLen) (hs1 : s.size ≤ maxLen) (hcls : Cls w) (htab : Tab w) (herr : Errs w) :
    Calls Tryz.prog 10 #[.agg #[v], .string s] w fun e w' => e = .returned (.bool true) ∧ Below w.heap.size w w' := by
  have hs1' := hs1
  unfold maxLen at hs1'
  by_cases hbig : 1048576 < s.size
  · obtain ⟨va, vc, rfl, _⟩ := hH
    clear hN hcls htab herr hs1
    go_enter Tryz.func10, Tryz.ntmps10
    go_wp2_with fail
    go_ret
    exact ⟨rfl, (Below.refl _ _).alloc (Nat.le_refl _) _⟩
  have HS1 := Lib.hid hs1
  have hS1b : s.size ≤ 1048576 := by omega
  clear hs1
  obtain ⟨wA, hwA⟩ : ∃ wA, wA = w.alloc (.cells #[v] 65) := ⟨_, rfl⟩
  have hsA : wA.heap.size = w.heap.size + 1 := by rw [hwA]; simp
  have hbA : Below w.heap.size w wA := by rw [hwA]; exact (Below.refl _ _).alloc (Nat.le_refl _) _
  have hX0 : wA.heap[w.heap.size]? = some (.cells #[v] 65 (0, 0)) := by rw [hwA]; exact heap_alloc_new w _
  have HX : Hid (∀ W, Below wA.heap.size wA W → (Cls W ∧ Tab W ∧ Errs W) ∧ HRow W v hs ∧ Below w.heap.size w W ∧ W.heap[w.heap.size]? = some (.cells #[v] 65 (0, 0))) := Lib.hid fun W hW => by
    have hb := hbA.trans (hW.mono (by omega))
    exact ⟨⟨hcls.below hb (Nat.le_refl _), htab.below hb (Nat.le_refl _), herr.below hb (Nat.le_refl _)⟩, hH.below (Nat.le_refl _) hb, hb, (hW.block w.heap.size (by omega)).trans hX0⟩
  have hb0 : Below wA.heap.size wA wA := Below.refl _ _
  have hSz := szt_cfg v hs wA (HX.out _ hb0).2.1 hN
  obtain ⟨va, vc, rfl, _⟩ := hH
  obtain ⟨t0, _⟩ := one_fact hX0
  rw [hwA] at t0
  have HW := Lib.hid hwA
  clear hwA hbA hX0 hN hcls htab herr
  go_enter Tryz.func10, Tryz.ntmps10
  go_wp2_with fail
  rw [← HW.out]
  refine hSz.mono ?_
  rintro e w1 ⟨⟨r, rfl, hr⟩, hb1⟩
  clear hSz hb0 t0
  rcases hr with hr | ⟨hr, hz, hn, hm, _⟩
  · have HB := Lib.hid (HX.out _ hb1).2.2.1
    clear hb1
    go_wp2
    go_ret
    exact ⟨rfl, HB.out⟩
  have i1 : ¬ r < 0 := by omega
  have HZ := Lib.hid hz
  have HM := Lib.hid hm
  clear hz hm
  obtain ⟨_, k2, _, k4⟩ := HX.out _ hb1
  obtain ⟨q0, _⟩ := one_fact k4
  have hT1 := to_cfg _ hs w1 k2 hn HM.out
  clear k2 k4
  go_wp2_with fail
  refine hT1.mono ?_
  rintro e w2 ⟨g1, G1, rfl, ho1, hb2⟩
  have hb02 := hb1.trans (hb2.mono hb1.size)
  have hS2 := spec_keyread hs _ s w2 (ho1.row hn HM.out) HZ.out hS1b
  have HI : Hid (∀ x W, HRow W x hs → Cls W ∧ Tab W ∧ Errs W → Calls Tryz.prog 14 #[.agg #[x], .string s] W fun e w' => e = .returned (.tuple #[keyV (keyR hs s.data.toList).1, .bool (keyR hs s.data.toList).2]) ∧ Below W.heap.size W w') := Lib.hid fun x W hx hc => impl_keyread hs x s W hx HZ.out hS1b hc.1 hc.2.1 hc.2.2
  generalize keyR hs s.data.toList = KR at *
  obtain ⟨⟨kh, kp, km⟩, ok⟩ := KR
  have hEQ := fun W => eq_key ⟨kh, kp, km⟩ W
  unfold keyV at hS2 HI hEQ
  dsimp only at hS2 HI hEQ
  have HEQ := Lib.hid hEQ
  have eX := bne_self ok
  clear hb1 hb2 hT1 ho1 q0 hEQ
  go_wp2_with fail
  refine hS2.mono ?_
  rintro e w3 ⟨rfl, hb3⟩
  have hb03 := hb02.trans (hb3.mono hb02.size)
  obtain ⟨w3b, hw3b⟩ : ∃ x, x = w3.alloc (.cells #[.int .i64 kh, .string kp, .int .i64 km] 27) := ⟨_, rfl⟩
  have hs3b : w3b.heap.size = w3.heap.size + 1 := by rw [hw3b]; simp
  have hb3b : Below w3.heap.size w3 w3b := by rw [hw3b]; exact (Below.refl _ _).alloc (Nat.le_refl _) _
  have hX6 : w3b.heap[w3.heap.size]? = some (.cells #[.int .i64 kh, .string kp, .int .i64 km] 27 (0, 0)) := by rw [hw3b]; exact heap_alloc_new w3 _
  have hb03b := hb03.trans (hb3b.mono hb03.size)
  obtain ⟨_, k2, _, k4⟩ := HX.out _ hb03b
  obtain ⟨q0, _⟩ := one_fact k4
  have hT3 := to_cfg _ hs w3b k2 hn HM.out
  rw [hw3b] at q0
  have HW3 := Lib.hid hw3b
  have hz03 := hb03.size
  clear hb3 hS2 hb02 hw3b hb3b hb03 k2 k4
  go_wp2_with fail
  rw [← HW3.out]
  refine hT3.mono ?_
  rintro e w4 ⟨g, G, rfl, ho4, hb4⟩
  have hb04 := hb03b.trans (hb4.mono hb03b.size)
  have hX64 := (hb4.block _ (by omega)).trans hX6
  have hz4 := hb4.size
  obtain ⟨w5, hw5⟩ : ∃ w5, w5 = w4.alloc (.cells #[.slice (some ⟨g, 0, none⟩) hs.length hs.length] 25) := ⟨_, rfl⟩
  have hs5 : w5.heap.size = w4.heap.size + 1 := by rw [hw5]; simp
  have hb45 : Below w4.heap.size w4 w5 := by rw [hw5]; exact (Below.refl _ _).alloc (Nat.le_refl _) _
  have hX5 : w5.heap[w4.heap.size]? = some (.cells #[.slice (some ⟨g, 0, none⟩) hs.length hs.length] 25 (0, 0)) := by rw [hw5]; exact heap_alloc_new w4 _
  have ho5 := ho4.below (Nat.le_refl _) hb45
  have hb05 := hb04.trans (hb45.mono hb04.size)
  have hX65 := (hb45.block _ (by omega)).trans hX64
  have hI5 := HI.out _ w5 (ho5.row hn HM.out) (HX.out _ hb05).1
  obtain ⟨p0, _⟩ := one_fact hX5
  rw [hw5] at p0
  have HW5 := Lib.hid hw5
  clear hw5 ho4 hb04 hb45 hb4 hT3 hb03b q0 hX6 hX64
  go_wp2_with fail
  rw [← HW5.out]
  refine hI5.mono ?_
  rintro e w6 ⟨rfl, hb6⟩
  have hb06 := hb05.trans (hb6.mono hb05.size)
  have hX56 := (hb6.block w4.heap.size (by omega)).trans hX5
  have hX66 := (hb6.block w3.heap.size (by omega)).trans hX65
  have ho6 := ho5.below (Nat.le_refl _) hb6
  have hz6 := hb6.size
  obtain ⟨w6b, hw6b⟩ : ∃ x, x = w6.alloc (.cells #[.int .i64 kh, .string kp, .int .i64 km] 27) := ⟨_, rfl⟩
  have hs6b : w6b.heap.size = w6.heap.size + 1 := by rw [hw6b]; simp
  have hb6b : Below w6.heap.size w6 w6b := by rw [hw6b]; exact (Below.refl _ _).alloc (Nat.le_refl _) _
  have hY6 : w6b.heap[w6.heap.size]? = some (.cells #[.int .i64 kh, .string kp, .int .i64 km] 27 (0, 0)) := by rw [hw6b]; exact heap_alloc_new w6 _
  obtain ⟨y0, y1, y2, _⟩ := three_facts hY6
  obtain ⟨z0, z1, z2, _⟩ := three_facts ((hb6b.block w3.heap.size (by omega)).trans hX66)
  have hb06b := hb06.trans (hb6b.mono hb06.size)
  have hX57 := (hb6b.block w4.heap.size (by omega)).trans hX56
  have ho7 := ho6.below (Nat.le_refl _) hb6b
  rw [hw6b] at y0 y1 y2 z0 z1 z2
  have HW6 := Lib.hid hw6b
  clear hI5 hb05 hX5 ho5 hb6 p0 hw6b hX56 hX66 hX65 ho6 hb6b hY6 hb06
  go_wp2_with fail
  rw [← HW6.out]
  refine (HEQ.out _).mono ?_
  rintro e w9 ⟨rfl, hb9⟩
  have hb09 := hb06b.trans (hb9.mono hb06b.size)
  have hX59 := (hb9.block w4.heap.size (by omega)).trans hX57
  have ho9 := ho7.below (Nat.le_refl _) hb9
  have hz9 := hb9.size
  clear hb06b hX57 ho7 hb9 y0 y1 y2 z0 z1 z2
  go_wp2_with fail
  have hF6 := ho9.row hn HM.out
  have HC6 : Hid (∀ W, Below w9.heap.size w9 W → HRow W (.slice (some ⟨g, 0, none⟩) hs.length hs.length) hs ∧ HRow W (.slice va hs.length vc) hs ∧ W.heap[w.heap.size]? = some (.cells #[.slice va hs.length vc] 65 (0, 0)) ∧ W.heap[w4.heap.size]? = some (.cells #[.slice (some ⟨g, 0, none⟩) hs.length hs.length] 25 (0, 0))) := Lib.hid fun W hW => by
    obtain ⟨_, k2, _, k4⟩ := HX.out _ (hb09.trans (hW.mono hb09.size))
    exact ⟨hF6.below (Nat.le_refl _) hW, k2, k4, (hW.block w4.heap.size (by omega)).trans hX59⟩
  have HBf : Hid (∀ W, Below w9.heap.size w9 W → Below w.heap.size w W) := Lib.hid fun W hW => (HX.out _ (hb09.trans (hW.mono hb09.size))).2.2.1
  clear hF6 hX59 ho9 hb09
  refine wp_region_last (by kernel_rfl) 4 (by kernel_rfl) (by kernel_rfl) (by kernel_rfl)
    (fun u => { tmps := #[.agg #[.slice va hs.length vc], .string s, .pointer (some ⟨w.heap.size, 0, none⟩), undef, .bool false, .int .i64 r, .pointer (some ⟨w3.heap.size, 0, none⟩), .bool ok, .pointer (some ⟨w4.heap.size, 0, none⟩), .pointer (some ⟨w6.heap.size, 0, none⟩), .bool ok, .string s, .int .i64 (s.size : Int), .bool (decide (1048576 < (s.size : Int))), .agg #[.slice va hs.length vc], .int .i64 1048576, .int .i64 r, .int .i64 r, .bool (decide (r < 0)), .tuple #[.agg #[.int .i64 kh, .string kp, .int .i64 km], .bool ok], .agg #[.slice va hs.length vc], .agg #[.slice (some ⟨g1, 0, none⟩) hs.length hs.length], .string s, .tuple #[.agg #[.int .i64 kh, .string kp, .int .i64 km], .bool ok], .agg #[.int .i64 kh, .string kp, .int .i64 km], .bool ok, .agg #[.slice va hs.length vc], .agg #[.slice (some ⟨g, 0, none⟩) hs.length hs.length], .tuple #[.agg #[.int .i64 kh, .string kp, .int .i64 km], .bool ok], .agg #[.slice (some ⟨g, 0, none⟩) hs.length hs.length], .string s, .tuple #[.agg #[.int .i64 kh, .string kp, .int .i64 km], .bool ok], .agg #[.int .i64 kh, .string kp, .int .i64 km], .bool ok, .agg #[.int .i64 kh, .string kp, .int .i64 km], .agg #[.int .i64 kh, .string kp, .int .i64 km], .bool true, .bool false, .bool false, .bool ok, .bool ok, .bool false, .bool false, u 0, u 1, u 2, u 3, undef], defers := [] })
    (fun _ W => Below w9.heap.size w9 W)
    (RAt [REq (.agg #[.slice (some ⟨g, 0, none⟩) hs.length hs.length]), REq (.agg #[.slice va hs.length vc]), KCf hs, REq (.bool true)])
    (fun w w' => Below w.heap.size w w') (fun _ => undef) (Below.refl _ _).drew
    (fun i v w w' _ hR hle => steady_at (by exact ⟨steady_eq _, steady_eq _, steady_kcf hs, steady_eq _, trivial⟩) v w w' hR hle) ?_ ?_
  · intro i hi u w7 kk hkk hC hd
    obtain ⟨k1, k2, k4, k5⟩ := HC6.out _ hC
    obtain ⟨q0, _⟩ := one_fact k4
    obtain ⟨t0, _⟩ := one_fact k5
    match i, hi with
    | 0, _ =>
      refine wpOp_step rfl (fun K hK => ?_)
      clear hd
      go_simp
      exact hK _ _ ⟨_, rfl, rfl, Below.refl _ _, hC⟩
    | 1, _ =>
      refine wpOp_step rfl (fun K hK => ?_)
      clear hd
      go_simp
      exact hK _ _ ⟨_, rfl, rfl, Below.refl _ _, hC⟩
    | 2, _ =>
      have e1 : u 1 = .agg #[.slice va hs.length vc] := hd 1 (dep_of (by kernel_rfl))
      have hT := to_cfg _ hs w7 k2 hn HM.out
      refine wpOp_step rfl (fun K hK => ?_)
      clear hd
      go_simp
      refine hT.mono ?_
      rintro e w8 ⟨g2, G2, rfl, ho8, hb8⟩
      exact hK _ _ ⟨_, by simp [upd, e1], ⟨_, _, rfl, ho8.row hn HM.out⟩, hb8, hC.trans (hb8.mono hC.size)⟩
    | 3, _ =>
      have e0 : u 0 = .agg #[.slice (some ⟨g, 0, none⟩) hs.length hs.length] := hd 0 (dep_of (by kernel_rfl))
      obtain ⟨a2, c2, e2, hr2⟩ : KCf hs (u 2) w7 := hd 2 (dep_of (by kernel_rfl))
      have hE := eq_cfg _ _ hs w7 k1 hr2
      refine wpOp_step rfl (fun K hK => ?_)
      clear hd
      go_simp
      refine hE.mono ?_
      rintro e w8 ⟨rfl, hb8⟩
      exact hK _ _ ⟨_, by simp [upd, e0, e2], rfl, hb8, hC.trans (hb8.mono hC.size)⟩
  · intro u w7 kk hkk hC hd
    have e3 : u 3 = .bool true := hd 3 (by decide)
    refine wpOp_step rfl (fun K hK => ?_)
    clear hd
    go_simp
    refine hK _ _ ?_
    clear hK K e3
    have HB := Lib.hid (HBf.out _ hC)
    clear hC
    go_wp2
    go_ret
    exact ⟨rfl, HB.out⟩
namespace Lw
theorem fnExactKeyRead (w : World) (hL : laidMetH Tryz.prog Rows.fnExactKeyReadRow.laid w) (v : Value) (hs : List Hs) (hH : HRow w v hs) (hN : HOks hs maxLen) (s : ByteArray) (hs1 : s.size ≤ maxLen) :
    Calls Tryz.prog 10 #[.agg #[v], .string s] w fun e w' => e = .returned (.bool true) ∧ Below w.heap.size w w' := by
  have hL' : laidMet Tryz.prog Rows.fnExactKeyReadRow.laid w := hL
  exact law_keyread hs v s w hH hN hs1 (cls_of_head hL'.tail.tail.tail.tail.tail) (tab_of_head hL'.tail.tail) (errs_of_heads hL'.tail.tail.tail)
end Lw
end Go.Proofs.YtiepobifbkleaaaGreatDoor
