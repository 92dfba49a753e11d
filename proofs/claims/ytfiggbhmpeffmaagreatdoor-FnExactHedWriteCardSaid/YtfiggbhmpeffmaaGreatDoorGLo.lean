import Derived.Test.YtfiggbhmpeffmaaGreatDoorGhx
import Derived.Test.YtfiggbhmpeffmaaGreatDoorGimp
import Derived.Test.YtfiggbhmpeffmaaGreatDoorGhed
import Derived.Test.YtfiggbhmpeffmaaGreatDoorLaidN
-- from XLHxO
/- The laws on whether a request is ok, and on its text, exact. -/
namespace Go.Proofs.YtfiggbhmpeffmaaGreatDoor
open Go.RowKit Go.Maps

/-- A request's value over a list that reads as its fields. -/
def RHd (h : Hd) : Value → World → Prop := fun x w => ∃ g, x = .agg #[.string h.verb, .string h.target, .string h.host, .slice (some ⟨g, 0, none⟩) h.fs.length h.fs.length, .string h.body] ∧ FRow w (.slice (some ⟨g, 0, none⟩) h.fs.length h.fs.length) h.fs
theorem steady_hd (h : Hd) : Steady (RHd h) := fun _ _ _ ⟨g, h1, h2⟩ hb => ⟨g, h1, h2.below (Nat.le_refl _) hb⟩
theorem ok2 {fs : List Fd} (h : FOk fs 1048576) : FOk fs 2000000 := fun f hf => ⟨Nat.le_trans (h f hf).1 (by decide), Nat.le_trans (h f hf).2 (by decide)⟩
theorem ok3 {fs : List Fd} (h : FOk fs 1048576) : FOk fs 281474976710656 := fun f hf => ⟨Nat.le_trans (h f hf).1 (by decide), Nat.le_trans (h f hf).2 (by decide)⟩

set_option maxRecDepth 100000 in
set_option maxHeartbeats 3200000 in
theorem law_hedok (h : Hd) (v : Value) (w : World) (hF : FRow w v h.fs) (hok : FOk h.fs maxLen) (b1 : h.verb.size ≤ maxLen) (b2 : h.target.size ≤ maxLen) (b3 : h.host.size ≤ maxLen) (b4 : h.body.size ≤ maxLen) (hcls : Cls w) (htab : Tab w) :
    Calls Tryz.prog 8 #[headV h v] w fun e w' => e = .returned (.bool true) ∧ Below w.heap.size w w' := by
  obtain ⟨wA, hwA⟩ : ∃ wA, wA = w.alloc (.cells #[.string h.verb, .string h.target, .string h.host, v, .string h.body] 39) := ⟨_, rfl⟩
  have hsA : wA.heap.size = w.heap.size + 1 := by rw [hwA]; simp
  have hbA : Below w.heap.size w wA := by rw [hwA]; exact (Below.refl _ _).alloc (Nat.le_refl _) _
  have hH : wA.heap[w.heap.size]? = some (.cells #[.string h.verb, .string h.target, .string h.host, v, .string h.body] 39 (0, 0)) := by rw [hwA]; exact heap_alloc_new w _
  have HX : Hid (∀ W, Below wA.heap.size wA W → Cls W ∧ Tab W ∧ FRow W v h.fs ∧ Below w.heap.size w W ∧ W.heap[w.heap.size]? = some (.cells #[.string h.verb, .string h.target, .string h.host, v, .string h.body] 39 (0, 0))) := Lib.hid fun W hW => by
    have hb := hbA.trans (hW.mono (by omega))
    exact ⟨hcls.below hb (Nat.le_refl _), htab.below hb (Nat.le_refl _), hF.below (Nat.le_refl _) hb, hb, (hW.block w.heap.size (by omega)).trans hH⟩
  have hb0 : Below wA.heap.size wA wA := Below.refl _ _
  have hSz := sz_head h v wA (HX.out _ hb0).2.2.1 hok b1 b2 b3 b4
  have HW := Lib.hid hwA
  clear hwA hbA hH hF hok hcls htab b1 b2 b3 b4
  have hTo := fun W hW => to_head h v W hW
  have hSp := fun u W hW hz => spec_hedok h u W hW (by have := (hz : HSz h).len; omega) (ok2 (hz : HSz h).fs) (hz : HSz h).verb (hz : HSz h).target (hz : HSz h).host (hz : HSz h).body
  have hIm := fun u W hW hz hc ht => impl_hedok h u W hW (ok3 (hz : HSz h).fs) (hz : HSz h).verb (hz : HSz h).target (hz : HSz h).host (hz : HSz h).body hc ht
  have hEq := fun u1 u2 W hW1 hW2 hn => eq_head h u1 u2 W hW1 hW2 hn
  unfold headV at *
  generalize hedB h = X at *
  go_enter Tryz.func8, Tryz.ntmps8
  go_wp2_with fail
  rw [← HW.out]
  refine hSz.mono ?_
  rintro e w1 ⟨⟨r, rfl, hr⟩, hb1⟩
  clear hSz hb0
  rcases hr with hr | ⟨hr, hz⟩
  · have HB := Lib.hid (HX.out _ hb1).2.2.2.1
    clear hb1 hTo hSp hIm hEq
    go_wp2
    go_ret
    exact ⟨rfl, HB.out⟩
  obtain ⟨k1, k2, k3, k4, k5⟩ := HX.out _ hb1
  obtain ⟨q0, q1, q2, q3, q4, _⟩ := five_facts k5
  have hT1 := hTo _ k3 hz.len
  have HZ := Lib.hid hz
  have hzl := hz.len
  clear k1 k2 k3 k4 k5 hz
  go_wp2_with fail
  refine hT1.mono ?_
  rintro e w2 ⟨⟨g1, rfl, hg1, hfc1⟩, hb2⟩
  have hb02 := hb1.trans (hb2.mono hb1.size)
  have hS2 := hSp _ w2 (hfc1.row (by unfold maxLen; omega)) HZ.out
  clear hb1 hb2 hT1 hfc1 hg1 q0 q1 q2 q3 q4
  go_wp2_with fail
  refine hS2.mono ?_
  rintro e w3 ⟨rfl, hb3⟩
  have hb03 := hb02.trans (hb3.mono hb02.size)
  clear hb3 hS2 hb02
  obtain ⟨k1, k2, k3, k4, k5⟩ := HX.out _ hb03
  obtain ⟨q0, q1, q2, q3, q4, _⟩ := five_facts k5
  have hT3 := hTo _ k3 hzl
  clear k1 k2 k3 k4 k5
  go_wp2_with fail
  refine hT3.mono ?_
  rintro e w4 ⟨⟨g, rfl, hg, hfc⟩, hb4⟩
  have hb04 := hb03.trans (hb4.mono hb03.size)
  have hgl := hfc.lt
  clear hb4 hT3 hb03 q0 q1 q2 q3 q4
  obtain ⟨w5, hw5⟩ : ∃ w5, w5 = w4.alloc (.cells #[.string h.verb, .string h.target, .string h.host, .slice (some ⟨g, 0, none⟩) h.fs.length h.fs.length, .string h.body] 25) := ⟨_, rfl⟩
  have hs5 : w5.heap.size = w4.heap.size + 1 := by rw [hw5]; simp
  have hb45 : Below w4.heap.size w4 w5 := by rw [hw5]; exact (Below.refl _ _).alloc (Nat.le_refl _) _
  have hX5 : w5.heap[w4.heap.size]? = some (.cells #[.string h.verb, .string h.target, .string h.host, .slice (some ⟨g, 0, none⟩) h.fs.length h.fs.length, .string h.body] 25 (0, 0)) := by rw [hw5]; exact heap_alloc_new w4 _
  have hfc5 := hfc.keep (hb45.block g hgl)
  have hb05 := hb04.trans (hb45.mono hb04.size)
  obtain ⟨k1, k2, k3, k4, k5⟩ := HX.out _ hb05
  have hI5 := hIm _ w5 (hfc5.row (by unfold maxLen; omega)) HZ.out k1 k2
  have HW5 := Lib.hid hw5
  clear k1 k2 k3 k4 k5 hw5 hfc hb04 hb45
  go_wp2_with fail
  rw [← HW5.out]
  refine hI5.mono ?_
  rintro e w6 ⟨rfl, hb6⟩
  have hb06 := hb05.trans (hb6.mono hb05.size)
  have hX6 := (hb6.block w4.heap.size (by omega)).trans hX5
  have hfc6 := hfc5.keep (hb6.block g hfc5.lt)
  have hs6 := hb6.size
  clear hI5 hb05 hX5 hfc5 hb6
  have eX : (X != X) = false := by cases X <;> rfl
  go_wp2_with fail
  have hF6 := hfc6.row (by unfold maxLen; omega)
  have hw4l : wA.heap.size ≤ w4.heap.size ∨ True := .inr trivial
  have HC6 : Hid (∀ W, Below w6.heap.size w6 W → FRow W (.slice (some ⟨g, 0, none⟩) h.fs.length h.fs.length) h.fs ∧ FRow W v h.fs ∧ Below w.heap.size w W ∧ W.heap[w.heap.size]? = some (.cells #[.string h.verb, .string h.target, .string h.host, v, .string h.body] 39 (0, 0)) ∧ W.heap[w4.heap.size]? = some (.cells #[.string h.verb, .string h.target, .string h.host, .slice (some ⟨g, 0, none⟩) h.fs.length h.fs.length, .string h.body] 25 (0, 0))) := Lib.hid fun W hW => by
    obtain ⟨k1, k2, k3, k4, k5⟩ := HX.out _ (hb06.trans (hW.mono hb06.size))
    exact ⟨hF6.below (Nat.le_refl _) hW, k3, k4, k5, (hW.block w4.heap.size (by omega)).trans hX6⟩
  clear hF6 hX6 hfc6 hb06 hw4l
  refine wp_region_last (by kernel_rfl) 4 (by kernel_rfl) (by kernel_rfl) (by kernel_rfl)
    (fun u => { tmps := #[.agg #[.string h.verb, .string h.target, .string h.host, v, .string h.body], .pointer (some ⟨w.heap.size, 0, none⟩), .bool false, .int .i64 r, .bool X, .pointer (some ⟨w4.heap.size, 0, none⟩), .bool X, .agg #[.string h.verb, .string h.target, .string h.host, v, .string h.body], .int .i64 1048576, .int .i64 r, .int .i64 r, .bool (decide (r < 0)), .agg #[.string h.verb, .string h.target, .string h.host, v, .string h.body], .agg #[.string h.verb, .string h.target, .string h.host, .slice (some ⟨g1, 0, none⟩) h.fs.length h.fs.length, .string h.body], .bool X, .agg #[.string h.verb, .string h.target, .string h.host, v, .string h.body], .agg #[.string h.verb, .string h.target, .string h.host, .slice (some ⟨g, 0, none⟩) h.fs.length h.fs.length, .string h.body], .agg #[.string h.verb, .string h.target, .string h.host, .slice (some ⟨g, 0, none⟩) h.fs.length h.fs.length, .string h.body], .bool X, .bool X, .bool X, .bool false, u 0, u 1, u 2, u 3, undef], defers := [] })
    (fun _ W => Below w6.heap.size w6 W)
    (RAt [REq (.agg #[.string h.verb, .string h.target, .string h.host, .slice (some ⟨g, 0, none⟩) h.fs.length h.fs.length, .string h.body]), REq (.agg #[.string h.verb, .string h.target, .string h.host, v, .string h.body]), RHd h, REq (.bool true)])
    (fun w w' => Below w.heap.size w w') (fun _ => undef) (Below.refl _ _).drew
    (fun i v w w' _ hR hle => steady_at (by exact ⟨steady_eq _, steady_eq _, steady_hd h, steady_eq _, trivial⟩) v w w' hR hle) ?_ ?_
  · intro i hi u w7 kk hkk hC hd
    obtain ⟨k1, k2, k3, k4, k5⟩ := HC6.out _ hC
    obtain ⟨q0, q1, q2, q3, q4, _⟩ := five_facts k4
    obtain ⟨t0, t1, t2, t3, t4, _⟩ := five_facts k5
    match i, hi with
    | 0, _ =>
      refine wpOp_step rfl (fun K hK => ?_)
      clear hd
      go_simp
      exact hK _ _ ⟨_, rfl, rfl, Below.refl _ _, hC⟩
    | 1, _ =>
      refine wpOp_step rfl (fun K hK => ?_)
      clear hd
      go_simp
      exact hK _ _ ⟨_, rfl, rfl, Below.refl _ _, hC⟩
    | 2, _ =>
      have e1 : u 1 = .agg #[.string h.verb, .string h.target, .string h.host, v, .string h.body] := hd 1 (dep_of (by kernel_rfl))
      have hT := hTo _ k2 hzl
      refine wpOp_step rfl (fun K hK => ?_)
      clear hd
      go_simp
      refine hT.mono ?_
      rintro e w8 ⟨⟨g2, rfl, hg2, hfc2⟩, hb8⟩
      exact hK _ _ ⟨_, by simp [upd, e1], ⟨g2, rfl, hfc2.row (by unfold maxLen; omega)⟩, hb8, hC.trans (hb8.mono hC.size)⟩
    | 3, _ =>
      have e0 : u 0 = .agg #[.string h.verb, .string h.target, .string h.host, .slice (some ⟨g, 0, none⟩) h.fs.length h.fs.length, .string h.body] := hd 0 (dep_of (by kernel_rfl))
      obtain ⟨g2, e2, hr2⟩ : RHd h (u 2) w7 := hd 2 (dep_of (by kernel_rfl))
      have hE := hEq _ _ w7 k1 hr2 (by omega)
      refine wpOp_step rfl (fun K hK => ?_)
      clear hd
      go_simp
      refine hE.mono ?_
      rintro e w8 ⟨rfl, hb8⟩
      exact hK _ _ ⟨_, by simp [upd, e0, e2], rfl, hb8, hC.trans (hb8.mono hC.size)⟩
  · intro u w7 kk hkk hC hd
    have e3 : u 3 = .bool true := hd 3 (by decide)
    have HB := Lib.hid (HC6.out _ hC).2.2.1
    refine wpOp_step rfl (fun K hK => ?_)
    clear hd
    go_simp
    refine hK _ _ ?_
    clear hK K hC e3
    go_wp2
    go_ret
    exact ⟨rfl, HB.out⟩
namespace Lw
theorem fnExactHedOk (w : World) (hL : laidMetH Tryz.prog Rows.fnExactHedOkRow.laid w) (h : Hd) (v : Value) (hF : FRow w v h.fs) (hok : FOk h.fs maxLen) (b1 : h.verb.size ≤ maxLen) (b2 : h.target.size ≤ maxLen) (b3 : h.host.size ≤ maxLen) (b4 : h.body.size ≤ maxLen) :
    Calls Tryz.prog 8 #[headV h v] w fun e w' => e = .returned (.bool true) ∧ Below w.heap.size w w' := by
  have hL' : laidMet Tryz.prog Rows.fnExactHedOkRow.laid w := hL
  exact law_hedok h v w hF hok b1 b2 b3 b4 (cls_of_head hL'.tail.tail.tail.tail) (tab_of_head hL'.tail.tail)
end Lw

set_option maxRecDepth 100000 in
set_option maxHeartbeats 3200000 in
theorem law_hedwrite (h : Hd) (v : Value) (w : World) (hF : FRow w v h.fs) (hok : FOk h.fs maxLen) (b1 : h.verb.size ≤ maxLen) (b2 : h.target.size ≤ maxLen) (b3 : h.host.size ≤ maxLen) (b4 : h.body.size ≤ maxLen) (hcls : Cls w) (htab : Tab w) :
    Calls Tryz.prog 9 #[headV h v] w fun e w' => e = .returned (.bool true) ∧ Below w.heap.size w w' := by
  obtain ⟨wA, hwA⟩ : ∃ wA, wA = w.alloc (.cells #[.string h.verb, .string h.target, .string h.host, v, .string h.body] 39) := ⟨_, rfl⟩
  have hsA : wA.heap.size = w.heap.size + 1 := by rw [hwA]; simp
  have hbA : Below w.heap.size w wA := by rw [hwA]; exact (Below.refl _ _).alloc (Nat.le_refl _) _
  have hH : wA.heap[w.heap.size]? = some (.cells #[.string h.verb, .string h.target, .string h.host, v, .string h.body] 39 (0, 0)) := by rw [hwA]; exact heap_alloc_new w _
  have HX : Hid (∀ W, Below wA.heap.size wA W → Cls W ∧ Tab W ∧ FRow W v h.fs ∧ Below w.heap.size w W ∧ W.heap[w.heap.size]? = some (.cells #[.string h.verb, .string h.target, .string h.host, v, .string h.body] 39 (0, 0))) := Lib.hid fun W hW => by
    have hb := hbA.trans (hW.mono (by omega))
    exact ⟨hcls.below hb (Nat.le_refl _), htab.below hb (Nat.le_refl _), hF.below (Nat.le_refl _) hb, hb, (hW.block w.heap.size (by omega)).trans hH⟩
  have hb0 : Below wA.heap.size wA wA := Below.refl _ _
  have hSz := sz_head h v wA (HX.out _ hb0).2.2.1 hok b1 b2 b3 b4
  have HW := Lib.hid hwA
  clear hwA hbA hH hF hok hcls htab b1 b2 b3 b4
  have hTo := fun W hW => to_head h v W hW
  have hSp := fun u W hW hz => spec_hedwrite h u W hW (by have := (hz : HSz h).len; omega) (ok2 (hz : HSz h).fs) (hz : HSz h).verb (hz : HSz h).target (hz : HSz h).host (hz : HSz h).body
  have hIm := fun u W hW hz hc ht => impl_hedwrite h u W hW (ok3 (hz : HSz h).fs) (hz : HSz h).verb (hz : HSz h).target (hz : HSz h).host (hz : HSz h).body hc ht
  have hEq := fun u1 u2 W hW1 hW2 hn => eq_head h u1 u2 W hW1 hW2 hn
  unfold headV at *
  generalize (if hedB h = true then (⟨(hedT h).toArray⟩ : ByteArray) else ⟨#[]⟩) = X at *
  go_enter Tryz.func9, Tryz.ntmps9
  go_wp2_with fail
  rw [← HW.out]
  refine hSz.mono ?_
  rintro e w1 ⟨⟨r, rfl, hr⟩, hb1⟩
  clear hSz hb0
  rcases hr with hr | ⟨hr, hz⟩
  · have HB := Lib.hid (HX.out _ hb1).2.2.2.1
    clear hb1 hTo hSp hIm hEq
    go_wp2
    go_ret
    exact ⟨rfl, HB.out⟩
  obtain ⟨k1, k2, k3, k4, k5⟩ := HX.out _ hb1
  obtain ⟨q0, q1, q2, q3, q4, _⟩ := five_facts k5
  have hT1 := hTo _ k3 hz.len
  have HZ := Lib.hid hz
  have hzl := hz.len
  clear k1 k2 k3 k4 k5 hz
  go_wp2_with fail
  refine hT1.mono ?_
  rintro e w2 ⟨⟨g1, rfl, hg1, hfc1⟩, hb2⟩
  have hb02 := hb1.trans (hb2.mono hb1.size)
  have hS2 := hSp _ w2 (hfc1.row (by unfold maxLen; omega)) HZ.out
  clear hb1 hb2 hT1 hfc1 hg1 q0 q1 q2 q3 q4
  go_wp2_with fail
  refine hS2.mono ?_
  rintro e w3 ⟨rfl, hb3⟩
  have hb03 := hb02.trans (hb3.mono hb02.size)
  clear hb3 hS2 hb02
  obtain ⟨k1, k2, k3, k4, k5⟩ := HX.out _ hb03
  obtain ⟨q0, q1, q2, q3, q4, _⟩ := five_facts k5
  have hT3 := hTo _ k3 hzl
  clear k1 k2 k3 k4 k5
  go_wp2_with fail
  refine hT3.mono ?_
  rintro e w4 ⟨⟨g, rfl, hg, hfc⟩, hb4⟩
  have hb04 := hb03.trans (hb4.mono hb03.size)
  have hgl := hfc.lt
  clear hb4 hT3 hb03 q0 q1 q2 q3 q4
  obtain ⟨w5, hw5⟩ : ∃ w5, w5 = w4.alloc (.cells #[.string h.verb, .string h.target, .string h.host, .slice (some ⟨g, 0, none⟩) h.fs.length h.fs.length, .string h.body] 25) := ⟨_, rfl⟩
  have hs5 : w5.heap.size = w4.heap.size + 1 := by rw [hw5]; simp
  have hb45 : Below w4.heap.size w4 w5 := by rw [hw5]; exact (Below.refl _ _).alloc (Nat.le_refl _) _
  have hX5 : w5.heap[w4.heap.size]? = some (.cells #[.string h.verb, .string h.target, .string h.host, .slice (some ⟨g, 0, none⟩) h.fs.length h.fs.length, .string h.body] 25 (0, 0)) := by rw [hw5]; exact heap_alloc_new w4 _
  have hfc5 := hfc.keep (hb45.block g hgl)
  have hb05 := hb04.trans (hb45.mono hb04.size)
  obtain ⟨k1, k2, k3, k4, k5⟩ := HX.out _ hb05
  have hI5 := hIm _ w5 (hfc5.row (by unfold maxLen; omega)) HZ.out k1 k2
  have HW5 := Lib.hid hw5
  clear k1 k2 k3 k4 k5 hw5 hfc hb04 hb45
  go_wp2_with fail
  rw [← HW5.out]
  refine hI5.mono ?_
  rintro e w6 ⟨rfl, hb6⟩
  have hb06 := hb05.trans (hb6.mono hb05.size)
  have hX6 := (hb6.block w4.heap.size (by omega)).trans hX5
  have hfc6 := hfc5.keep (hb6.block g hfc5.lt)
  have hs6 := hb6.size
  clear hI5 hb05 hX5 hfc5 hb6
  have eX := str_refl X
  go_wp2_with fail
  have hF6 := hfc6.row (by unfold maxLen; omega)
  have hw4l : wA.heap.size ≤ w4.heap.size ∨ True := .inr trivial
  have HC6 : Hid (∀ W, Below w6.heap.size w6 W → FRow W (.slice (some ⟨g, 0, none⟩) h.fs.length h.fs.length) h.fs ∧ FRow W v h.fs ∧ Below w.heap.size w W ∧ W.heap[w.heap.size]? = some (.cells #[.string h.verb, .string h.target, .string h.host, v, .string h.body] 39 (0, 0)) ∧ W.heap[w4.heap.size]? = some (.cells #[.string h.verb, .string h.target, .string h.host, .slice (some ⟨g, 0, none⟩) h.fs.length h.fs.length, .string h.body] 25 (0, 0))) := Lib.hid fun W hW => by
    obtain ⟨k1, k2, k3, k4, k5⟩ := HX.out _ (hb06.trans (hW.mono hb06.size))
    exact ⟨hF6.below (Nat.le_refl _) hW, k3, k4, k5, (hW.block w4.heap.size (by omega)).trans hX6⟩
  clear hF6 hX6 hfc6 hb06 hw4l
  refine wp_region_last (by kernel_rfl) 4 (by kernel_rfl) (by kernel_rfl) (by kernel_rfl)
    (fun u => { tmps := #[.agg #[.string h.verb, .string h.target, .string h.host, v, .string h.body], .pointer (some ⟨w.heap.size, 0, none⟩), .bool false, .int .i64 r, .string X, .pointer (some ⟨w4.heap.size, 0, none⟩), .string X, .agg #[.string h.verb, .string h.target, .string h.host, v, .string h.body], .int .i64 1048576, .int .i64 r, .int .i64 r, .bool (decide (r < 0)), .agg #[.string h.verb, .string h.target, .string h.host, v, .string h.body], .agg #[.string h.verb, .string h.target, .string h.host, .slice (some ⟨g1, 0, none⟩) h.fs.length h.fs.length, .string h.body], .string X, .agg #[.string h.verb, .string h.target, .string h.host, v, .string h.body], .agg #[.string h.verb, .string h.target, .string h.host, .slice (some ⟨g, 0, none⟩) h.fs.length h.fs.length, .string h.body], .agg #[.string h.verb, .string h.target, .string h.host, .slice (some ⟨g, 0, none⟩) h.fs.length h.fs.length, .string h.body], .string X, .string X, .string X, .bool false, u 0, u 1, u 2, u 3, undef], defers := [] })
    (fun _ W => Below w6.heap.size w6 W)
    (RAt [REq (.agg #[.string h.verb, .string h.target, .string h.host, .slice (some ⟨g, 0, none⟩) h.fs.length h.fs.length, .string h.body]), REq (.agg #[.string h.verb, .string h.target, .string h.host, v, .string h.body]), RHd h, REq (.bool true)])
    (fun w w' => Below w.heap.size w w') (fun _ => undef) (Below.refl _ _).drew
    (fun i v w w' _ hR hle => steady_at (by exact ⟨steady_eq _, steady_eq _, steady_hd h, steady_eq _, trivial⟩) v w w' hR hle) ?_ ?_
  · intro i hi u w7 kk hkk hC hd
    obtain ⟨k1, k2, k3, k4, k5⟩ := HC6.out _ hC
    obtain ⟨q0, q1, q2, q3, q4, _⟩ := five_facts k4
    obtain ⟨t0, t1, t2, t3, t4, _⟩ := five_facts k5
    match i, hi with
    | 0, _ =>
      refine wpOp_step rfl (fun K hK => ?_)
      clear hd
      go_simp
      exact hK _ _ ⟨_, rfl, rfl, Below.refl _ _, hC⟩
    | 1, _ =>
      refine wpOp_step rfl (fun K hK => ?_)
      clear hd
      go_simp
      exact hK _ _ ⟨_, rfl, rfl, Below.refl _ _, hC⟩
    | 2, _ =>
      have e1 : u 1 = .agg #[.string h.verb, .string h.target, .string h.host, v, .string h.body] := hd 1 (dep_of (by kernel_rfl))
      have hT := hTo _ k2 hzl
      refine wpOp_step rfl (fun K hK => ?_)
      clear hd
      go_simp
      refine hT.mono ?_
      rintro e w8 ⟨⟨g2, rfl, hg2, hfc2⟩, hb8⟩
      exact hK _ _ ⟨_, by simp [upd, e1], ⟨g2, rfl, hfc2.row (by unfold maxLen; omega)⟩, hb8, hC.trans (hb8.mono hC.size)⟩
    | 3, _ =>
      have e0 : u 0 = .agg #[.string h.verb, .string h.target, .string h.host, .slice (some ⟨g, 0, none⟩) h.fs.length h.fs.length, .string h.body] := hd 0 (dep_of (by kernel_rfl))
      obtain ⟨g2, e2, hr2⟩ : RHd h (u 2) w7 := hd 2 (dep_of (by kernel_rfl))
      have hE := hEq _ _ w7 k1 hr2 (by omega)
      refine wpOp_step rfl (fun K hK => ?_)
      clear hd
      go_simp
      refine hE.mono ?_
      rintro e w8 ⟨rfl, hb8⟩
      exact hK _ _ ⟨_, by simp [upd, e0, e2], rfl, hb8, hC.trans (hb8.mono hC.size)⟩
  · intro u w7 kk hkk hC hd
    have e3 : u 3 = .bool true := hd 3 (by decide)
    have HB := Lib.hid (HC6.out _ hC).2.2.1
    refine wpOp_step rfl (fun K hK => ?_)
    clear hd
    go_simp
    refine hK _ _ ?_
    clear hK K hC e3
    go_wp2
    go_ret
    exact ⟨rfl, HB.out⟩
namespace Lw
theorem fnExactHedWrite (w : World) (hL : laidMetH Tryz.prog Rows.fnExactHedWriteRow.laid w) (h : Hd) (v : Value) (hF : FRow w v h.fs) (hok : FOk h.fs maxLen) (b1 : h.verb.size ≤ maxLen) (b2 : h.target.size ≤ maxLen) (b3 : h.host.size ≤ maxLen) (b4 : h.body.size ≤ maxLen) :
    Calls Tryz.prog 9 #[headV h v] w fun e w' => e = .returned (.bool true) ∧ Below w.heap.size w w' := by
  have hL' : laidMet Tryz.prog Rows.fnExactHedWriteRow.laid w := hL
  exact law_hedwrite h v w hF hok b1 b2 b3 b4 (cls_of_head hL'.tail.tail.tail.tail) (tab_of_head hL'.tail.tail)
end Lw
end Go.Proofs.YtfiggbhmpeffmaaGreatDoor

