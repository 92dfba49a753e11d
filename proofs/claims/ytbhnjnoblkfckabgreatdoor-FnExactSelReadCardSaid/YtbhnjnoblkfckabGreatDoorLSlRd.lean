/- The law on what a request that clears says, exact. -/
import Derived.Test.YtbhnjnoblkfckabGreatDoorSlU
import Derived.Test.YtbhnjnoblkfckabGreatDoorSlV
import Derived.Test.YtbhnjnoblkfckabGreatDoorGA14
import Derived.Test.YtbhnjnoblkfckabGreatDoorGA08
namespace Go.Proofs.YtbhnjnoblkfckabGreatDoor
open Go.RowKit Go.Maps

set_option maxRecDepth 100000 in
set_option maxHeartbeats 6400000 in
theorem law_selread (h : Hd) (v : Value) (w : World) (hF : FRow w v h.fs) (hok : FOk h.fs maxLen) (b1 : h.verb.size ≤ maxLen) (b2 : h.target.size ≤ maxLen) (b3 : h.host.size ≤ maxLen) (b4 : h.body.size ≤ maxLen) (hcls : Cls w) (htab : Tab w) (hers : Errs w) :
    Calls Tryz.prog 3 #[headV h v] w fun e w' => e = .returned (.bool true) ∧ Below w.heap.size w w' := by
  obtain ⟨va, vn, vc, rfl⟩ : ∃ a l c, v = .slice a l c := by obtain ⟨a, c, hh, _⟩ := hF; exact ⟨a, _, c, hh⟩
  obtain ⟨wA, hwA⟩ : ∃ wA, wA = w.alloc (.cells #[.string h.verb, .string h.target, .string h.host, .slice va vn vc, .string h.body] 24) := ⟨_, rfl⟩
  have hsA : wA.heap.size = w.heap.size + 1 := by rw [hwA]; simp
  have hbA : Below w.heap.size w wA := by rw [hwA]; exact (Below.refl _ _).alloc (Nat.le_refl _) _
  have hH : wA.heap[w.heap.size]? = some (.cells #[.string h.verb, .string h.target, .string h.host, .slice va vn vc, .string h.body] 24 (0, 0)) := by rw [hwA]; exact heap_alloc_new w _
  have HX : Hid (∀ W, Below wA.heap.size wA W → (Cls W ∧ Tab W ∧ Errs W) ∧ FRow W (.slice va vn vc) h.fs ∧ Below w.heap.size w W ∧ W.heap[w.heap.size]? = some (.cells #[.string h.verb, .string h.target, .string h.host, .slice va vn vc, .string h.body] 24 (0, 0))) := Lib.hid fun W hW => by
    have hb := hbA.trans (hW.mono (by omega))
    exact ⟨⟨hcls.below hb (Nat.le_refl _), htab.below hb (Nat.le_refl _), hers.below hb (Nat.le_refl _)⟩, hF.below (Nat.le_refl _) hb, hb, (hW.block w.heap.size (by omega)).trans hH⟩
  have hb0 : Below wA.heap.size wA wA := Below.refl _ _
  have hSz := sz_head h _ wA (HX.out _ hb0).2.1 hok b1 b2 b3 b4
  obtain ⟨q0, q1, q2, q3, q4⟩ := sl_facts hH
  rw [hwA] at q0 q1 q2 q3 q4
  have HW := Lib.hid hwA
  clear hwA hbA hH hF hok hcls htab hers b1 b2 b3 b4
  have HTo : Hid (h.fs.length ≤ 1048576 → ∀ W, FRow W (.slice va vn vc) h.fs → Calls Tryz.prog 10 #[.agg #[.string h.verb, .string h.target, .string h.host, .slice va vn vc, .string h.body]] W fun e w' => (∃ g, e = .returned (.agg #[.string h.verb, .string h.target, .string h.host, .slice (some ⟨g, 0, none⟩) h.fs.length h.fs.length, .string h.body]) ∧ W.heap.size ≤ g ∧ FCells w' g h.fs.length (fget h.fs)) ∧ Below W.heap.size W w') := Lib.hid fun hn W hW => to_head h _ W hW hn
  have HSp : Hid (HSz h → ∀ u W, FRow W u h.fs → Calls Tryz.prog 9 #[.agg #[.string h.verb, .string h.target, .string h.host, u, .string h.body]] W fun e w' => e = .returned (.tuple #[slV (readS h), .bool (readB h)]) ∧ Below W.heap.size W w') := Lib.hid fun hz u W hW => spec_selread h u W hW hz
  have HIm : Hid (HSz h → ∀ u W, FRow W u h.fs → (Cls W ∧ Tab W ∧ Errs W) → Calls Tryz.prog 11 #[.agg #[.string h.verb, .string h.target, .string h.host, u, .string h.body]] W fun e w' => e = .returned (.tuple #[slV (readS h), .bool (readB h)]) ∧ Below W.heap.size W w') := Lib.hid fun hz u W hW hc => impl_selread h u W hW hz hc.1 hc.2.1 hc.2.2
  have HEs := Lib.hid fun W => eq_seal (readS h) W
  have HEq : Hid (h.fs.length ≤ 2000000 → ∀ u1 u2 W, FRow W u1 h.fs → FRow W u2 h.fs → Calls Tryz.prog 13 #[.agg #[.string h.verb, .string h.target, .string h.host, u1, .string h.body], .agg #[.string h.verb, .string h.target, .string h.host, u2, .string h.body]] W fun e w' => e = .returned (.bool true) ∧ Below W.heap.size W w') := Lib.hid fun hn u1 u2 W h1 h2 => eq_head h u1 u2 W h1 h2 hn
  generalize readS h = S at *
  generalize readB h = X at *
  obtain ⟨sp, su, st, sn, sc⟩ := S
  unfold slV at HSp HIm HEs
  dsimp only at HSp HIm HEs
  unfold headV at *
  have eX : (X != X) = false := by cases X <;> rfl
  go_enter Tryz.func3, Tryz.ntmps3
  go_wp2_with fail
  rw [← HW.out]
  refine hSz.mono ?_
  rintro e w1 ⟨⟨r, rfl, hr⟩, hb1⟩
  clear hSz hb0 q0 q1 q2 q3 q4
  rcases hr with hr | ⟨hr, hz⟩
  · have HB := Lib.hid (HX.out _ hb1).2.2.1
    clear hb1
    go_wp2
    go_ret
    exact ⟨rfl, HB.out⟩
  have i1 : ¬ r < 0 := by omega
  have hzl := hz.len
  have HZ := Lib.hid hz
  obtain ⟨k1, k3, k4, k5⟩ := HX.out _ hb1
  obtain ⟨q0, q1, q2, q3, q4⟩ := sl_facts k5
  have hT1 := HTo.out hzl _ k3
  clear k1 k3 k4 k5 hz
  go_wp2_with fail
  refine hT1.mono ?_
  rintro e w2 ⟨⟨g1, rfl, hg1, hfc1⟩, hb2⟩
  have hb02 := hb1.trans (hb2.mono hb1.size)
  have hS2 := HSp.out HZ.out _ w2 (hfc1.row (by unfold maxLen; omega))
  clear hb1 hb2 hT1 hfc1 hg1 q0 q1 q2 q3 q4
  go_wp2_with fail
  refine hS2.mono ?_
  rintro e w3 ⟨rfl, hb3⟩
  have hb03 := hb02.trans (hb3.mono hb02.size)
  obtain ⟨w3b, hw3b⟩ : ∃ x, x = w3.alloc (.cells #[.string sp, .bool su, .int .i64 st, .int .i64 sn, .int .i64 sc] 27) := ⟨_, rfl⟩
  have hs3b : w3b.heap.size = w3.heap.size + 1 := by rw [hw3b]; simp
  have hb3b : Below wA.heap.size wA w3b := by rw [hw3b]; exact hb03.alloc hb03.size _
  have hX3 : w3b.heap[w3.heap.size]? = some (.cells #[.string sp, .bool su, .int .i64 st, .int .i64 sn, .int .i64 sc] 27 (0, 0)) := by rw [hw3b]; exact heap_alloc_new w3 _
  clear hb3 hS2 hb02 hb03
  obtain ⟨k1, k3, k4, k5⟩ := HX.out _ hb3b
  obtain ⟨q0, q1, q2, q3, q4⟩ := sl_facts k5
  have hT3 := HTo.out hzl _ k3
  clear k1 k3 k4 k5
  rw [hw3b] at q0 q1 q2 q3 q4
  have HW3 := Lib.hid hw3b
  clear hw3b
  go_wp2_with fail
  rw [← HW3.out]
  refine hT3.mono ?_
  rintro e w4 ⟨⟨g, rfl, hg, hfc⟩, hb4⟩
  have hb04 := hb3b.trans (hb4.mono hb3b.size)
  have hX34 := (hb4.block w3.heap.size (by omega)).trans hX3
  have hs4 := hb4.size
  have hgl := hfc.lt
  obtain ⟨w5, hw5⟩ : ∃ x, x = w4.alloc (.cells #[.string h.verb, .string h.target, .string h.host, .slice (some ⟨g, 0, none⟩) h.fs.length h.fs.length, .string h.body] 32) := ⟨_, rfl⟩
  have hs5 : w5.heap.size = w4.heap.size + 1 := by rw [hw5]; simp
  have hb45 : Below w4.heap.size w4 w5 := by rw [hw5]; exact (Below.refl _ _).alloc (Nat.le_refl _) _
  have hX5 : w5.heap[w4.heap.size]? = some (.cells #[.string h.verb, .string h.target, .string h.host, .slice (some ⟨g, 0, none⟩) h.fs.length h.fs.length, .string h.body] 32 (0, 0)) := by rw [hw5]; exact heap_alloc_new w4 _
  have hfc5 := hfc.keep (hb45.block g hgl)
  have hb05 := hb04.trans (hb45.mono hb04.size)
  have hX35 := (hb45.block w3.heap.size (by omega)).trans hX34
  clear q0 q1 q2 q3 q4 hT3 hb4 hX3 hX34 hb3b hfc hb04 hb45
  obtain ⟨q0, q1, q2, q3, q4⟩ := sl_facts hX5
  rw [hw5] at q0 q1 q2 q3 q4
  have hI5 := HIm.out HZ.out _ w5 (hfc5.row (by unfold maxLen; omega)) (HX.out _ hb05).1
  have HW5 := Lib.hid hw5
  clear hw5
  go_wp2_with fail
  rw [← HW5.out]
  refine hI5.mono ?_
  rintro e w6 ⟨rfl, hb6⟩
  have hb06 := hb05.trans (hb6.mono hb05.size)
  have hX56 := (hb6.block w4.heap.size (by omega)).trans hX5
  have hX36 := (hb6.block w3.heap.size (by omega)).trans hX35
  have hfc6 := hfc5.keep (hb6.block g hfc5.lt)
  have hs6 := hb6.size
  obtain ⟨w6b, hw6b⟩ : ∃ x, x = w6.alloc (.cells #[.string sp, .bool su, .int .i64 st, .int .i64 sn, .int .i64 sc] 27) := ⟨_, rfl⟩
  have hs6b : w6b.heap.size = w6.heap.size + 1 := by rw [hw6b]; simp
  have hb66 : Below w6.heap.size w6 w6b := by rw [hw6b]; exact (Below.refl _ _).alloc (Nat.le_refl _) _
  have hX6 : w6b.heap[w6.heap.size]? = some (.cells #[.string sp, .bool su, .int .i64 st, .int .i64 sn, .int .i64 sc] 27 (0, 0)) := by rw [hw6b]; exact heap_alloc_new w6 _
  have hX3b := (hb66.block w3.heap.size (by omega)).trans hX36
  have hX5b := (hb66.block w4.heap.size (by omega)).trans hX56
  have hfc6b := hfc6.keep (hb66.block g hfc6.lt)
  have hb06b := hb06.trans (hb66.mono hb06.size)
  clear q0 q1 q2 q3 q4 hI5 hb05 hX5 hX35 hX36 hX56 hb6 hfc5 hfc6 hb06 hb66
  obtain ⟨q0, q1, q2, q3, q4⟩ := sl_facts hX6
  obtain ⟨p0, p1, p2, p3, p4⟩ := sl_facts hX3b
  rw [hw6b] at q0 q1 q2 q3 q4 p0 p1 p2 p3 p4
  have HW6 := Lib.hid hw6b
  clear hw6b
  go_wp2_with fail
  rw [← HW6.out]
  refine (HEs.out _).mono ?_
  rintro e w7 ⟨rfl, hb7⟩
  have hb07 := hb06b.trans (hb7.mono hb06b.size)
  have hX57 := (hb7.block w4.heap.size (by omega)).trans hX5b
  have hfc7 := hfc6b.keep (hb7.block g hfc6b.lt)
  have hs7 := hb7.size
  have hF7 := hfc7.row (by unfold maxLen; omega)
  have HC7 : Hid (∀ W, Below w7.heap.size w7 W → FRow W (.slice (some ⟨g, 0, none⟩) h.fs.length h.fs.length) h.fs ∧ FRow W (.slice va vn vc) h.fs ∧ Below w.heap.size w W ∧ W.heap[w.heap.size]? = some (.cells #[.string h.verb, .string h.target, .string h.host, .slice va vn vc, .string h.body] 24 (0, 0)) ∧ W.heap[w4.heap.size]? = some (.cells #[.string h.verb, .string h.target, .string h.host, .slice (some ⟨g, 0, none⟩) h.fs.length h.fs.length, .string h.body] 32 (0, 0))) := Lib.hid fun W hW => by
    obtain ⟨k1, k3, k4, k5⟩ := HX.out _ (hb07.trans (hW.mono hb07.size))
    exact ⟨hF7.below (Nat.le_refl _) hW, k3, k4, k5, (hW.block w4.heap.size (by omega)).trans hX57⟩
  clear q0 q1 q2 q3 q4 p0 p1 p2 p3 p4 hX6 hX3b hX5b hfc6b hb06b hb7 hX57 hfc7 hF7 hb07
  obtain ⟨wQ, hwQ⟩ : ∃ x, x = w7 := ⟨_, rfl⟩
  rw [← hwQ] at HC7 ⊢
  clear hwQ
  go_wp2_with fail
  refine wp_region_last (by kernel_rfl) 4 (by kernel_rfl) (by kernel_rfl) (by kernel_rfl)
    (fun u => { tmps := #[Value.agg #[Value.string h.verb, Value.string h.target, Value.string h.host, Value.slice va vn vc, Value.string h.body], .pointer (some ⟨w.heap.size, 0, none⟩), .bool false, Value.int IntKind.i64 r, .pointer (some ⟨w3.heap.size, 0, none⟩), .bool X, .pointer (some ⟨w4.heap.size, 0, none⟩), .pointer (some ⟨w6.heap.size, 0, none⟩), .bool X, Value.agg #[Value.string h.verb, Value.string h.target, Value.string h.host, Value.slice va vn vc, Value.string h.body], Value.int IntKind.i64 1048576, Value.int IntKind.i64 r, Value.int IntKind.i64 r, .bool (decide (r < 0)), Value.tuple #[Value.agg #[Value.string sp, Value.bool su, Value.int IntKind.i64 st, Value.int IntKind.i64 sn, Value.int IntKind.i64 sc], Value.bool X], Value.agg #[Value.string h.verb, Value.string h.target, Value.string h.host, Value.slice va vn vc, Value.string h.body], Value.agg #[Value.string h.verb, Value.string h.target, Value.string h.host, Value.slice (some { block := g1, off := 0 }) h.fs.length h.fs.length, Value.string h.body], Value.tuple #[Value.agg #[Value.string sp, Value.bool su, Value.int IntKind.i64 st, Value.int IntKind.i64 sn, Value.int IntKind.i64 sc], Value.bool X], Value.agg #[Value.string sp, Value.bool su, Value.int IntKind.i64 st, Value.int IntKind.i64 sn, Value.int IntKind.i64 sc], .bool X, Value.agg #[Value.string h.verb, Value.string h.target, Value.string h.host, Value.slice va vn vc, Value.string h.body], Value.agg #[Value.string h.verb, Value.string h.target, Value.string h.host, Value.slice (some { block := g, off := 0 }) h.fs.length h.fs.length, Value.string h.body], Value.tuple #[Value.agg #[Value.string sp, Value.bool su, Value.int IntKind.i64 st, Value.int IntKind.i64 sn, Value.int IntKind.i64 sc], Value.bool X], Value.agg #[Value.string h.verb, Value.string h.target, Value.string h.host, Value.slice (some { block := g, off := 0 }) h.fs.length h.fs.length, Value.string h.body], Value.tuple #[Value.agg #[Value.string sp, Value.bool su, Value.int IntKind.i64 st, Value.int IntKind.i64 sn, Value.int IntKind.i64 sc], Value.bool X], Value.agg #[Value.string sp, Value.bool su, Value.int IntKind.i64 st, Value.int IntKind.i64 sn, Value.int IntKind.i64 sc], .bool X, Value.agg #[Value.string sp, Value.bool su, Value.int IntKind.i64 st, Value.int IntKind.i64 sn, Value.int IntKind.i64 sc], Value.agg #[Value.string sp, Value.bool su, Value.int IntKind.i64 st, Value.int IntKind.i64 sn, Value.int IntKind.i64 sc], .bool true, .bool false, .bool false, .bool X, .bool X, .bool false, .bool false, u 0, u 1, u 2, u 3, undef], defers := [] })
    (fun _ w7 => Below wQ.heap.size wQ w7)
    (fun i z w7 => match i with
      | 0 => z = .agg #[.string h.verb, .string h.target, .string h.host, .slice (some ⟨g, 0, none⟩) h.fs.length h.fs.length, .string h.body]
      | 1 => z = .agg #[.string h.verb, .string h.target, .string h.host, .slice va vn vc, .string h.body]
      | 2 => ∃ g2, z = .agg #[.string h.verb, .string h.target, .string h.host, .slice (some ⟨g2, 0, none⟩) h.fs.length h.fs.length, .string h.body] ∧ FRow w7 (.slice (some ⟨g2, 0, none⟩) h.fs.length h.fs.length) h.fs
      | 3 => z = .bool true
      | _ => True)
    (fun w7 w8 => Below w7.heap.size w7 w8) (fun _ => undef) (Below.refl _ _).drew ?_ ?_ ?_
  · intro i z w7 w8 hi hR hle
    match i, hi with
    | 0, _ =>
      exact hR
    | 1, _ =>
      exact hR
    | 2, _ =>
      obtain ⟨g2, h1, h2⟩ := hR
      exact ⟨g2, h1, h2.below (Nat.le_refl _) hle⟩
    | 3, _ =>
      exact hR
    | n + 4, hn => exact absurd hn (by omega)
  · intro i hi u w7 kk hkk hC hdp
    match i, hi with
    | 0, _ =>
      obtain ⟨k1, k2, k3, k4, k5⟩ := HC7.out w7 hC
      obtain ⟨q0, q1, q2, q3, q4⟩ := sl_facts k4
      obtain ⟨t0, t1, t2, t3, t4⟩ := sl_facts k5
      refine wpOp_step rfl (fun K hK => ?_)
      clear hdp
      go_simp
      exact hK _ _ ⟨.agg #[.string h.verb, .string h.target, .string h.host, .slice (some ⟨g, 0, none⟩) h.fs.length h.fs.length, .string h.body], rfl, rfl, Below.refl _ _, hC⟩
    | 1, _ =>
      obtain ⟨k1, k2, k3, k4, k5⟩ := HC7.out w7 hC
      obtain ⟨q0, q1, q2, q3, q4⟩ := sl_facts k4
      obtain ⟨t0, t1, t2, t3, t4⟩ := sl_facts k5
      refine wpOp_step rfl (fun K hK => ?_)
      clear hdp
      go_simp
      exact hK _ _ ⟨.agg #[.string h.verb, .string h.target, .string h.host, .slice va vn vc, .string h.body], rfl, rfl, Below.refl _ _, hC⟩
    | 2, _ =>
      obtain ⟨k1, k2, k3, k4, k5⟩ := HC7.out w7 hC
      obtain ⟨q0, q1, q2, q3, q4⟩ := sl_facts k4
      obtain ⟨t0, t1, t2, t3, t4⟩ := sl_facts k5
      have e1 : u 1 = .agg #[.string h.verb, .string h.target, .string h.host, .slice va vn vc, .string h.body] := hdp 1 (dep_of (by kernel_rfl))
      have hT := HTo.out hzl w7 k2
      refine wpOp_step rfl (fun K hK => ?_)
      clear hdp
      go_simp
      refine hT.mono ?_
      rintro e w8 ⟨⟨g2, rfl, hg2, hfc2⟩, hb8⟩
      exact hK _ _ ⟨_, by simp [upd, e1], ⟨g2, rfl, hfc2.row (by unfold maxLen; omega)⟩, hb8, hC.trans (hb8.mono hC.size)⟩
    | 3, _ =>
      have e0 : u 0 = .agg #[.string h.verb, .string h.target, .string h.host, .slice (some ⟨g, 0, none⟩) h.fs.length h.fs.length, .string h.body] := hdp 0 (dep_of (by kernel_rfl))
      have r2 : ∃ g2, (u 2) = .agg #[.string h.verb, .string h.target, .string h.host, .slice (some ⟨g2, 0, none⟩) h.fs.length h.fs.length, .string h.body] ∧ FRow w7 (.slice (some ⟨g2, 0, none⟩) h.fs.length h.fs.length) h.fs := hdp 2 (dep_of (by kernel_rfl))
      obtain ⟨g2, e2, hr2⟩ := r2
      obtain ⟨k1, k2, k3, k4, k5⟩ := HC7.out w7 hC
      have hT := HEq.out (by omega) _ _ w7 k1 hr2
      refine wpOp_step rfl (fun K hK => ?_)
      clear hdp
      go_simp
      refine hT.mono ?_
      rintro e w8 ⟨rfl, hb8⟩
      exact hK _ _ ⟨.bool true, by simp [upd, e0, e2], rfl, hb8, hC.trans (hb8.mono hC.size)⟩
    | n + 4, hn => exact absurd hn (by omega)
  · intro u w7 kk hkk hC hdp
    have e3 : u 3 = .bool true := hdp 3 (by decide)
    have HB := Lib.hid (HC7.out _ hC).2.2.1
    refine wpOp_step rfl (fun K hK => ?_)
    clear hdp
    go_simp
    refine hK _ _ ?_
    clear hK K hC e3
    go_wp2
    go_ret
    exact ⟨rfl, HB.out⟩

namespace Lw
theorem fnExactSelRead (w : World) (hL : laidMetH Tryz.prog Rows.fnExactSelReadRow.laid w) (h : Hd) (v : Value) (hF : FRow w v h.fs) (hok : FOk h.fs maxLen) (b1 : h.verb.size ≤ maxLen) (b2 : h.target.size ≤ maxLen) (b3 : h.host.size ≤ maxLen) (b4 : h.body.size ≤ maxLen) :
    Calls Tryz.prog 3 #[headV h v] w fun e w' => e = .returned (.bool true) ∧ Below w.heap.size w w' := by
  have hL' : laidMet Tryz.prog Rows.fnExactSelReadRow.laid w := hL
  exact law_selread h v w hF hok b1 b2 b3 b4 (cls_of_head hL'.tail.tail.tail.tail.tail.tail) (tab_of_head hL'.tail.tail) (errs_of_heads hL'.tail.tail.tail.tail)
end Lw
end Go.Proofs.YtbhnjnoblkfckabGreatDoor
