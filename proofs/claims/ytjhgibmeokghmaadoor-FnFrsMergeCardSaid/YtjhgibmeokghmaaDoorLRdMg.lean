/- A law on answers, over drawn inputs: FnFrsMerge. -/
import Derived.Test.YtjhgibmeokghmaaDoorRsL
import Derived.Test.YtjhgibmeokghmaaDoorRsN2
namespace Go.Proofs.YtjhgibmeokghmaaDoor
open Go.RowKit

theorem merge_cases (o r : Rp) : (mergeR o r = (⟨o.code, r.mx, r.hide, o.tag, o.cod, o.body⟩, true) ∧ r.code = 304 ∧ r.tag = o.tag ∧ rspB ⟨o.code, r.mx, r.hide, o.tag, o.cod, o.body⟩ = true) ∨ mergeR o r = (noRp, false) := by
  unfold mergeR
  by_cases h : rspB o = true ∧ rspB r = true ∧ r.code = 304 ∧ o.tag.data.toList ≠ [] ∧ r.tag = o.tag
  · rw [if_pos h]
    obtain ⟨a, b, c, _, e⟩ := h
    have ho := rspB_iff.1 a; have hr := rspB_iff.1 b
    exact .inl ⟨rfl, c, e, rspB_iff.2 ⟨ho.code, hr.mx, ho.tag, ho.cod, ho.body⟩⟩
  · rw [if_neg h]; exact .inr rfl
set_option maxRecDepth 100000 in
set_option maxHeartbeats 6400000 in
theorem law_frsmerged (a : Option Addr) (len cap : Nat) (zs : List Int) (w : World) (h : IsRow .u8 w a len cap zs) (hcls : Cls w) :
    Calls Tryd.prog 6 #[.slice a len cap] w fun e w' => e = .returned (.bool true) ∧ Below w.heap.size w w' := by
  have hl := isrow_len h
  by_cases hbig : 1048576 < len
  · clear hcls h
    go_enter Tryd.func6, Tryd.ntmps6
    go_wp2_with fail
    go_ret
    exact ⟨rfl, Below.refl _ _⟩
  have d1 := draw_frsmerge a len cap zs w h
  have HX : Hid (∀ W, Below w.heap.size w W → Cls W) := Lib.hid fun W hW => hcls.below hW (Nat.le_refl _)
  clear h hcls
  go_enter Tryd.func6, Tryd.ntmps6
  go_wp2_with fail
  refine d1.mono ?_
  rintro e w1 ⟨⟨o, r, rfl, ⟨ht0, hb0⟩, ht1, hbr⟩, hb1⟩
  clear d1
  have HI : Hid (∀ W, Cls W → Calls Tryd.prog 28 #[rspV o, rspV r] W fun e w' => e = .returned (.tuple #[rspV (mergeR o r).1, .bool (mergeR o r).2]) ∧ Below W.heap.size W w') := Lib.hid fun W h => impl_merge o r W (by omega) (by omega) (by omega) (by omega) h
  have HS : Hid (∀ W, Calls Tryd.prog 29 #[rspV o, rspV r] W fun e w' => e = .returned (.tuple #[rspV (mergeR o r).1, .bool (mergeR o r).2]) ∧ Below W.heap.size W w') := Lib.hid fun W => spec_merge o r W (by omega) (by omega) (by omega) (by omega)
  have HR : Hid (rspB ⟨o.code, r.mx, r.hide, o.tag, o.cod, o.body⟩ = true → ∀ W, Cls W → Calls Tryd.prog 17 #[rspV ⟨o.code, r.mx, r.hide, o.tag, o.cod, o.body⟩] W fun e w' => e = .returned (.bool true) ∧ Below W.heap.size W w') := Lib.hid fun e W h => by
    have := impl_rspok ⟨o.code, r.mx, r.hide, o.tag, o.cod, o.body⟩ W (by unfold maxLen; dsimp only; omega) (by unfold maxLen; dsimp only; omega) h
    rw [e] at this; exact this
  have hcs := merge_cases o r
  obtain ⟨c0, m0, h0, t0, k0, b0⟩ := o
  obtain ⟨c1, m1, h1, t1, k1, b1⟩ := r
  dsimp only at *
  clear ht0 hb0 ht1 hbr
  rcases hcs with ⟨hm, hc, ht, hok⟩ | hm
  · have hR := Lib.hid (HR.out hok)
    subst hc ht
    rw [hm] at HI HS
    clear hm HR hok
    unfold rspV at HI HS hR ⊢
    dsimp only at HI HS hR ⊢
    obtain ⟨hz2, hb2, g0, g1⟩ := rbox2 w1 (.cells #[.int .i64 c0, .int .i64 m0, .bool h0, .string t1, .int .i64 k0, .string b0] 24) (.cells #[.int .i64 304, .int .i64 m1, .bool h1, .string t1, .int .i64 k1, .string b1] 24)
    obtain ⟨w2, hw2⟩ : ∃ x, x = (w1.alloc (.cells #[.int .i64 c0, .int .i64 m0, .bool h0, .string t1, .int .i64 k0, .string b0] 24)).alloc (.cells #[.int .i64 304, .int .i64 m1, .bool h1, .string t1, .int .i64 k1, .string b1] 24) := ⟨_, rfl⟩
    rw [← hw2] at hz2 hb2 g0 g1
    have hb02 := hb1.trans (hb2.mono hb1.size)
    have HX2 : Hid (∀ W, Below w2.heap.size w2 W → Cls W ∧ Below w.heap.size w W ∧ W.heap[w1.heap.size]? = some (.cells #[.int .i64 c0, .int .i64 m0, .bool h0, .string t1, .int .i64 k0, .string b0] 24 (0, 0)) ∧ W.heap[w1.heap.size + 1]? = some (.cells #[.int .i64 304, .int .i64 m1, .bool h1, .string t1, .int .i64 k1, .string b1] 24 (0, 0))) := Lib.hid fun W hW => by
      have hk := hb02.trans (hW.mono hb02.size)
      exact ⟨HX.out W hk, hk, (hW.block _ (by omega)).trans g0, (hW.block _ (by omega)).trans g1⟩
    have HW2 := Lib.hid hw2
    clear hw2 hb2 hb1 hb02 g0 g1
    go_wp2_with fail
    rw [← HW2.out]
    refine (HI.out _ (HX2.out _ (Below.refl _ _)).1).mono ?_
    rintro e w3 ⟨rfl, hb3⟩
    obtain ⟨w4, hw4⟩ : ∃ x, x = w3.alloc (.cells #[.int .i64 c0, .int .i64 m1, .bool h1, .string t1, .int .i64 k0, .string b0] 24) := ⟨_, rfl⟩
    have hn4 : w4.heap[w3.heap.size]? = some (.cells #[.int .i64 c0, .int .i64 m1, .bool h1, .string t1, .int .i64 k0, .string b0] 24 (0, 0)) := by rw [hw4]; exact heap_alloc_new w3 _
    have hs4 : w4.heap.size = w3.heap.size + 1 := by rw [hw4]; simp
    have hb4 : Below w2.heap.size w2 w4 := by rw [hw4]; exact hb3.alloc hb3.size _
    have hs3 := hb3.size
    have HX4 : Hid (∀ W, Below w4.heap.size w4 W → Cls W ∧ Below w.heap.size w W ∧ W.heap[w1.heap.size]? = some (.cells #[.int .i64 c0, .int .i64 m0, .bool h0, .string t1, .int .i64 k0, .string b0] 24 (0, 0)) ∧ W.heap[w1.heap.size + 1]? = some (.cells #[.int .i64 304, .int .i64 m1, .bool h1, .string t1, .int .i64 k1, .string b1] 24 (0, 0)) ∧ W.heap[w3.heap.size]? = some (.cells #[.int .i64 c0, .int .i64 m1, .bool h1, .string t1, .int .i64 k0, .string b0] 24 (0, 0))) := Lib.hid fun W hW => by
      obtain ⟨a1, a2, a3, a4⟩ := HX2.out _ (hb4.trans (hW.mono hb4.size))
      exact ⟨a1, a2, a3, a4, (hW.block _ (by omega)).trans hn4⟩
    have HW4 := Lib.hid hw4
    obtain ⟨_, _, k2, k3, _⟩ := HX4.out _ (Below.refl _ _)
    obtain ⟨q0, q1, q2, q3, q4, q5⟩ := six_facts (k2)
    obtain ⟨p0, p1, p2, p3, p4, p5⟩ := six_facts (k3)
    rw [hw4] at q0 q1 q2 q3 q4 q5 p0 p1 p2 p3 p4 p5
    clear hw4 hn4 hb3 hb4 k2 k3
    go_wp2_with fail
    rw [← HW4.out]
    refine (HS.out _).mono ?_
    rintro e w5 ⟨rfl, hb5⟩
    clear q0 q1 q2 q3 q4 q5 p0 p1 p2 p3 p4 p5
    obtain ⟨w6, hw6⟩ : ∃ x, x = w5.alloc (.cells #[.int .i64 c0, .int .i64 m1, .bool h1, .string t1, .int .i64 k0, .string b0] 24) := ⟨_, rfl⟩
    have hn6 : w6.heap[w5.heap.size]? = some (.cells #[.int .i64 c0, .int .i64 m1, .bool h1, .string t1, .int .i64 k0, .string b0] 24 (0, 0)) := by rw [hw6]; exact heap_alloc_new w5 _
    have hs6 : w6.heap.size = w5.heap.size + 1 := by rw [hw6]; simp
    have hb6 : Below w4.heap.size w4 w6 := by rw [hw6]; exact hb5.alloc hb5.size _
    have hs5 := hb5.size
    have HX6 : Hid (∀ W, Below w6.heap.size w6 W → Cls W ∧ Below w.heap.size w W ∧ W.heap[w1.heap.size]? = some (.cells #[.int .i64 c0, .int .i64 m0, .bool h0, .string t1, .int .i64 k0, .string b0] 24 (0, 0)) ∧ W.heap[w1.heap.size + 1]? = some (.cells #[.int .i64 304, .int .i64 m1, .bool h1, .string t1, .int .i64 k1, .string b1] 24 (0, 0)) ∧ W.heap[w3.heap.size]? = some (.cells #[.int .i64 c0, .int .i64 m1, .bool h1, .string t1, .int .i64 k0, .string b0] 24 (0, 0)) ∧ W.heap[w5.heap.size]? = some (.cells #[.int .i64 c0, .int .i64 m1, .bool h1, .string t1, .int .i64 k0, .string b0] 24 (0, 0))) := Lib.hid fun W hW => by
      obtain ⟨a1, a2, a3, a4, a5⟩ := HX4.out _ (hb6.trans (hW.mono hb6.size))
      exact ⟨a1, a2, a3, a4, a5, (hW.block _ (by omega)).trans hn6⟩
    have HW6 := Lib.hid hw6
    obtain ⟨_, _, k2, k3, k4, k5⟩ := HX6.out _ (Below.refl _ _)
    obtain ⟨q0, q1, q2, q3, q4, q5⟩ := six_facts (k2)
    obtain ⟨p0, p1, p2, p3, p4, p5⟩ := six_facts (k3)
    obtain ⟨x0, x1, x2, x3, x4, x5⟩ := six_facts (k4)
    obtain ⟨y0, y1, y2, y3, y4, y5⟩ := six_facts (k5)
    clear hn6 hb5 hb6 HX4 HX2 HW2 HW4 HI HS
    have hA := fun o => Below.heap_alloc w6 o
    have lt1 := (Array.getElem?_eq_some_iff.1 k2).1
    have lt2 := (Array.getElem?_eq_some_iff.1 k3).1
    have lt3 := (Array.getElem?_eq_some_iff.1 k4).1
    obtain ⟨r0, r1, r2, r3, r4, r5⟩ := six_facts ((hA (.cells #[.int .i64 c0, .int .i64 m1, .bool h1, .string t1, .int .i64 k0, .string b0] 24) _ lt1).trans k2)
    obtain ⟨s0, s1, s2, s3, s4, s5⟩ := six_facts ((hA (.cells #[.int .i64 c0, .int .i64 m0, .bool h1, .string t1, .int .i64 k0, .string b0] 24) _ lt1).trans k2)
    obtain ⟨w7, hw7⟩ : ∃ x, x = w6.alloc (.cells #[.int .i64 c0, .int .i64 m0, .bool h0, .string t1, .int .i64 k0, .string b0] 24) := ⟨_, rfl⟩
    have hn7 : w7.heap[w6.heap.size]? = some (.cells #[.int .i64 c0, .int .i64 m0, .bool h0, .string t1, .int .i64 k0, .string b0] 24 (0, 0)) := by rw [hw7]; exact heap_alloc_new w6 _
    have hb7 : Below w6.heap.size w6 w7 := by rw [hw7]; exact (Below.refl _ _).alloc (Nat.le_refl _) _
    have HW7 := Lib.hid hw7
    obtain ⟨j1, j2, j3, j4, j5, _⟩ := HX6.out _ hb7
    obtain ⟨u0, u1, u2, u3, u4, u5⟩ := six_facts (j3)
    obtain ⟨v0, v1, v2, v3, v4, v5⟩ := six_facts (j4)
    obtain ⟨z0, z1, z2, z3, z4, z5⟩ := six_facts (j5)
    obtain ⟨f0, f1, f2, f3, f4, f5⟩ := six_facts (hn7)
    rw [hw7] at u0 u1 u2 u3 u4 u5 v0 v1 v2 v3 v4 v5 z0 z1 z2 z3 z4 z5 f0 f1 f2 f3 f4 f5
    rw [HW6.out] at q0 q1 q2 q3 q4 q5 p0 p1 p2 p3 p4 p5 x0 x1 x2 x3 x4 x5 y0 y1 y2 y3 y4 y5 r0 r1 r2 r3 r4 r5 s0 s1 s2 s3 s4 s5 u0 u1 u2 u3 u4 u5 v0 v1 v2 v3 v4 v5 z0 z1 z2 z3 z4 z5 f0 f1 f2 f3 f4 f5
    have et : (t1.toList == t1.toList) = true := by simp
    have eb : (b0.toList == b0.toList) = true := by simp
    have e0 : (c0 == c0) = true := by simp
    have HJ := Lib.hid j2
    have HR' := hR.out w7 j1
    rw [hw7, HW6.out] at HR'
    clear hw7 hA lt1 lt2 lt3 k2 k3 k4 k5 hn7 hb7 j2 j3 j4 j5 hz2 hs4 hs3 hs6 hs5 j1 HX6
    go_wp2_with fail
    refine HR'.mono ?_
    rintro e w8 ⟨rfl, hb8⟩
    rw [← HW6.out, ← HW7.out] at hb8
    have HB := Lib.hid (HJ.out.trans (hb8.mono HJ.out.size))
    clear hb8 HR' q0 q1 q2 q3 q4 q5 p0 p1 p2 p3 p4 p5 x0 x1 x2 x3 x4 x5 y0 y1 y2 y3 y4 y5 r0 r1 r2 r3 r4 r5 s0 s1 s2 s3 s4 s5 u0 u1 u2 u3 u4 u5 v0 v1 v2 v3 v4 v5 z0 z1 z2 z3 z4 z5 f0 f1 f2 f3 f4 f5
    go_wp2
    go_ret
    exact ⟨rfl, HB.out⟩
  · rw [hm] at HI HS
    clear hm HR
    unfold rspV noRp at HI HS
    unfold rspV
    dsimp only at HI HS ⊢
    obtain ⟨hz2, hb2, g0, g1⟩ := rbox2 w1 (.cells #[.int .i64 c0, .int .i64 m0, .bool h0, .string t0, .int .i64 k0, .string b0] 24) (.cells #[.int .i64 c1, .int .i64 m1, .bool h1, .string t1, .int .i64 k1, .string b1] 24)
    obtain ⟨w2, hw2⟩ : ∃ x, x = (w1.alloc (.cells #[.int .i64 c0, .int .i64 m0, .bool h0, .string t0, .int .i64 k0, .string b0] 24)).alloc (.cells #[.int .i64 c1, .int .i64 m1, .bool h1, .string t1, .int .i64 k1, .string b1] 24) := ⟨_, rfl⟩
    rw [← hw2] at hz2 hb2 g0 g1
    have hb02 := hb1.trans (hb2.mono hb1.size)
    have HX2 : Hid (∀ W, Below w2.heap.size w2 W → Cls W ∧ Below w.heap.size w W ∧ W.heap[w1.heap.size]? = some (.cells #[.int .i64 c0, .int .i64 m0, .bool h0, .string t0, .int .i64 k0, .string b0] 24 (0, 0)) ∧ W.heap[w1.heap.size + 1]? = some (.cells #[.int .i64 c1, .int .i64 m1, .bool h1, .string t1, .int .i64 k1, .string b1] 24 (0, 0))) := Lib.hid fun W hW => by
      have hk := hb02.trans (hW.mono hb02.size)
      exact ⟨HX.out W hk, hk, (hW.block _ (by omega)).trans g0, (hW.block _ (by omega)).trans g1⟩
    have HW2 := Lib.hid hw2
    clear hw2 hb2 hb1 hb02 g0 g1
    go_wp2_with fail
    rw [← HW2.out]
    refine (HI.out _ (HX2.out _ (Below.refl _ _)).1).mono ?_
    rintro e w3 ⟨rfl, hb3⟩
    obtain ⟨w4, hw4⟩ : ∃ x, x = w3.alloc (.cells #[.int .i64 0, .int .i64 0, .bool false, .string ⟨#[]⟩, .int .i64 0, .string ⟨#[]⟩] 24) := ⟨_, rfl⟩
    have hn4 : w4.heap[w3.heap.size]? = some (.cells #[.int .i64 0, .int .i64 0, .bool false, .string ⟨#[]⟩, .int .i64 0, .string ⟨#[]⟩] 24 (0, 0)) := by rw [hw4]; exact heap_alloc_new w3 _
    have hs4 : w4.heap.size = w3.heap.size + 1 := by rw [hw4]; simp
    have hb4 : Below w2.heap.size w2 w4 := by rw [hw4]; exact hb3.alloc hb3.size _
    have hs3 := hb3.size
    have HX4 : Hid (∀ W, Below w4.heap.size w4 W → Cls W ∧ Below w.heap.size w W ∧ W.heap[w1.heap.size]? = some (.cells #[.int .i64 c0, .int .i64 m0, .bool h0, .string t0, .int .i64 k0, .string b0] 24 (0, 0)) ∧ W.heap[w1.heap.size + 1]? = some (.cells #[.int .i64 c1, .int .i64 m1, .bool h1, .string t1, .int .i64 k1, .string b1] 24 (0, 0)) ∧ W.heap[w3.heap.size]? = some (.cells #[.int .i64 0, .int .i64 0, .bool false, .string ⟨#[]⟩, .int .i64 0, .string ⟨#[]⟩] 24 (0, 0))) := Lib.hid fun W hW => by
      obtain ⟨a1, a2, a3, a4⟩ := HX2.out _ (hb4.trans (hW.mono hb4.size))
      exact ⟨a1, a2, a3, a4, (hW.block _ (by omega)).trans hn4⟩
    have HW4 := Lib.hid hw4
    obtain ⟨_, _, k2, k3, _⟩ := HX4.out _ (Below.refl _ _)
    obtain ⟨q0, q1, q2, q3, q4, q5⟩ := six_facts (k2)
    obtain ⟨p0, p1, p2, p3, p4, p5⟩ := six_facts (k3)
    rw [hw4] at q0 q1 q2 q3 q4 q5 p0 p1 p2 p3 p4 p5
    clear hw4 hn4 hb3 hb4 k2 k3
    go_wp2_with fail
    rw [← HW4.out]
    refine (HS.out _).mono ?_
    rintro e w5 ⟨rfl, hb5⟩
    clear q0 q1 q2 q3 q4 q5 p0 p1 p2 p3 p4 p5
    obtain ⟨w6, hw6⟩ : ∃ x, x = w5.alloc (.cells #[.int .i64 0, .int .i64 0, .bool false, .string ⟨#[]⟩, .int .i64 0, .string ⟨#[]⟩] 24) := ⟨_, rfl⟩
    have hn6 : w6.heap[w5.heap.size]? = some (.cells #[.int .i64 0, .int .i64 0, .bool false, .string ⟨#[]⟩, .int .i64 0, .string ⟨#[]⟩] 24 (0, 0)) := by rw [hw6]; exact heap_alloc_new w5 _
    have hs6 : w6.heap.size = w5.heap.size + 1 := by rw [hw6]; simp
    have hb6 : Below w4.heap.size w4 w6 := by rw [hw6]; exact hb5.alloc hb5.size _
    have hs5 := hb5.size
    have HX6 : Hid (∀ W, Below w6.heap.size w6 W → Cls W ∧ Below w.heap.size w W ∧ W.heap[w1.heap.size]? = some (.cells #[.int .i64 c0, .int .i64 m0, .bool h0, .string t0, .int .i64 k0, .string b0] 24 (0, 0)) ∧ W.heap[w1.heap.size + 1]? = some (.cells #[.int .i64 c1, .int .i64 m1, .bool h1, .string t1, .int .i64 k1, .string b1] 24 (0, 0)) ∧ W.heap[w3.heap.size]? = some (.cells #[.int .i64 0, .int .i64 0, .bool false, .string ⟨#[]⟩, .int .i64 0, .string ⟨#[]⟩] 24 (0, 0)) ∧ W.heap[w5.heap.size]? = some (.cells #[.int .i64 0, .int .i64 0, .bool false, .string ⟨#[]⟩, .int .i64 0, .string ⟨#[]⟩] 24 (0, 0))) := Lib.hid fun W hW => by
      obtain ⟨a1, a2, a3, a4, a5⟩ := HX4.out _ (hb6.trans (hW.mono hb6.size))
      exact ⟨a1, a2, a3, a4, a5, (hW.block _ (by omega)).trans hn6⟩
    have HW6 := Lib.hid hw6
    obtain ⟨_, _, k2, k3, k4, k5⟩ := HX6.out _ (Below.refl _ _)
    obtain ⟨q0, q1, q2, q3, q4, q5⟩ := six_facts (k2)
    obtain ⟨p0, p1, p2, p3, p4, p5⟩ := six_facts (k3)
    obtain ⟨x0, x1, x2, x3, x4, x5⟩ := six_facts (k4)
    obtain ⟨y0, y1, y2, y3, y4, y5⟩ := six_facts (k5)
    clear hn6 hb5 hb6 HX4 HX2 HW2 HW4 HI HS
    rw [HW6.out] at x0 x1 x2 x3 x4 x5 y0 y1 y2 y3 y4 y5
    obtain ⟨j1, j2, _⟩ := HX6.out _ (Below.refl _ _)
    rw [HW6.out] at j1 j2
    have HJ := Lib.hid j2
    have et : ((ByteArray.mk #[]).toList == (ByteArray.mk #[]).toList) = true := by simp
    clear k2 k3 k4 k5 hz2 hs4 hs3 hs6 hs5 HX6 j2 q0 q1 q2 q3 q4 q5 p0 p1 p2 p3 p4 p5
    go_wp2_with fail
    refine (gd_ok _ j1).mono ?_
    rintro e w8 ⟨rfl, rfl⟩
    clear j1 x0 x1 x2 x3 x4 x5 y0 y1 y2 y3 y4 y5
    go_wp2
    go_ret
    exact ⟨rfl, HJ.out⟩
namespace Lw
theorem fnFrsMerge (w : World) (hL : laidMetH Tryd.prog Rows.fnFrsMergeRow.laid w) (a : Option Addr) (len cap : Nat) (zs : List Int) (h : IsRow .u8 w a len cap zs) :
    Calls Tryd.prog 6 #[.slice a len cap] w fun e w' => e = .returned (.bool true) ∧ Below w.heap.size w w' := by
  have hL' : laidMet Tryd.prog Rows.fnFrsMergeRow.laid w := hL
  exact law_frsmerged a len cap zs w h (cls_of_head hL')
end Lw
end Go.Proofs.YtjhgibmeokghmaaDoor
