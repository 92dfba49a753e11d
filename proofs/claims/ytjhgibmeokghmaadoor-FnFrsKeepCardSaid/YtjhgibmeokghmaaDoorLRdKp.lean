/- A law on answers, over drawn inputs: FnFrsKeep. -/
import Derived.Test.YtjhgibmeokghmaaDoorRsL
namespace Go.Proofs.YtjhgibmeokghmaaDoor
open Go.RowKit

set_option maxRecDepth 100000 in
set_option maxHeartbeats 6400000 in
theorem law_frskeepd (a : Option Addr) (len cap : Nat) (zs : List Int) (w : World) (h : IsRow .u8 w a len cap zs) (hcls : Cls w) :
    Calls Tryd.prog 5 #[.slice a len cap] w fun e w' => e = .returned (.bool true) ∧ Below w.heap.size w w' := by
  have hl := isrow_len h
  by_cases hbig : 1048576 < len
  · clear hcls h
    go_enter Tryd.func5, Tryd.ntmps5
    go_wp2_with fail
    go_ret
    exact ⟨rfl, Below.refl _ _⟩
  have d1 := draw_frskeep a len cap zs w h
  have HX : Hid (∀ W, Below w.heap.size w W → Cls W) := Lib.hid fun W hW => hcls.below hW (Nat.le_refl _)
  clear h hcls
  go_enter Tryd.func5, Tryd.ntmps5
  go_wp2_with fail
  refine d1.mono ?_
  rintro e w1 ⟨⟨r, x, rfl, ht, hb⟩, hb1⟩
  clear d1
  have ht' : r.tag.size ≤ maxLen := by unfold maxLen; omega
  have hb' : r.body.size ≤ maxLen := by unfold maxLen; omega
  have HK : Hid (∀ r : Rp, r.tag.size ≤ maxLen → r.body.size ≤ maxLen → ∀ x v, keepB r x = v → ∀ W, Cls W → Calls Tryd.prog 24 #[rspV r, .int .i64 x] W fun e w' => e = .returned (.bool v) ∧ Below W.heap.size W w') := Lib.hid fun r a b x v e W h => by rw [← e]; exact impl_keep r x W a b h
  have HKS : Hid (∀ W, Calls Tryd.prog 25 #[rspV r, .int .i64 x] W fun e w' => e = .returned (.bool (keepB r x)) ∧ Below W.heap.size W w') := Lib.hid fun W => spec_keep r x W ht' hb'
  have HF : Hid (freshB r 5 5 = true → ∀ W, Cls W → Calls Tryd.prog 15 #[rspV r, .int .i64 5, .int .i64 5] W fun e w' => e = .returned (.bool true) ∧ Below W.heap.size W w') := Lib.hid fun e W h => by rw [← e]; exact impl_fresh r 5 5 W ht' hb' h
  have HC : Hid (inB x r.cod = true → ∀ W, Calls Tryd.prog 26 #[.int .i64 x, .int .i64 r.cod] W fun e w' => e = .returned (.bool true) ∧ W = w') := Lib.hid fun e W => by rw [← e]; exact impl_codin x r.cod W
  have hy : keepB r x = true → (r.code = 200 ∨ r.code = 404) ∧ 0 < r.mx ∧ r.hide = false ∧ inB x r.cod = true ∧ keepB r 7 = true ∧ freshB r 5 5 = true := fun h => by
    obtain ⟨a, b, c, d, e⟩ := keep_iff.1 h
    refine ⟨b, c, d, e, keep_iff.2 ⟨a, b, c, d, ?_⟩, fresh_iff.2 ⟨a, by omega, by omega⟩⟩
    have hk := (rspB_iff.1 a).cod
    rw [inB_ok (by omega)]
    have : r.cod = 0 ∨ r.cod = 1 ∨ r.cod = 2 := by omega
    rcases this with e | e | e <;> rw [e] <;> rfl
  have HK0 : Hid (∀ W, Cls W → Calls Tryd.prog 24 #[rspV r, .int .i64 x] W fun e w' => e = .returned (.bool (keepB r x)) ∧ Below W.heap.size W w') := Lib.hid (HK.out r ht' hb' x _ rfl)
  have HK1 : Hid (keepB r 7 = true → ∀ W, Cls W → Calls Tryd.prog 24 #[rspV r, .int .i64 7] W fun e w' => e = .returned (.bool true) ∧ Below W.heap.size W w') := Lib.hid fun e => HK.out r ht' hb' 7 _ e
  have HKX := Lib.hid (HK.out ⟨r.code, r.mx, true, r.tag, r.cod, r.body⟩ ht' hb' x false (by rw [← Bool.not_eq_true, keep_iff]; rintro ⟨_, _, _, h, _⟩; cases h))
  have HKY := Lib.hid (HK.out ⟨r.code, 0, r.hide, r.tag, r.cod, r.body⟩ ht' hb' x false (by rw [← Bool.not_eq_true, keep_iff]; rintro ⟨_, _, h, _⟩; dsimp only at h; omega))
  generalize keepB r x = F at *
  have eX : (F != F) = false := by cases F <;> rfl
  have HY := Lib.hid hy
  clear hy HK ht' hb' ht hb
  obtain ⟨c, m, hd, t, k, b⟩ := r
  unfold rspV at HKS HF HK0 HK1 HKX HKY ⊢
  dsimp only at HKS HF HK0 HK1 HKX HKY HC HY ⊢
  obtain ⟨w2, hw2⟩ : ∃ x, x = w1.alloc (.cells #[.int .i64 c, .int .i64 m, .bool hd, .string t, .int .i64 k, .string b] 24) := ⟨_, rfl⟩
  have hn2 : w2.heap[w1.heap.size]? = some (.cells #[.int .i64 c, .int .i64 m, .bool hd, .string t, .int .i64 k, .string b] 24 (0, 0)) := by rw [hw2]; exact heap_alloc_new w1 _
  have hs2 : w2.heap.size = w1.heap.size + 1 := by rw [hw2]; simp
  have hb2 : Below w.heap.size w w2 := by rw [hw2]; exact hb1.alloc hb1.size _
  have HX2 : Hid (∀ W, Below w2.heap.size w2 W → Cls W ∧ Below w.heap.size w W ∧ W.heap[w1.heap.size]? = some (.cells #[.int .i64 c, .int .i64 m, .bool hd, .string t, .int .i64 k, .string b] 24 (0, 0))) := Lib.hid fun W hW => by
    have hk := hb2.trans (hW.mono hb2.size)
    exact ⟨HX.out W hk, hk, (hW.block _ (by omega)).trans hn2⟩
  have HW2 := Lib.hid hw2
  have hbb : Below w2.heap.size w2 w2 := Below.refl _ _
  obtain ⟨q0, q1, q2, q3, q4, q5⟩ := six_facts hn2
  clear hw2 hn2 hb2 hb1 hs2
  go_wp2_with fail
  rw [← HW2.out]
  refine (HK0.out _ (HX2.out _ hbb).1).mono ?_
  rintro e w17 ⟨rfl, hb17⟩
  replace hbb := hbb.trans (hb17.mono hbb.size)
  clear q0 q1 q2 q3 q4 q5 hb17
  obtain ⟨q0, q1, q2, q3, q4, q5⟩ := six_facts (HX2.out _ hbb).2.2
  go_wp2_with fail
  refine (HKS.out _).mono ?_
  rintro e w18 ⟨rfl, hb18⟩
  replace hbb := hbb.trans (hb18.mono hbb.size)
  clear q0 q1 q2 q3 q4 q5 hb18
  obtain ⟨q0, q1, q2, q3, q4, q5⟩ := six_facts (HX2.out _ hbb).2.2
  clear HK0 HKS
  cases F
  · clear HY HF HC HK1 HKX HKY
    go_wp2_with fail
    refine (gd_ok _ (HX2.out _ hbb).1).mono ?_
    rintro e w9 ⟨rfl, rfl⟩
    have HB := Lib.hid (HX2.out _ hbb).2.1
    clear hbb q0 q1 q2 q3 q4 q5
    go_wp2
    go_ret
    exact ⟨rfl, HB.out⟩
  obtain ⟨y0, y1, y2, y3, y4, y5⟩ := HY.out rfl
  subst y2
  have hC := HC.out y3; have hK1 := HK1.out y4; have hF := HF.out y5
  clear HY HC HK1 HF y3 y4 y5
  have hwn := hbb.size
  obtain ⟨w5, hw5⟩ : ∃ x, x = (w18.alloc (.cells #[.int .i64 c, .int .i64 m, .bool true, .string t, .int .i64 k, .string b] 24)).alloc (.cells #[.int .i64 c, .int .i64 0, .bool false, .string t, .int .i64 k, .string b] 24) := ⟨_, rfl⟩
  obtain ⟨z5, e5, f5, g5⟩ := rbox2 w18 (.cells #[.int .i64 c, .int .i64 m, .bool true, .string t, .int .i64 k, .string b] 24) (.cells #[.int .i64 c, .int .i64 0, .bool false, .string t, .int .i64 k, .string b] 24)
  rw [← hw5] at z5 e5 f5 g5
  have hb5 := hbb.trans (e5.mono hbb.size)
  have HX5 : Hid (∀ W, Below w5.heap.size w5 W → Cls W ∧ Below w.heap.size w W ∧ W.heap[w1.heap.size]? = some (.cells #[.int .i64 c, .int .i64 m, .bool false, .string t, .int .i64 k, .string b] 24 (0, 0)) ∧ W.heap[w18.heap.size]? = some (.cells #[.int .i64 c, .int .i64 m, .bool true, .string t, .int .i64 k, .string b] 24 (0, 0)) ∧ W.heap[w18.heap.size + 1]? = some (.cells #[.int .i64 c, .int .i64 0, .bool false, .string t, .int .i64 k, .string b] 24 (0, 0))) := Lib.hid fun W hW => by
    obtain ⟨a1, a2, a3⟩ := HX2.out _ (hb5.trans (hW.mono hb5.size))
    exact ⟨a1, a2, a3, (hW.block _ (by omega)).trans f5, (hW.block _ (by omega)).trans g5⟩
  have HW5 := Lib.hid hw5
  have hk : Below w5.heap.size w5 w5 := Below.refl _ _
  have FACTS : True := trivial
  clear FACTS e5 f5 g5 hb5
  clear q0 q1 q2 q3 q4 q5
  obtain ⟨k1, k2, k3, k4, k5⟩ := HX5.out _ hk
  obtain ⟨q0, q1, q2, q3, q4, q5⟩ := six_facts (HX2.out _ hbb).2.2
  obtain ⟨a0, a1, a2, a3, a4, a5⟩ := six_facts k3
  rw [hw5] at a0 a1 a2 a3 a4 a5
  have hA := fun o => (Below.heap_alloc w18 o w1.heap.size (Array.getElem?_eq_some_iff.1 (HX2.out _ hbb).2.2).1).trans (HX2.out _ hbb).2.2
  obtain ⟨b0, b1, b2, b3, b4, b5⟩ := six_facts (hA (.cells #[.int .i64 c, .int .i64 m, .bool true, .string t, .int .i64 k, .string b] 24))
  obtain ⟨d0, d1, d2, d3, d4, d5⟩ := six_facts (hA (.cells #[.int .i64 c, .int .i64 m, .bool false, .string t, .int .i64 k, .string b] 24))
  clear k1 k2 k3 k4 k5 hw5 hbb hA
  rcases y0 with rfl | rfl
  · go_wp2_with fail
    rw [← HW5.out]
    refine (hC _).mono ?_
    rintro e w9 ⟨rfl, rfl⟩
    clear hC q0 q1 q2 q3 q4 q5 a0 a1 a2 a3 a4 a5 b0 b1 b2 b3 b4 b5 d0 d1 d2 d3 d4 d5
    obtain ⟨k1, k2, k3, k4, k5⟩ := HX5.out _ hk
    obtain ⟨q0, q1, q2, q3, q4, q5⟩ := six_facts k3
    obtain ⟨p0, p1, p2, p3, p4, p5⟩ := six_facts k4
    obtain ⟨u0, u1, u2, u3, u4, u5⟩ := six_facts k5
    clear k2 k3 k4 k5
    go_wp2_with fail
    refine (HKX.out _ k1).mono ?_
    rintro e w19 ⟨rfl, hb19⟩
    replace hk := hk.trans (hb19.mono hk.size)
    clear hb19 k1
    clear q0 q1 q2 q3 q4 q5 p0 p1 p2 p3 p4 p5 u0 u1 u2 u3 u4 u5
    obtain ⟨k1, k2, k3, k4, k5⟩ := HX5.out _ hk
    obtain ⟨q0, q1, q2, q3, q4, q5⟩ := six_facts k3
    obtain ⟨p0, p1, p2, p3, p4, p5⟩ := six_facts k4
    obtain ⟨u0, u1, u2, u3, u4, u5⟩ := six_facts k5
    clear k2 k3 k4 k5
    go_wp2_with fail
    refine (HKY.out _ k1).mono ?_
    rintro e w20 ⟨rfl, hb20⟩
    replace hk := hk.trans (hb20.mono hk.size)
    clear hb20 k1
    clear q0 q1 q2 q3 q4 q5 p0 p1 p2 p3 p4 p5 u0 u1 u2 u3 u4 u5
    obtain ⟨k1, k2, k3, k4, k5⟩ := HX5.out _ hk
    obtain ⟨q0, q1, q2, q3, q4, q5⟩ := six_facts k3
    obtain ⟨p0, p1, p2, p3, p4, p5⟩ := six_facts k4
    obtain ⟨u0, u1, u2, u3, u4, u5⟩ := six_facts k5
    clear k2 k3 k4 k5
    go_wp2_with fail
    refine (hK1 _ k1).mono ?_
    rintro e w21 ⟨rfl, hb21⟩
    replace hk := hk.trans (hb21.mono hk.size)
    clear hb21 k1
    clear q0 q1 q2 q3 q4 q5 p0 p1 p2 p3 p4 p5 u0 u1 u2 u3 u4 u5
    obtain ⟨k1, k2, k3, k4, k5⟩ := HX5.out _ hk
    obtain ⟨q0, q1, q2, q3, q4, q5⟩ := six_facts k3
    obtain ⟨p0, p1, p2, p3, p4, p5⟩ := six_facts k4
    obtain ⟨u0, u1, u2, u3, u4, u5⟩ := six_facts k5
    clear k2 k3 k4 k5
    go_wp2_with fail
    refine (hF _ k1).mono ?_
    rintro e w19 ⟨rfl, hb19⟩
    replace hk := hk.trans (hb19.mono hk.size)
    have HB := Lib.hid (HX5.out _ hk).2.1
    clear hb19 k1 hk HKX HKY hK1 hF
    clear q0 q1 q2 q3 q4 q5 p0 p1 p2 p3 p4 p5 u0 u1 u2 u3 u4 u5
    go_wp2
    go_ret
    exact ⟨rfl, HB.out⟩
  · go_wp2_with fail
    rw [← HW5.out]
    refine (hC _).mono ?_
    rintro e w9 ⟨rfl, rfl⟩
    clear hC q0 q1 q2 q3 q4 q5 a0 a1 a2 a3 a4 a5 b0 b1 b2 b3 b4 b5 d0 d1 d2 d3 d4 d5
    obtain ⟨k1, k2, k3, k4, k5⟩ := HX5.out _ hk
    obtain ⟨q0, q1, q2, q3, q4, q5⟩ := six_facts k3
    obtain ⟨p0, p1, p2, p3, p4, p5⟩ := six_facts k4
    obtain ⟨u0, u1, u2, u3, u4, u5⟩ := six_facts k5
    clear k2 k3 k4 k5
    go_wp2_with fail
    refine (HKX.out _ k1).mono ?_
    rintro e w19 ⟨rfl, hb19⟩
    replace hk := hk.trans (hb19.mono hk.size)
    clear hb19 k1
    clear q0 q1 q2 q3 q4 q5 p0 p1 p2 p3 p4 p5 u0 u1 u2 u3 u4 u5
    obtain ⟨k1, k2, k3, k4, k5⟩ := HX5.out _ hk
    obtain ⟨q0, q1, q2, q3, q4, q5⟩ := six_facts k3
    obtain ⟨p0, p1, p2, p3, p4, p5⟩ := six_facts k4
    obtain ⟨u0, u1, u2, u3, u4, u5⟩ := six_facts k5
    clear k2 k3 k4 k5
    go_wp2_with fail
    refine (HKY.out _ k1).mono ?_
    rintro e w20 ⟨rfl, hb20⟩
    replace hk := hk.trans (hb20.mono hk.size)
    clear hb20 k1
    clear q0 q1 q2 q3 q4 q5 p0 p1 p2 p3 p4 p5 u0 u1 u2 u3 u4 u5
    obtain ⟨k1, k2, k3, k4, k5⟩ := HX5.out _ hk
    obtain ⟨q0, q1, q2, q3, q4, q5⟩ := six_facts k3
    obtain ⟨p0, p1, p2, p3, p4, p5⟩ := six_facts k4
    obtain ⟨u0, u1, u2, u3, u4, u5⟩ := six_facts k5
    clear k2 k3 k4 k5
    go_wp2_with fail
    refine (hK1 _ k1).mono ?_
    rintro e w21 ⟨rfl, hb21⟩
    replace hk := hk.trans (hb21.mono hk.size)
    clear hb21 k1
    clear q0 q1 q2 q3 q4 q5 p0 p1 p2 p3 p4 p5 u0 u1 u2 u3 u4 u5
    obtain ⟨k1, k2, k3, k4, k5⟩ := HX5.out _ hk
    obtain ⟨q0, q1, q2, q3, q4, q5⟩ := six_facts k3
    obtain ⟨p0, p1, p2, p3, p4, p5⟩ := six_facts k4
    obtain ⟨u0, u1, u2, u3, u4, u5⟩ := six_facts k5
    clear k2 k3 k4 k5
    go_wp2_with fail
    refine (hF _ k1).mono ?_
    rintro e w19 ⟨rfl, hb19⟩
    replace hk := hk.trans (hb19.mono hk.size)
    have HB := Lib.hid (HX5.out _ hk).2.1
    clear hb19 k1 hk HKX HKY hK1 hF
    clear q0 q1 q2 q3 q4 q5 p0 p1 p2 p3 p4 p5 u0 u1 u2 u3 u4 u5
    go_wp2
    go_ret
    exact ⟨rfl, HB.out⟩
namespace Lw
theorem fnFrsKeep (w : World) (hL : laidMetH Tryd.prog Rows.fnFrsKeepRow.laid w) (a : Option Addr) (len cap : Nat) (zs : List Int) (h : IsRow .u8 w a len cap zs) :
    Calls Tryd.prog 5 #[.slice a len cap] w fun e w' => e = .returned (.bool true) ∧ Below w.heap.size w w' := by
  have hL' : laidMet Tryd.prog Rows.fnFrsKeepRow.laid w := hL
  exact law_frskeepd a len cap zs w h (cls_of_head hL')
end Lw
end Go.Proofs.YtjhgibmeokghmaaDoor
