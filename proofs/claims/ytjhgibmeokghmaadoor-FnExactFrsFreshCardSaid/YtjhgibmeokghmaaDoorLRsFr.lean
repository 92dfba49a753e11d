/- Laws on answers, exact: which are fresh. -/
import Derived.Test.YtjhgibmeokghmaaDoorRsI3
import Derived.Test.YtjhgibmeokghmaaDoorRsS2
import Derived.Test.YtjhgibmeokghmaaDoorRsZ
import Derived.Test.YtjhgibmeokghmaaDoorRsF
import Derived.Test.YtjhgibmeokghmaaDoorLaid
namespace Go.Proofs.YtjhgibmeokghmaaDoor
open Go.RowKit


set_option maxRecDepth 100000 in
set_option maxHeartbeats 3200000 in
theorem law_frsfresh (r : Rp) (a : Int) (n : Int) (w : World) (ht : r.tag.size ≤ maxLen) (hb : r.body.size ≤ maxLen) (hcls : Cls w) :
    Calls Tryd.prog 11 #[rspV r, .int .i64 a, .int .i64 n] w fun e w' => e = .returned (.bool true) ∧ Below w.heap.size w w' := by
  have HZ := Lib.hid fun W => sz_rsp r 1048576 (by omega) (by omega) ht hb W
  have HT := Lib.hid fun W => to_rsp r W
  have HS : Hid (∀ W, Calls Tryd.prog 16 #[rspV r, .int .i64 a, .int .i64 n] W fun e w' => e = .returned (.bool (freshB r a n)) ∧ Below W.heap.size W w') := Lib.hid fun W => spec_fresh r a n W ht hb
  have HI : Hid (∀ W, Cls W → Calls Tryd.prog 15 #[rspV r, .int .i64 a, .int .i64 n] W fun e w' => e = .returned (.bool (freshB r a n)) ∧ Below W.heap.size W w') := Lib.hid fun W h => impl_fresh r a n W ht hb h
  generalize freshB r a n = R at *
  have eX : (R != R) = false := by cases R <;> rfl
  obtain ⟨c, m, hd, t, k, b⟩ := r
  unfold rspV at HZ HT HS HI ⊢
  dsimp only at HZ HT HS HI ⊢
  clear ht hb
  obtain ⟨wA, hwA⟩ : ∃ wA, wA = w.alloc (.cells #[.int .i64 c, .int .i64 m, .bool hd, .string t, .int .i64 k, .string b] 45) := ⟨_, rfl⟩
  have hsA : wA.heap.size = w.heap.size + 1 := by rw [hwA]; simp
  have hbA : Below w.heap.size w wA := by rw [hwA]; exact (Below.refl _ _).alloc (Nat.le_refl _) _
  have hH : wA.heap[w.heap.size]? = some (.cells #[.int .i64 c, .int .i64 m, .bool hd, .string t, .int .i64 k, .string b] 45 (0, 0)) := by rw [hwA]; exact heap_alloc_new w _
  have HX : Hid (∀ W, Below wA.heap.size wA W → Cls W ∧ Below w.heap.size w W ∧ W.heap[w.heap.size]? = some (.cells #[.int .i64 c, .int .i64 m, .bool hd, .string t, .int .i64 k, .string b] 45 (0, 0))) := Lib.hid fun W hW => by
    have hb' := hbA.trans (hW.mono (by omega))
    exact ⟨hcls.below hb' (Nat.le_refl _), hb', (hW.block _ (by omega)).trans hH⟩
  have HW := Lib.hid hwA
  obtain ⟨q0, q1, q2, q3, q4, q5⟩ := six_facts hH
  rw [hwA] at q0 q1 q2 q3 q4 q5
  clear hwA hbA hcls hH
  go_enter Tryd.func11, Tryd.ntmps11
  go_wp2_with fail
  rw [← HW.out]
  refine (HZ.out _).mono ?_
  rintro e w1 ⟨⟨n, rfl, hn⟩, hb1⟩
  clear q0 q1 q2 q3 q4 q5
  rcases hn with hn | ⟨hn, _⟩
  · have HB := Lib.hid (HX.out _ hb1).2.1
    clear hb1
    go_wp2
    go_ret
    exact ⟨rfl, HB.out⟩
  have i1 : ¬ n < 0 := by omega
  obtain ⟨q0, q1, q2, q3, q4, q5⟩ := six_facts (HX.out _ hb1).2.2
  go_wp2_with fail
  refine (HT.out _).mono ?_
  rintro e w2 ⟨rfl, hb2⟩
  have hb02 := hb1.trans (hb2.mono hb1.size)
  clear q0 q1 q2 q3 q4 q5 hb1 hb2
  obtain ⟨q0, q1, q2, q3, q4, q5⟩ := six_facts (HX.out _ hb02).2.2
  go_wp2_with fail
  refine (HS.out _).mono ?_
  rintro e w3 ⟨rfl, hb3⟩
  have hb03 := hb02.trans (hb3.mono hb02.size)
  clear q0 q1 q2 q3 q4 q5 hb02 hb3
  obtain ⟨q0, q1, q2, q3, q4, q5⟩ := six_facts (HX.out _ hb03).2.2
  go_wp2_with fail
  refine (HT.out _).mono ?_
  rintro e w4 ⟨rfl, hb4⟩
  have hb04 := hb03.trans (hb4.mono hb03.size)
  clear q0 q1 q2 q3 q4 q5 hb03 hb4
  go_wp2_with fail
  refine (HI.out _ (HX.out _ hb04).1).mono ?_
  rintro e w5 ⟨rfl, hb5⟩
  have HB := Lib.hid (HX.out _ (hb04.trans (hb5.mono hb04.size))).2.1
  clear hb04 hb5
  go_wp2
  go_ret
  exact ⟨rfl, HB.out⟩
namespace Lw
theorem fnExactFrsFresh (w : World) (hL : laidMetH Tryd.prog Rows.fnExactFrsFreshRow.laid w) (r : Rp) (ht : r.tag.size ≤ maxLen) (hb : r.body.size ≤ maxLen) (a : Int) (_ha : (Lit.int .i64 a).wf = true) (n : Int) (_hn : (Lit.int .i64 n).wf = true) :
    Calls Tryd.prog 11 #[rspV r, .int .i64 a, .int .i64 n] w fun e w' => e = .returned (.bool true) ∧ Below w.heap.size w w' := by
  have hL' : laidMet Tryd.prog Rows.fnExactFrsFreshRow.laid w := hL
  exact law_frsfresh r a n w ht hb (cls_of_head hL')
end Lw

end Go.Proofs.YtjhgibmeokghmaaDoor
