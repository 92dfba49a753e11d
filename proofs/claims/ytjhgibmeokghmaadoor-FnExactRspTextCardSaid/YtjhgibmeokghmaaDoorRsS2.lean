/- Walks: answers, by the specification: their age, whether they are fresh, whether they may be kept. -/
import Derived.Test.YtjhgibmeokghmaaDoorRsS
namespace Go.Proofs.YtjhgibmeokghmaaDoor
open Go.RowKit

set_option maxRecDepth 100000 in
set_option maxHeartbeats 1600000 in
theorem spec_age (a n : Int) (w : World) :
    Calls Tryd.prog 22 #[.int .i64 a, .int .i64 n] w fun e w' => e = .returned (.int .i64 (ageN a n)) ∧ w = w' := by
  have hA := fun W => cod_in1 a 0 999999 W
  have hN := fun W => cod_in1 n 0 999999 W
  unfold ageN
  by_cases c1 : 0 ≤ a ∧ a ≤ 999999
  · rw [decide_eq_true c1] at hA
    by_cases c2 : 0 ≤ n ∧ n ≤ 999999
    · rw [decide_eq_true c2] at hN
      by_cases c3 : a ≤ n
      · rw [if_pos (show 0 ≤ a ∧ a ≤ n ∧ n ≤ 999999 from ⟨c1.1, c3, c2.2⟩)]
        obtain ⟨i1, i2⟩ := c1
        obtain ⟨i3, i4⟩ := c2
        have i5 : ¬ n < a := by omega
        go_enter Tryd.func22, Tryd.ntmps22
        go_wp2_with fail
        refine (hA _).mono ?_
        rintro e w1 ⟨rfl, rfl⟩
        go_wp2_with fail
        refine (hN _).mono ?_
        rintro e w1 ⟨rfl, rfl⟩
        go_wp2
        go_ret
        exact ⟨rfl, rfl⟩
      · rw [if_neg (fun h => c3 h.2.1)]
        have i5 : n < a := by omega
        clear c1 c2 c3
        go_enter Tryd.func22, Tryd.ntmps22
        go_wp2_with fail
        refine (hA _).mono ?_
        rintro e w1 ⟨rfl, rfl⟩
        go_wp2_with fail
        refine (hN _).mono ?_
        rintro e w1 ⟨rfl, rfl⟩
        go_wp2
        go_ret
        exact ⟨rfl, rfl⟩
    · rw [decide_eq_false c2] at hN
      rw [if_neg (show ¬ (0 ≤ a ∧ a ≤ n ∧ n ≤ 999999) from by omega)]
      clear c1 c2
      go_enter Tryd.func22, Tryd.ntmps22
      go_wp2_with fail
      refine (hA _).mono ?_
      rintro e w1 ⟨rfl, rfl⟩
      go_wp2_with fail
      refine (hN _).mono ?_
      rintro e w1 ⟨rfl, rfl⟩
      go_wp2
      go_ret
      exact ⟨rfl, rfl⟩
  · rw [decide_eq_false c1] at hA
    rw [if_neg (show ¬ (0 ≤ a ∧ a ≤ n ∧ n ≤ 999999) from by omega)]
    clear c1
    go_enter Tryd.func22, Tryd.ntmps22
    go_wp2_with fail
    refine (hA _).mono ?_
    rintro e w1 ⟨rfl, rfl⟩
    go_wp2
    go_ret
    exact ⟨rfl, rfl⟩

set_option maxRecDepth 100000 in
set_option maxHeartbeats 3200000 in
theorem spec_fresh (r : Rp) (a n : Int) (w : World) (ht : r.tag.size ≤ maxLen) (hb : r.body.size ≤ maxLen) :
    Calls Tryd.prog 16 #[rspV r, .int .i64 a, .int .i64 n] w fun e w' => e = .returned (.bool (freshB r a n)) ∧ Below w.heap.size w w' := by
  have hR := fun W => spec_rspok r W ht hb
  have hA := fun W => cod_in1 a 0 999999 W
  have hN := fun W => cod_in1 n a 999999 W
  obtain ⟨c, m, hd, t, k, b⟩ := r
  have hdef : freshB ⟨c, m, hd, t, k, b⟩ a n = (rspB ⟨c, m, hd, t, k, b⟩ && (decide (0 ≤ a ∧ a ≤ 999999) && (decide (a ≤ n ∧ n ≤ 999999) && decide (n - a < m)))) := by
    unfold freshB timesB
    dsimp only
    congr 1
    rw [← Bool.and_assoc]
    congr 1
    rw [Bool.eq_iff_iff]; simp only [Bool.and_eq_true, decide_eq_true_eq]; omega
  rw [hdef]
  unfold rspV at hR ⊢
  dsimp only at hR ⊢
  generalize rspB ⟨c, m, hd, t, k, b⟩ = B0 at *
  clear hdef ht hb
  obtain ⟨wA, hwA⟩ : ∃ wA, wA = w.alloc (.cells #[.int .i64 c, .int .i64 m, .bool hd, .string t, .int .i64 k, .string b] 24) := ⟨_, rfl⟩
  have hsA : wA.heap.size = w.heap.size + 1 := by rw [hwA]; simp
  have hbA : Below w.heap.size w wA := by rw [hwA]; exact (Below.refl _ _).alloc (Nat.le_refl _) _
  have hH : wA.heap[w.heap.size]? = some (.cells #[.int .i64 c, .int .i64 m, .bool hd, .string t, .int .i64 k, .string b] 24 (0, 0)) := by rw [hwA]; exact heap_alloc_new w _
  have HX : Hid (∀ W, Below wA.heap.size wA W → Below w.heap.size w W ∧ W.heap[w.heap.size]? = some (.cells #[.int .i64 c, .int .i64 m, .bool hd, .string t, .int .i64 k, .string b] 24 (0, 0))) := Lib.hid fun W hW =>
    ⟨hbA.trans (hW.mono (by omega)), (hW.block _ (by omega)).trans hH⟩
  have HW := Lib.hid hwA
  obtain ⟨q0, q1, q2, q3, q4, q5⟩ := six_facts hH
  rw [hwA] at q0 q1 q2 q3 q4 q5
  have HR := Lib.hid hR; have HA := Lib.hid hA; have HN := Lib.hid hN
  have hb0 : Below wA.heap.size wA wA := Below.refl _ _
  have hRA := hR wA
  rw [hwA] at hRA
  clear hR hA hN hwA hbA hH
  cases B0
  · go_enter Tryd.func16, Tryd.ntmps16
    go_wp2_with fail
    refine hRA.mono ?_
    rintro e w1 ⟨rfl, hb1⟩
    rw [← HW.out] at hb1
    clear q0 q1 q2 q3 q4 q5
    obtain ⟨HB, hq⟩ := HX.out _ hb1
    have HB := Lib.hid HB
    obtain ⟨q0, q1, q2, q3, q4, q5⟩ := six_facts hq
    clear hb0 hb1 hq hRA
    go_wp2
    go_ret
    exact ⟨rfl, HB.out⟩
  by_cases c1 : 0 ≤ a ∧ a ≤ 999999
  · rw [decide_eq_true c1] at HA ⊢
    by_cases c2 : a ≤ n ∧ n ≤ 999999
    · rw [decide_eq_true c2] at HN ⊢
      obtain ⟨i0, i1⟩ := c1
      obtain ⟨i2, i3⟩ := c2
      by_cases c3 : n - a < m
      · rw [decide_eq_true c3]
        go_enter Tryd.func16, Tryd.ntmps16
        go_wp2_with fail
        refine hRA.mono ?_
        rintro e w1 ⟨rfl, hb1⟩
        rw [← HW.out] at hb1
        clear q0 q1 q2 q3 q4 q5
        obtain ⟨HB, hq⟩ := HX.out _ hb1
        have HB := Lib.hid HB
        obtain ⟨q0, q1, q2, q3, q4, q5⟩ := six_facts hq
        clear hb0 hb1 hq hRA
        go_wp2_with fail
        refine (HA.out _).mono ?_
        rintro e w2 ⟨rfl, rfl⟩
        go_wp2_with fail
        refine (HN.out _).mono ?_
        rintro e w2 ⟨rfl, rfl⟩
        go_wp2
        go_ret
        exact ⟨rfl, HB.out⟩
      · rw [decide_eq_false c3]
        go_enter Tryd.func16, Tryd.ntmps16
        go_wp2_with fail
        refine hRA.mono ?_
        rintro e w1 ⟨rfl, hb1⟩
        rw [← HW.out] at hb1
        clear q0 q1 q2 q3 q4 q5
        obtain ⟨HB, hq⟩ := HX.out _ hb1
        have HB := Lib.hid HB
        obtain ⟨q0, q1, q2, q3, q4, q5⟩ := six_facts hq
        clear hb0 hb1 hq hRA
        go_wp2_with fail
        refine (HA.out _).mono ?_
        rintro e w2 ⟨rfl, rfl⟩
        go_wp2_with fail
        refine (HN.out _).mono ?_
        rintro e w2 ⟨rfl, rfl⟩
        go_wp2
        go_ret
        exact ⟨by first | rfl | simp [c3], HB.out⟩
    · rw [decide_eq_false c2] at HN ⊢
      clear c1 c2
      go_enter Tryd.func16, Tryd.ntmps16
      go_wp2_with fail
      refine hRA.mono ?_
      rintro e w1 ⟨rfl, hb1⟩
      rw [← HW.out] at hb1
      clear q0 q1 q2 q3 q4 q5
      obtain ⟨HB, hq⟩ := HX.out _ hb1
      have HB := Lib.hid HB
      obtain ⟨q0, q1, q2, q3, q4, q5⟩ := six_facts hq
      clear hb0 hb1 hq hRA
      go_wp2_with fail
      refine (HA.out _).mono ?_
      rintro e w2 ⟨rfl, rfl⟩
      go_wp2_with fail
      refine (HN.out _).mono ?_
      rintro e w2 ⟨rfl, rfl⟩
      go_wp2
      go_ret
      exact ⟨rfl, HB.out⟩
  · rw [decide_eq_false c1] at HA ⊢
    clear c1
    go_enter Tryd.func16, Tryd.ntmps16
    go_wp2_with fail
    refine hRA.mono ?_
    rintro e w1 ⟨rfl, hb1⟩
    rw [← HW.out] at hb1
    clear q0 q1 q2 q3 q4 q5
    obtain ⟨HB, hq⟩ := HX.out _ hb1
    have HB := Lib.hid HB
    obtain ⟨q0, q1, q2, q3, q4, q5⟩ := six_facts hq
    clear hb0 hb1 hq hRA
    go_wp2_with fail
    refine (HA.out _).mono ?_
    rintro e w2 ⟨rfl, rfl⟩
    go_wp2
    go_ret
    exact ⟨rfl, HB.out⟩

set_option maxRecDepth 100000 in
set_option maxHeartbeats 3200000 in
theorem spec_keep (r : Rp) (x : Int) (w : World) (ht : r.tag.size ≤ maxLen) (hb : r.body.size ≤ maxLen) :
    Calls Tryd.prog 25 #[rspV r, .int .i64 x] w fun e w' => e = .returned (.bool (keepB r x)) ∧ Below w.heap.size w w' := by
  have hR := fun W => spec_rspok r W ht hb
  obtain ⟨c, m, hd, t, k, b⟩ := r
  have hI := fun W => spec_codin x k W
  have hdef : keepB ⟨c, m, hd, t, k, b⟩ x = (rspB ⟨c, m, hd, t, k, b⟩ && (decide (c = 200 ∨ c = 404) && (decide (0 < m) && ((!hd) && inB x k)))) := rfl
  rw [hdef]
  unfold rspV at hR ⊢
  dsimp only at hR ⊢
  generalize rspB ⟨c, m, hd, t, k, b⟩ = B0 at *
  generalize inB x k = B2 at *
  clear hdef ht hb
  obtain ⟨wA, hwA⟩ : ∃ wA, wA = w.alloc (.cells #[.int .i64 c, .int .i64 m, .bool hd, .string t, .int .i64 k, .string b] 24) := ⟨_, rfl⟩
  have hsA : wA.heap.size = w.heap.size + 1 := by rw [hwA]; simp
  have hbA : Below w.heap.size w wA := by rw [hwA]; exact (Below.refl _ _).alloc (Nat.le_refl _) _
  have hH : wA.heap[w.heap.size]? = some (.cells #[.int .i64 c, .int .i64 m, .bool hd, .string t, .int .i64 k, .string b] 24 (0, 0)) := by rw [hwA]; exact heap_alloc_new w _
  have HX : Hid (∀ W, Below wA.heap.size wA W → Below w.heap.size w W ∧ W.heap[w.heap.size]? = some (.cells #[.int .i64 c, .int .i64 m, .bool hd, .string t, .int .i64 k, .string b] 24 (0, 0))) := Lib.hid fun W hW =>
    ⟨hbA.trans (hW.mono (by omega)), (hW.block _ (by omega)).trans hH⟩
  have HW := Lib.hid hwA
  obtain ⟨q0, q1, q2, q3, q4, q5⟩ := six_facts hH
  rw [hwA] at q0 q1 q2 q3 q4 q5
  have HR := Lib.hid hR; have HI := Lib.hid hI
  have hRA := hR wA
  rw [hwA] at hRA
  have hb0 : True := trivial
  clear hR hI hwA hbA hH
  cases B0
  · go_enter Tryd.func25, Tryd.ntmps25
    go_wp2_with fail
    refine hRA.mono ?_
    rintro e w1 ⟨rfl, hb1⟩
    rw [← HW.out] at hb1
    clear q0 q1 q2 q3 q4 q5
    obtain ⟨HB, hq⟩ := HX.out _ hb1
    have HB := Lib.hid HB
    obtain ⟨q0, q1, q2, q3, q4, q5⟩ := six_facts hq
    clear hb0 hb1 hq hRA
    go_wp2
    go_ret
    exact ⟨rfl, HB.out⟩
  have h3 : c = 200 ∨ c = 404 ∨ (¬ c = 200 ∧ ¬ c = 404) := by omega
  rcases h3 with rfl | rfl | ⟨n0, n1⟩
  · rw [show decide ((200 : Int) = 200 ∨ (200 : Int) = 404) = true from rfl]
    by_cases hm : 0 < m
    · rw [decide_eq_true hm]
      have i1 : 1 ≤ m := by omega
      clear hm
      cases hd
      · go_enter Tryd.func25, Tryd.ntmps25
        go_wp2_with fail
        refine hRA.mono ?_
        rintro e w1 ⟨rfl, hb1⟩
        rw [← HW.out] at hb1
        clear q0 q1 q2 q3 q4 q5
        obtain ⟨HB, hq⟩ := HX.out _ hb1
        have HB := Lib.hid HB
        obtain ⟨q0, q1, q2, q3, q4, q5⟩ := six_facts hq
        clear hb0 hb1 hq hRA
        go_wp2_with fail
        refine (HI.out _).mono ?_
        rintro e w2 ⟨rfl, hb2⟩
        have HB2 := Lib.hid (HB.out.trans (hb2.mono HB.out.size))
        clear hb2
        go_wp2
        go_ret
        exact ⟨rfl, HB2.out⟩
      · go_enter Tryd.func25, Tryd.ntmps25
        go_wp2_with fail
        refine hRA.mono ?_
        rintro e w1 ⟨rfl, hb1⟩
        rw [← HW.out] at hb1
        clear q0 q1 q2 q3 q4 q5
        obtain ⟨HB, hq⟩ := HX.out _ hb1
        have HB := Lib.hid HB
        obtain ⟨q0, q1, q2, q3, q4, q5⟩ := six_facts hq
        clear hb0 hb1 hq hRA
        go_wp2
        go_ret
        exact ⟨rfl, HB.out⟩
    · rw [decide_eq_false hm]
      have i1 : ¬ 1 ≤ m := by omega
      clear hm
      go_enter Tryd.func25, Tryd.ntmps25
      go_wp2_with fail
      refine hRA.mono ?_
      rintro e w1 ⟨rfl, hb1⟩
      rw [← HW.out] at hb1
      clear q0 q1 q2 q3 q4 q5
      obtain ⟨HB, hq⟩ := HX.out _ hb1
      have HB := Lib.hid HB
      obtain ⟨q0, q1, q2, q3, q4, q5⟩ := six_facts hq
      clear hb0 hb1 hq hRA
      go_wp2
      go_ret
      exact ⟨rfl, HB.out⟩
  · rw [show decide ((404 : Int) = 200 ∨ (404 : Int) = 404) = true from rfl]
    by_cases hm : 0 < m
    · rw [decide_eq_true hm]
      have i1 : 1 ≤ m := by omega
      clear hm
      cases hd
      · go_enter Tryd.func25, Tryd.ntmps25
        go_wp2_with fail
        refine hRA.mono ?_
        rintro e w1 ⟨rfl, hb1⟩
        rw [← HW.out] at hb1
        clear q0 q1 q2 q3 q4 q5
        obtain ⟨HB, hq⟩ := HX.out _ hb1
        have HB := Lib.hid HB
        obtain ⟨q0, q1, q2, q3, q4, q5⟩ := six_facts hq
        clear hb0 hb1 hq hRA
        go_wp2_with fail
        refine (HI.out _).mono ?_
        rintro e w2 ⟨rfl, hb2⟩
        have HB2 := Lib.hid (HB.out.trans (hb2.mono HB.out.size))
        clear hb2
        go_wp2
        go_ret
        exact ⟨rfl, HB2.out⟩
      · go_enter Tryd.func25, Tryd.ntmps25
        go_wp2_with fail
        refine hRA.mono ?_
        rintro e w1 ⟨rfl, hb1⟩
        rw [← HW.out] at hb1
        clear q0 q1 q2 q3 q4 q5
        obtain ⟨HB, hq⟩ := HX.out _ hb1
        have HB := Lib.hid HB
        obtain ⟨q0, q1, q2, q3, q4, q5⟩ := six_facts hq
        clear hb0 hb1 hq hRA
        go_wp2
        go_ret
        exact ⟨rfl, HB.out⟩
    · rw [decide_eq_false hm]
      have i1 : ¬ 1 ≤ m := by omega
      clear hm
      go_enter Tryd.func25, Tryd.ntmps25
      go_wp2_with fail
      refine hRA.mono ?_
      rintro e w1 ⟨rfl, hb1⟩
      rw [← HW.out] at hb1
      clear q0 q1 q2 q3 q4 q5
      obtain ⟨HB, hq⟩ := HX.out _ hb1
      have HB := Lib.hid HB
      obtain ⟨q0, q1, q2, q3, q4, q5⟩ := six_facts hq
      clear hb0 hb1 hq hRA
      go_wp2
      go_ret
      exact ⟨rfl, HB.out⟩
  · rw [decide_eq_false (fun h => h.elim n0 n1)]
    have b0 : (c == 200) = false := beq_eq_false_iff_ne.2 n0
    have b1 : (c == 404) = false := beq_eq_false_iff_ne.2 n1
    clear n0 n1
    go_enter Tryd.func25, Tryd.ntmps25
    go_wp2_with fail
    refine hRA.mono ?_
    rintro e w1 ⟨rfl, hb1⟩
    rw [← HW.out] at hb1
    clear q0 q1 q2 q3 q4 q5
    obtain ⟨HB, hq⟩ := HX.out _ hb1
    have HB := Lib.hid HB
    obtain ⟨q0, q1, q2, q3, q4, q5⟩ := six_facts hq
    clear hb0 hb1 hq hRA
    go_wp2
    go_ret
    exact ⟨rfl, HB.out⟩
end Go.Proofs.YtjhgibmeokghmaaDoor
