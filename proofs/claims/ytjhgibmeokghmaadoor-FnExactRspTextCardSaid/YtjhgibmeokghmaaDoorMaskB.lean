/- Walks: what is in a set of codings. -/
import Derived.Test.YtjhgibmeokghmaaDoorMaskP
import Derived.Test.YtjhgibmeokghmaaDoorOwn
import Derived.Test.YtjhgibmeokghmaaDoorRows
import Derived.WalkKit
import Derived.WalkSpells
import Derived.WalkLawsBesides
import Derived.BigQuiet
import Derived.Lib.Hide
namespace Go.Proofs.YtjhgibmeokghmaaDoor
open Go.RowKit

theorem inB_ok {m c : Int} (hm : 0 ≤ m ∧ m < 8) : inB m c = ((decide (c = 0) && decide (m % 2 = 1)) || (decide (c = 1) && decide (m / 2 % 2 = 1)) || (decide (c = 2) && decide (m / 4 % 2 = 1))) := by
  unfold inB; rw [decide_eq_true hm, Bool.true_and]
theorem inB_out {m c : Int} (hm : ¬ (0 ≤ m ∧ m < 8)) : inB m c = false := by unfold inB; rw [decide_eq_false hm, Bool.false_and]
theorem inB_no {m c : Int} (hc : c < 0 ∨ 2 < c) : inB m c = false := by
  unfold inB
  rw [decide_eq_false (show ¬ c = 0 from by omega), decide_eq_false (show ¬ c = 1 from by omega), decide_eq_false (show ¬ c = 2 from by omega)]
  simp

theorem and_bits : ∀ m : Fin 8, bits .and .i64 (m.val : Int) 1 = (m.val : Int) % 2 ∧ bits .and .i64 (m.val : Int) 2 = (m.val : Int) / 2 % 2 * 2 ∧ bits .and .i64 (m.val : Int) 4 = (m.val : Int) / 4 % 2 * 4 := by decide
theorem and_int {m : Int} (h : 0 ≤ m ∧ m < 8) : bits .and .i64 m 1 = m % 2 ∧ bits .and .i64 m 2 = m / 2 % 2 * 2 ∧ bits .and .i64 m 4 = m / 4 % 2 * 4 := by
  obtain ⟨n, rfl⟩ := Int.eq_ofNat_of_zero_le h.1
  exact and_bits ⟨n, by omega⟩

set_option maxHeartbeats 800000 in
theorem set_ok (m : Int) (w : World) :
    Calls Tryd.prog 56 #[.int .i64 m] w fun e w' => e = .returned (.bool (decide (0 ≤ m ∧ m < 8))) ∧ w = w' := by
  by_cases h0 : 0 ≤ m
  · by_cases h1 : m < 8
    · rw [decide_eq_true ⟨h0, h1⟩]
      go_enter Tryd.func56, Tryd.ntmps56
      go_wp2
      go_ret
      exact ⟨rfl, rfl⟩
    · rw [decide_eq_false (fun h => h1 h.2)]
      go_enter Tryd.func56, Tryd.ntmps56
      go_wp2
      go_ret
      exact ⟨rfl, rfl⟩
  · rw [decide_eq_false (fun h => h0 h.1)]
    go_enter Tryd.func56, Tryd.ntmps56
    go_wp2
    go_ret
    exact ⟨rfl, rfl⟩

set_option maxHeartbeats 800000 in
theorem coding_ok (c : Int) (w : World) :
    Calls Tryd.prog 49 #[.int .i64 c] w fun e w' => e = .returned (.bool (decide (0 ≤ c ∧ c ≤ 2))) ∧ w = w' := by
  by_cases h0 : 0 ≤ c
  · by_cases h1 : c ≤ 2
    · rw [decide_eq_true ⟨h0, h1⟩]
      go_enter Tryd.func49, Tryd.ntmps49
      go_wp2
      go_ret
      exact ⟨rfl, rfl⟩
    · rw [decide_eq_false (fun h => h1 h.2)]
      go_enter Tryd.func49, Tryd.ntmps49
      go_wp2
      go_ret
      exact ⟨rfl, rfl⟩
  · rw [decide_eq_false (fun h => h0 h.1)]
    go_enter Tryd.func49, Tryd.ntmps49
    go_wp2
    go_ret
    exact ⟨rfl, rfl⟩

set_option maxHeartbeats 1600000 in
theorem impl_has (m c : Int) (w : World) (hm : 0 ≤ m ∧ m < 8) :
    Calls Tryd.prog 57 #[.int .i64 m, .int .i64 c] w fun e w' => e = .returned (.bool (inB m c)) ∧ w = w' := by
  obtain ⟨a0, a1, a2⟩ := and_int hm
  have hI := inB_ok (c := c) hm
  by_cases h0 : 0 ≤ c
  · by_cases h2 : c ≤ 2
    · have hC := fun W => coding_ok c W
      rw [decide_eq_true ⟨h0, h2⟩] at hC
      have HC := Lib.hid hC
      clear hC
      have h3 : c = 0 ∨ c = 1 ∨ c = 2 := by omega
      have h01 : m % 2 = 0 ∨ m % 2 = 1 := by omega
      have h02 : m / 2 % 2 = 0 ∨ m / 2 % 2 = 1 := by omega
      have h04 : m / 4 % 2 = 0 ∨ m / 4 % 2 = 1 := by omega
      have HI := Lib.hid hI
      clear hI
      rcases h3 with rfl | rfl | rfl
      · rcases h01 with h | h
        all_goals
          rw [h] at a0
          have HH := Lib.hid h
          clear h h02 h04 a1 a2
          go_enter Tryd.func57, Tryd.ntmps57
          go_wp2_with fail
          refine (HC.out _).mono ?_
          rintro e w1 ⟨rfl, rfl⟩
          go_wp2
          go_ret
          refine ⟨?_, rfl⟩
          rw [HI.out, HH.out]
          simp
      · rcases h02 with h | h
        all_goals
          rw [h] at a1
          have HH := Lib.hid h
          clear h h01 h04 a0 a2
          go_enter Tryd.func57, Tryd.ntmps57
          go_wp2_with fail
          refine (HC.out _).mono ?_
          rintro e w1 ⟨rfl, rfl⟩
          go_wp2
          go_ret
          refine ⟨?_, rfl⟩
          rw [HI.out, HH.out]
          simp
      · rcases h04 with h | h
        all_goals
          rw [h] at a2
          have HH := Lib.hid h
          clear h h01 h02 a0 a1
          go_enter Tryd.func57, Tryd.ntmps57
          go_wp2_with fail
          refine (HC.out _).mono ?_
          rintro e w1 ⟨rfl, rfl⟩
          go_wp2
          go_ret
          refine ⟨?_, rfl⟩
          rw [HI.out, HH.out]
          simp
    · have hC := fun W => coding_ok c W
      rw [decide_eq_false (fun h => h2 h.2)] at hC
      have HC := Lib.hid hC
      clear hC
      rw [inB_no (.inr (by omega))]
      clear a0 a1 a2 hI
      go_enter Tryd.func57, Tryd.ntmps57
      go_wp2_with fail
      refine (HC.out _).mono ?_
      rintro e w1 ⟨rfl, rfl⟩
      go_wp2
      go_ret
      exact ⟨rfl, rfl⟩
  · have hC := fun W => coding_ok c W
    rw [decide_eq_false (fun h => h0 h.1)] at hC
    have HC := Lib.hid hC
    clear hC
    rw [inB_no (.inl (by omega))]
    clear a0 a1 a2 hI
    go_enter Tryd.func57, Tryd.ntmps57
    go_wp2_with fail
    refine (HC.out _).mono ?_
    rintro e w1 ⟨rfl, rfl⟩
    go_wp2
    go_ret
    exact ⟨rfl, rfl⟩

set_option maxHeartbeats 800000 in
theorem impl_codin (m c : Int) (w : World) :
    Calls Tryd.prog 26 #[.int .i64 m, .int .i64 c] w fun e w' => e = .returned (.bool (inB m c)) ∧ w = w' := by
  have hO := fun W => set_ok m W
  by_cases hm : 0 ≤ m ∧ m < 8
  · have hH := fun W => impl_has m c W hm
    rw [decide_eq_true hm] at hO
    have HO := Lib.hid hO; have HH := Lib.hid hH
    clear hO hH hm
    generalize inB m c = b at *
    go_enter Tryd.func26, Tryd.ntmps26
    go_wp2_with fail
    refine (HO.out _).mono ?_
    rintro e w1 ⟨rfl, rfl⟩
    go_wp2_with fail
    refine (HH.out _).mono ?_
    rintro e w1 ⟨rfl, rfl⟩
    go_wp2
    go_ret
    exact ⟨rfl, rfl⟩
  · rw [decide_eq_false hm] at hO
    rw [inB_out hm]
    have HO := Lib.hid hO
    clear hO hm
    go_enter Tryd.func26, Tryd.ntmps26
    go_wp2_with fail
    refine (HO.out _).mono ?_
    rintro e w1 ⟨rfl, rfl⟩
    go_wp2
    go_ret
    exact ⟨rfl, rfl⟩

set_option maxHeartbeats 800000 in
theorem cod_in1 (n a b : Int) (w : World) :
    Calls Tryd.prog 44 #[.int .i64 n, .int .i64 a, .int .i64 b] w fun e w' => e = .returned (.bool (decide (a ≤ n ∧ n ≤ b))) ∧ w = w' := by
  by_cases h0 : a ≤ n
  · by_cases h1 : n ≤ b
    · rw [decide_eq_true ⟨h0, h1⟩]
      go_enter Tryd.func44, Tryd.ntmps44
      go_wp2
      go_ret
      exact ⟨rfl, rfl⟩
    · rw [decide_eq_false (fun h => h1 h.2)]
      go_enter Tryd.func44, Tryd.ntmps44
      go_wp2
      go_ret
      exact ⟨rfl, rfl⟩
  · rw [decide_eq_false (fun h => h0 h.1)]
    go_enter Tryd.func44, Tryd.ntmps44
    go_wp2
    go_ret
    exact ⟨rfl, rfl⟩

set_option maxHeartbeats 1600000 in
theorem spec_codin (m c : Int) (w : World) :
    Calls Tryd.prog 55 #[.int .i64 m, .int .i64 c] w fun e w' => e = .returned (.bool (inB m c)) ∧ Below w.heap.size w w' := by
  have hO := fun W => cod_in1 m 0 7 W
  have hC := fun W => cod_in1 c 0 2 W
  by_cases hm : 0 ≤ m ∧ m < 8
  · rw [decide_eq_true (show 0 ≤ m ∧ m ≤ 7 from by omega)] at hO
    by_cases hc : 0 ≤ c ∧ c ≤ 2
    · rw [decide_eq_true hc] at hC
      have HO := Lib.hid hO; have HC := Lib.hid hC
      have HI := Lib.hid (inB_ok (c := c) hm)
      have h3 : c = 0 ∨ c = 1 ∨ c = 2 := by omega
      have t1 : m.tmod 2 = m % 2 := Int.tmod_eq_emod_of_nonneg (by omega)
      have t2 : m.tdiv 2 = m / 2 := Int.tdiv_eq_ediv_of_nonneg (by omega)
      have t3 : (m / 2).tmod 2 = m / 2 % 2 := Int.tmod_eq_emod_of_nonneg (by omega)
      have t4 : m.tdiv 4 = m / 4 := Int.tdiv_eq_ediv_of_nonneg (by omega)
      have h4 : m / 4 % 2 = m / 4 := by omega
      have HB := Lib.hid (fun cs => (Below.refl w.heap.size w).alloc (Nat.le_refl _) (.cells cs 3))
      obtain ⟨m0, m1⟩ := hm
      clear hO hC hc
      rcases h3 with rfl | rfl | rfl
      all_goals
        go_enter Tryd.func55, Tryd.ntmps55
        go_wp2_with fail
        refine (HO.out _).mono ?_
        rintro e w1 ⟨rfl, rfl⟩
        go_wp2_with fail
        refine (HC.out _).mono ?_
        rintro e w1 ⟨rfl, rfl⟩
        go_wp2
        go_ret
        refine ⟨?_, HB.out _⟩
        rw [HI.out]
        first
          | (simp; rfl)
          | (simp [h4]; rfl)
    · rw [decide_eq_false hc] at hC
      rw [inB_no (by omega)]
      have HO := Lib.hid hO; have HC := Lib.hid hC
      clear hO hC hc hm
      go_enter Tryd.func55, Tryd.ntmps55
      go_wp2_with fail
      refine (HO.out _).mono ?_
      rintro e w1 ⟨rfl, rfl⟩
      go_wp2_with fail
      refine (HC.out _).mono ?_
      rintro e w1 ⟨rfl, rfl⟩
      go_wp2
      go_ret
      exact ⟨rfl, Below.refl _ _⟩
  · rw [decide_eq_false (show ¬ (0 ≤ m ∧ m ≤ 7) from by omega)] at hO
    rw [inB_out hm]
    have HO := Lib.hid hO
    clear hO hC hm
    go_enter Tryd.func55, Tryd.ntmps55
    go_wp2_with fail
    refine (HO.out _).mono ?_
    rintro e w1 ⟨rfl, rfl⟩
    go_wp2
    go_ret
    exact ⟨rfl, Below.refl _ _⟩
end Go.Proofs.YtjhgibmeokghmaaDoor
