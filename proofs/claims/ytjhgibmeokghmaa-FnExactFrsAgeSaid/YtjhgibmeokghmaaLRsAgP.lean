/- The law on how old an answer is, exact; with all that it rests on. -/
import Derived.Test.YtjhgibmeokghmaaRows
import Derived.Test.YtjhgibmeokghmaaPure
import Derived.WalkKit
import Derived.WalkSpells
import Derived.WalkLawsBesides
import Derived.BigQuiet
import Derived.Lib.Hide
namespace Go.Proofs.Ytjhgibmeokghmaa
open Go.RowKit

def timesB (a n : Int) : Bool := decide (0 ≤ a ∧ a ≤ n ∧ n ≤ 999999)

def ageN (a n : Int) : Int := if 0 ≤ a ∧ a ≤ n ∧ n ≤ 999999 then n - a else 0

set_option maxHeartbeats 400000 in
theorem num_ok (n : Int) (w : World) :
    Calls Try.prog 8 #[.int .i64 n] w fun e w' => e = .returned (.bool (decide (0 ≤ n ∧ n ≤ 999999))) ∧ w = w' := by
  by_cases h0 : 0 ≤ n
  · by_cases h1 : n ≤ 999999
    · rw [decide_eq_true ⟨h0, h1⟩]
      go_enter Try.func8, Try.ntmps8
      go_wp2
      go_ret
      exact ⟨rfl, rfl⟩
    · rw [decide_eq_false (fun h => h1 h.2)]
      go_enter Try.func8, Try.ntmps8
      go_wp2
      go_ret
      exact ⟨rfl, rfl⟩
  · rw [decide_eq_false (fun h => h0 h.1)]
    go_enter Try.func8, Try.ntmps8
    go_wp2
    go_ret
    exact ⟨rfl, rfl⟩

set_option maxHeartbeats 800000 in
theorem cod_in1 (n a b : Int) (w : World) :
    Calls Try.prog 6 #[.int .i64 n, .int .i64 a, .int .i64 b] w fun e w' => e = .returned (.bool (decide (a ≤ n ∧ n ≤ b))) ∧ w = w' := by
  by_cases h0 : a ≤ n
  · by_cases h1 : n ≤ b
    · rw [decide_eq_true ⟨h0, h1⟩]
      go_enter Try.func6, Try.ntmps6
      go_wp2
      go_ret
      exact ⟨rfl, rfl⟩
    · rw [decide_eq_false (fun h => h1 h.2)]
      go_enter Try.func6, Try.ntmps6
      go_wp2
      go_ret
      exact ⟨rfl, rfl⟩
  · rw [decide_eq_false (fun h => h0 h.1)]
    go_enter Try.func6, Try.ntmps6
    go_wp2
    go_ret
    exact ⟨rfl, rfl⟩

set_option maxRecDepth 100000 in
set_option maxHeartbeats 800000 in
theorem times_ok (a n : Int) (w : World) :
    Calls Try.prog 7 #[.int .i64 a, .int .i64 n] w fun e w' => e = .returned (.bool (timesB a n)) ∧ w = w' := by
  have hA := fun W => num_ok a W
  have hN := fun W => num_ok n W
  unfold timesB
  by_cases c1 : 0 ≤ a ∧ a ≤ 999999
  · rw [decide_eq_true c1] at hA
    by_cases c2 : 0 ≤ n ∧ n ≤ 999999
    · rw [decide_eq_true c2] at hN
      by_cases c3 : a ≤ n
      · rw [decide_eq_true (show 0 ≤ a ∧ a ≤ n ∧ n ≤ 999999 from ⟨c1.1, c3, c2.2⟩)]
        clear c1 c2
        go_enter Try.func7, Try.ntmps7
        go_wp2_with fail
        refine (hA _).mono ?_
        rintro e w1 ⟨rfl, rfl⟩
        go_wp2_with fail
        refine (hN _).mono ?_
        rintro e w1 ⟨rfl, rfl⟩
        go_wp2
        go_ret
        exact ⟨by first | rfl | simp [c3], rfl⟩
      · rw [decide_eq_false (fun h => c3 h.2.1)]
        clear c1 c2
        go_enter Try.func7, Try.ntmps7
        go_wp2_with fail
        refine (hA _).mono ?_
        rintro e w1 ⟨rfl, rfl⟩
        go_wp2_with fail
        refine (hN _).mono ?_
        rintro e w1 ⟨rfl, rfl⟩
        go_wp2
        go_ret
        exact ⟨by first | rfl | simp [c3], rfl⟩
    · rw [decide_eq_false c2] at hN
      rw [decide_eq_false (show ¬ (0 ≤ a ∧ a ≤ n ∧ n ≤ 999999) from by omega)]
      clear c1 c2
      go_enter Try.func7, Try.ntmps7
      go_wp2_with fail
      refine (hA _).mono ?_
      rintro e w1 ⟨rfl, rfl⟩
      go_wp2_with fail
      refine (hN _).mono ?_
      rintro e w1 ⟨rfl, rfl⟩
      go_wp2
      go_ret
      exact ⟨rfl, rfl⟩
  · rw [decide_eq_false c1] at hA
    rw [decide_eq_false (show ¬ (0 ≤ a ∧ a ≤ n ∧ n ≤ 999999) from by omega)]
    clear c1
    go_enter Try.func7, Try.ntmps7
    go_wp2_with fail
    refine (hA _).mono ?_
    rintro e w1 ⟨rfl, rfl⟩
    go_wp2
    go_ret
    exact ⟨rfl, rfl⟩

theorem age_yes {a n : Int} (h : timesB a n = true) : ageN a n = n - a := by
  unfold timesB at h
  rw [decide_eq_true_eq] at h
  unfold ageN; rw [if_pos h]

theorem age_no {a n : Int} (h : timesB a n = false) : ageN a n = 0 := by
  unfold timesB at h
  rw [decide_eq_false_iff_not] at h
  unfold ageN; rw [if_neg h]

theorem times_iff {a n : Int} : timesB a n = true ↔ 0 ≤ a ∧ a ≤ n ∧ n ≤ 999999 := by unfold timesB; rw [decide_eq_true_eq]

set_option maxRecDepth 100000 in
set_option maxHeartbeats 800000 in
theorem impl_age (a n : Int) (w : World) :
    Calls Try.prog 5 #[.int .i64 a, .int .i64 n] w fun e w' => e = .returned (.int .i64 (ageN a n)) ∧ w = w' := by
  have hT := fun W => times_ok a n W
  by_cases h : timesB a n = true
  · rw [age_yes h]
    rw [h] at hT
    obtain ⟨i0, i1, i2⟩ := times_iff.1 h
    clear h
    go_enter Try.func5, Try.ntmps5
    go_wp2_with fail
    refine (hT _).mono ?_
    rintro e w1 ⟨rfl, rfl⟩
    go_wp2
    go_ret
    exact ⟨rfl, rfl⟩
  · rw [Bool.not_eq_true] at h
    rw [age_no h]
    rw [h] at hT
    clear h
    go_enter Try.func5, Try.ntmps5
    go_wp2_with fail
    refine (hT _).mono ?_
    rintro e w1 ⟨rfl, rfl⟩
    go_wp2
    go_ret
    exact ⟨rfl, rfl⟩

set_option maxRecDepth 100000 in
set_option maxHeartbeats 1600000 in
theorem spec_age (a n : Int) (w : World) :
    Calls Try.prog 4 #[.int .i64 a, .int .i64 n] w fun e w' => e = .returned (.int .i64 (ageN a n)) ∧ w = w' := by
  have hA := fun W => cod_in1 a 0 999999 W
  have hN := fun W => cod_in1 n 0 999999 W
  unfold ageN
  by_cases c1 : 0 ≤ a ∧ a ≤ 999999
  · rw [decide_eq_true c1] at hA
    by_cases c2 : 0 ≤ n ∧ n ≤ 999999
    · rw [decide_eq_true c2] at hN
      by_cases c3 : a ≤ n
      · rw [if_pos (show 0 ≤ a ∧ a ≤ n ∧ n ≤ 999999 from ⟨c1.1, c3, c2.2⟩)]
        obtain ⟨i1, i2⟩ := c1
        obtain ⟨i3, i4⟩ := c2
        have i5 : ¬ n < a := by omega
        go_enter Try.func4, Try.ntmps4
        go_wp2_with fail
        refine (hA _).mono ?_
        rintro e w1 ⟨rfl, rfl⟩
        go_wp2_with fail
        refine (hN _).mono ?_
        rintro e w1 ⟨rfl, rfl⟩
        go_wp2
        go_ret
        exact ⟨rfl, rfl⟩
      · rw [if_neg (fun h => c3 h.2.1)]
        have i5 : n < a := by omega
        clear c1 c2 c3
        go_enter Try.func4, Try.ntmps4
        go_wp2_with fail
        refine (hA _).mono ?_
        rintro e w1 ⟨rfl, rfl⟩
        go_wp2_with fail
        refine (hN _).mono ?_
        rintro e w1 ⟨rfl, rfl⟩
        go_wp2
        go_ret
        exact ⟨rfl, rfl⟩
    · rw [decide_eq_false c2] at hN
      rw [if_neg (show ¬ (0 ≤ a ∧ a ≤ n ∧ n ≤ 999999) from by omega)]
      clear c1 c2
      go_enter Try.func4, Try.ntmps4
      go_wp2_with fail
      refine (hA _).mono ?_
      rintro e w1 ⟨rfl, rfl⟩
      go_wp2_with fail
      refine (hN _).mono ?_
      rintro e w1 ⟨rfl, rfl⟩
      go_wp2
      go_ret
      exact ⟨rfl, rfl⟩
  · rw [decide_eq_false c1] at hA
    rw [if_neg (show ¬ (0 ≤ a ∧ a ≤ n ∧ n ≤ 999999) from by omega)]
    clear c1
    go_enter Try.func4, Try.ntmps4
    go_wp2_with fail
    refine (hA _).mono ?_
    rintro e w1 ⟨rfl, rfl⟩
    go_wp2
    go_ret
    exact ⟨rfl, rfl⟩

set_option maxRecDepth 100000 in
set_option maxHeartbeats 800000 in
theorem law_frsage (a n : Int) (w : World) :
    Calls Try.prog 3 #[.int .i64 a, .int .i64 n] w fun e w' => e = .returned (.bool true) ∧ Below w.heap.size w w' := by
  have HS := Lib.hid fun W => spec_age a n W
  have HI := Lib.hid fun W => impl_age a n W
  generalize ageN a n = x at *
  go_enter Try.func3, Try.ntmps3
  go_wp2_with fail
  refine (HS.out _).mono ?_
  rintro e w1 ⟨rfl, rfl⟩
  go_wp2_with fail
  refine (HI.out _).mono ?_
  rintro e w1 ⟨rfl, rfl⟩
  have e : (x != x) = false := by simp
  go_wp2
  go_ret
  exact ⟨rfl, Below.refl _ _⟩
namespace Lw
theorem fnExactFrsAge (w : World) (a : Int) (_ha : (Lit.int .i64 a).wf = true) (n : Int) (_hn : (Lit.int .i64 n).wf = true) :
    Calls Try.prog 3 #[.int .i64 a, .int .i64 n] w fun e w' => e = .returned (.bool true) ∧ Below w.heap.size w w' :=
  law_frsage a n w
end Lw
end Go.Proofs.Ytjhgibmeokghmaa
