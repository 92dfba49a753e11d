/- Walks: answers, by the program: what their numbers say, and which are valid. -/
import Derived.Test.YtjhgibmeokghmaaDoorRsP
import Derived.Test.YtjhgibmeokghmaaDoorMaskB
namespace Go.Proofs.YtjhgibmeokghmaaDoor
open Go.RowKit

/-- What a number says, as a value behind an interface. -/
def stV (c : Int) : Value :=
  if c = 200 then .iface 80 (.agg #[]) else if c = 304 then .iface 81 (.agg #[]) else if c = 404 then .iface 82 (.agg #[]) else .iface 83 (.int .i64 c)
def useN (c : Int) : Int := if c = 200 ∨ c = 404 then 1 else if c = 304 then 2 else 0

set_option maxRecDepth 100000 in
set_option maxHeartbeats 800000 in
theorem status_of (c : Int) (w : World) :
    Calls Tryd.prog 46 #[.int .i64 c] w fun e w' => e = .returned (stV c) ∧ w = w' := by
  by_cases h0 : c = 200
  · subst h0
    go_enter Tryd.func46, Tryd.ntmps46
    go_wp2
    go_ret
    exact ⟨rfl, rfl⟩
  · by_cases h1 : c = 304
    · subst h1
      clear h0
      go_enter Tryd.func46, Tryd.ntmps46
      go_wp2
      go_ret
      exact ⟨rfl, rfl⟩
    · by_cases h2 : c = 404
      · subst h2
        clear h0 h1
        go_enter Tryd.func46, Tryd.ntmps46
        go_wp2
        go_ret
        exact ⟨rfl, rfl⟩
      · have e : stV c = .iface 83 (.int .i64 c) := by unfold stV; rw [if_neg h0, if_neg h1, if_neg h2]
        rw [e]
        clear e
        have b0 : (c == 200) = false := beq_eq_false_iff_ne.2 h0
        have b1 : (c == 304) = false := beq_eq_false_iff_ne.2 h1
        have b2 : (c == 404) = false := beq_eq_false_iff_ne.2 h2
        clear h0 h1 h2
        go_enter Tryd.func46, Tryd.ntmps46
        go_wp2
        go_ret
        exact ⟨rfl, rfl⟩

theorem ta_Done_Done (W : World) : (Instr.typeAssert (.iface 80 (.agg #[])) 61 80 true).run Tryd.prog W = .ok (.tuple #[.agg #[], .bool true]) W := by kernel_rfl
theorem ta_Done_Same (W : World) : (Instr.typeAssert (.iface 80 (.agg #[])) 61 81 true).run Tryd.prog W = .ok (.tuple #[.agg #[], .bool false]) W := by kernel_rfl
theorem ta_Done_Absent (W : World) : (Instr.typeAssert (.iface 80 (.agg #[])) 61 82 true).run Tryd.prog W = .ok (.tuple #[.agg #[], .bool false]) W := by kernel_rfl
theorem ta_Same_Done (W : World) : (Instr.typeAssert (.iface 81 (.agg #[])) 61 80 true).run Tryd.prog W = .ok (.tuple #[.agg #[], .bool false]) W := by kernel_rfl
theorem ta_Same_Same (W : World) : (Instr.typeAssert (.iface 81 (.agg #[])) 61 81 true).run Tryd.prog W = .ok (.tuple #[.agg #[], .bool true]) W := by kernel_rfl
theorem ta_Same_Absent (W : World) : (Instr.typeAssert (.iface 81 (.agg #[])) 61 82 true).run Tryd.prog W = .ok (.tuple #[.agg #[], .bool false]) W := by kernel_rfl
theorem ta_Absent_Done (W : World) : (Instr.typeAssert (.iface 82 (.agg #[])) 61 80 true).run Tryd.prog W = .ok (.tuple #[.agg #[], .bool false]) W := by kernel_rfl
theorem ta_Absent_Same (W : World) : (Instr.typeAssert (.iface 82 (.agg #[])) 61 81 true).run Tryd.prog W = .ok (.tuple #[.agg #[], .bool false]) W := by kernel_rfl
theorem ta_Absent_Absent (W : World) : (Instr.typeAssert (.iface 82 (.agg #[])) 61 82 true).run Tryd.prog W = .ok (.tuple #[.agg #[], .bool true]) W := by kernel_rfl
theorem ta_Other_Done (c : Int) (W : World) : (Instr.typeAssert (.iface 83 (.int .i64 c)) 61 80 true).run Tryd.prog W = .ok (.tuple #[.agg #[], .bool false]) W := by kernel_rfl
theorem ta_Other_Same (c : Int) (W : World) : (Instr.typeAssert (.iface 83 (.int .i64 c)) 61 81 true).run Tryd.prog W = .ok (.tuple #[.agg #[], .bool false]) W := by kernel_rfl
theorem ta_Other_Absent (c : Int) (W : World) : (Instr.typeAssert (.iface 83 (.int .i64 c)) 61 82 true).run Tryd.prog W = .ok (.tuple #[.agg #[], .bool false]) W := by kernel_rfl

set_option maxRecDepth 100000 in
set_option maxHeartbeats 800000 in
theorem use_of (c : Int) (w : World) :
    Calls Tryd.prog 54 #[stV c] w fun e w' => e = .returned (.int .i64 (useN c)) ∧ w = w' := by
  unfold stV useN
  by_cases h0 : c = 200
  · subst h0
    have e : (if (200 : Int) = 200 then Value.iface 80 (.agg #[]) else if (200 : Int) = 304 then .iface 81 (.agg #[]) else if (200 : Int) = 404 then .iface 82 (.agg #[]) else .iface 83 (.int .i64 200)) = .iface 80 (.agg #[]) := rfl
    rw [e]
    clear e
    have q0 := ta_Done_Done
    have q1 := ta_Done_Absent
    go_enter Tryd.func54, Tryd.ntmps54
    go_wp2
    go_ret
    exact ⟨rfl, rfl⟩
  · by_cases h1 : c = 304
    · subst h1
      clear h0
      have e : (if (304 : Int) = 200 then Value.iface 80 (.agg #[]) else if (304 : Int) = 304 then .iface 81 (.agg #[]) else if (304 : Int) = 404 then .iface 82 (.agg #[]) else .iface 83 (.int .i64 304)) = .iface 81 (.agg #[]) := rfl
      rw [e]
      clear e
      have q0 := ta_Same_Done
      have q1 := ta_Same_Absent
      have q2 := ta_Same_Same
      go_enter Tryd.func54, Tryd.ntmps54
      go_wp2
      go_ret
      exact ⟨rfl, rfl⟩
    · by_cases h2 : c = 404
      · subst h2
        clear h0 h1
        have e : (if (404 : Int) = 200 then Value.iface 80 (.agg #[]) else if (404 : Int) = 304 then .iface 81 (.agg #[]) else if (404 : Int) = 404 then .iface 82 (.agg #[]) else .iface 83 (.int .i64 404)) = .iface 82 (.agg #[]) := rfl
        rw [e]
        clear e
        have q0 := ta_Absent_Done
        have q1 := ta_Absent_Absent
        go_enter Tryd.func54, Tryd.ntmps54
        go_wp2
        go_ret
        exact ⟨rfl, rfl⟩
      · rw [if_neg h0, if_neg h1, if_neg h2, if_neg (fun h => h.elim h0 h2), if_neg h1]
        clear h0 h1 h2
        have q0 := ta_Other_Done c
        have q1 := ta_Other_Absent c
        have q2 := ta_Other_Same c
        go_enter Tryd.func54, Tryd.ntmps54
        go_wp2
        go_ret
        exact ⟨rfl, rfl⟩

set_option maxRecDepth 100000 in
set_option maxHeartbeats 800000 in
theorem lifetime_ok (n : Int) (w : World) :
    Calls Tryd.prog 47 #[.int .i64 n] w fun e w' => e = .returned (.bool (decide (-1 ≤ n ∧ n ≤ 999999))) ∧ w = w' := by
  have hN := fun W => num_ok n W
  by_cases h : n = -1
  · subst h
    clear hN
    go_enter Tryd.func47, Tryd.ntmps47
    go_wp2_with fail
    go_ret
    exact ⟨rfl, rfl⟩
  · have e : decide (-1 ≤ n ∧ n ≤ 999999) = decide (0 ≤ n ∧ n ≤ 999999) := by rw [Bool.eq_iff_iff]; simp only [decide_eq_true_eq]; omega
    rw [e]
    have b : (n == -1) = false := beq_eq_false_iff_ne.2 h
    clear e h
    generalize decide (0 ≤ n ∧ n ≤ 999999) = R at *
    go_enter Tryd.func47, Tryd.ntmps47
    go_wp2_with fail
    refine (hN _).mono ?_
    rintro e w1 ⟨rfl, rfl⟩
    go_wp2
    go_ret
    exact ⟨rfl, rfl⟩

set_option maxRecDepth 100000 in
set_option maxHeartbeats 800000 in
theorem times_ok (a n : Int) (w : World) :
    Calls Tryd.prog 45 #[.int .i64 a, .int .i64 n] w fun e w' => e = .returned (.bool (timesB a n)) ∧ w = w' := by
  have hA := fun W => num_ok a W
  have hN := fun W => num_ok n W
  unfold timesB
  by_cases c1 : 0 ≤ a ∧ a ≤ 999999
  · rw [decide_eq_true c1] at hA
    by_cases c2 : 0 ≤ n ∧ n ≤ 999999
    · rw [decide_eq_true c2] at hN
      by_cases c3 : a ≤ n
      · rw [decide_eq_true (show 0 ≤ a ∧ a ≤ n ∧ n ≤ 999999 from ⟨c1.1, c3, c2.2⟩)]
        clear c1 c2
        go_enter Tryd.func45, Tryd.ntmps45
        go_wp2_with fail
        refine (hA _).mono ?_
        rintro e w1 ⟨rfl, rfl⟩
        go_wp2_with fail
        refine (hN _).mono ?_
        rintro e w1 ⟨rfl, rfl⟩
        go_wp2
        go_ret
        exact ⟨by first | rfl | simp [c3], rfl⟩
      · rw [decide_eq_false (fun h => c3 h.2.1)]
        clear c1 c2
        go_enter Tryd.func45, Tryd.ntmps45
        go_wp2_with fail
        refine (hA _).mono ?_
        rintro e w1 ⟨rfl, rfl⟩
        go_wp2_with fail
        refine (hN _).mono ?_
        rintro e w1 ⟨rfl, rfl⟩
        go_wp2
        go_ret
        exact ⟨by first | rfl | simp [c3], rfl⟩
    · rw [decide_eq_false c2] at hN
      rw [decide_eq_false (show ¬ (0 ≤ a ∧ a ≤ n ∧ n ≤ 999999) from by omega)]
      clear c1 c2
      go_enter Tryd.func45, Tryd.ntmps45
      go_wp2_with fail
      refine (hA _).mono ?_
      rintro e w1 ⟨rfl, rfl⟩
      go_wp2_with fail
      refine (hN _).mono ?_
      rintro e w1 ⟨rfl, rfl⟩
      go_wp2
      go_ret
      exact ⟨rfl, rfl⟩
  · rw [decide_eq_false c1] at hA
    rw [decide_eq_false (show ¬ (0 ≤ a ∧ a ≤ n ∧ n ≤ 999999) from by omega)]
    clear c1
    go_enter Tryd.func45, Tryd.ntmps45
    go_wp2_with fail
    refine (hA _).mono ?_
    rintro e w1 ⟨rfl, rfl⟩
    go_wp2
    go_ret
    exact ⟨rfl, rfl⟩

set_option maxRecDepth 100000 in
set_option maxHeartbeats 800000 in
theorem known_ok (w : World) :
    Calls Tryd.prog 102 #[.agg #[]] w fun e w' => e = .returned (.bool true) ∧ Below w.heap.size w w' := by
  go_enter Tryd.func102, Tryd.ntmps102
  go_wp2
  go_ret
  exact ⟨rfl, (Below.refl _ _).alloc (Nat.le_refl _) _⟩
set_option maxRecDepth 100000 in
set_option maxHeartbeats 800000 in
theorem other_ok (c : Int) (w : World) :
    Calls Tryd.prog 103 #[.int .i64 c] w fun e w' => e = .returned (.bool (decide (100 ≤ c ∧ c ≤ 599))) ∧ w = w' := by
  by_cases h0 : 100 ≤ c
  · by_cases h1 : c ≤ 599
    · rw [decide_eq_true ⟨h0, h1⟩]
      go_enter Tryd.func103, Tryd.ntmps103
      go_wp2
      go_ret
      exact ⟨rfl, rfl⟩
    · rw [decide_eq_false (fun h => h1 h.2)]
      go_enter Tryd.func103, Tryd.ntmps103
      go_wp2
      go_ret
      exact ⟨rfl, rfl⟩
  · rw [decide_eq_false (fun h => h0 h.1)]
    go_enter Tryd.func103, Tryd.ntmps103
    go_wp2
    go_ret
    exact ⟨rfl, rfl⟩
end Go.Proofs.YtjhgibmeokghmaaDoor
