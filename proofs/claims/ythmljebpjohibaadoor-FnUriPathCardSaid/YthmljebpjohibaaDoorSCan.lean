/- Places: walks of the helpers that write a place in its plainest form. -/
import Derived.Test.YthmljebpjohibaaDoorCanL
namespace Go.Proofs.YthmljebpjohibaaDoor
open Go.RowKit

theorem freeB_small {c : UInt8} (h : isSmall c = true) : freeB c = true := by unfold freeB; rw [h]; rfl
theorem freeB_great {c : UInt8} (h : isGreat c = true) : freeB c = true := by unfold freeB; rw [h]; simp
theorem freeB_no {c : UInt8} (h : isSmall c = false) (h2 : isGreat c = false) : freeB c = (decide (c.toNat = 95) || decide (c.toNat = 126) || decide (c.toNat = 46)) := by
  unfold freeB; rw [h, h2]
  have e (k : UInt8) : (c == k) = decide (c.toNat = k.toNat) := by
    rw [Bool.eq_iff_iff, beq_iff_eq, decide_eq_true_iff]
    exact ⟨fun h => by rw [h], fun h => UInt8.toNat_inj.mp h⟩
  rw [e 95, e 126, e 46]; rfl

set_option maxHeartbeats 800000 in
theorem l2_free (c : UInt8) (w : World) :
    Calls Tryd.prog 71 #[.int .u8 c.toNat] w fun e w' => e = .returned (.bool (freeB c)) ∧ w = w' := by
  have c1 := fun W => l1_small c W
  have hc := c.toNat_lt
  cases hs : isSmall c with
  | true =>
    rw [freeB_small hs]
    rw [hs] at c1
    clear hs
    go_enter Tryd.func71, Tryd.ntmps71
    go_wp2_with fail
    refine (c1 _).mono ?_
    rintro e w' ⟨rfl, rfl⟩
    go_wp2
    go_ret
    exact ⟨rfl, rfl⟩
  | false =>
    rw [hs] at c1
    cases hg : isGreat c with
    | true =>
      rw [freeB_great hg]
      unfold isGreat at hg
      have h1 : 65 ≤ c.toNat ∧ c.toNat ≤ 90 := by simpa using hg
      obtain ⟨h1, h2⟩ := h1
      clear hs hg
      generalize c.toNat = n at *
      go_enter Tryd.func71, Tryd.ntmps71
      go_wp2_with fail
      refine (c1 _).mono ?_
      rintro e w' ⟨rfl, rfl⟩
      go_wp2
      go_ret
      exact ⟨rfl, rfl⟩
    | false =>
      rw [freeB_no hs hg]
      unfold isGreat at hg
      have h1 : c.toNat < 65 ∨ 90 < c.toNat := by
        rcases Nat.lt_or_ge c.toNat 65 with h | h
        · exact .inl h
        · rcases Nat.lt_or_ge 90 c.toNat with h2 | h2
          · exact .inr h2
          · simp [h, h2] at hg
      clear hs hg
      generalize c.toNat = n at *
      have hr : n < 46 ∨ n = 46 ∨ (47 ≤ n ∧ n ≤ 64) ∨ (91 ≤ n ∧ n ≤ 94) ∨ n = 95 ∨ (96 ≤ n ∧ n ≤ 125) ∨ n = 126 ∨ 127 ≤ n := by omega
      clear h1
      rcases hr with hr | rfl | ⟨h1, h2⟩ | ⟨h1, h2⟩ | rfl | ⟨h1, h2⟩ | rfl | hr
      all_goals go_enter Tryd.func71, Tryd.ntmps71
      all_goals go_wp2_with fail
      all_goals refine (c1 _).mono ?_
      all_goals rintro e w' ⟨rfl, rfl⟩
      all_goals clear c1
      all_goals go_wp2
      all_goals go_ret
      all_goals (refine ⟨congrArg (fun b => Ending.returned (Value.bool b)) ?_, rfl⟩)
      all_goals (show (_ : Bool) = _)
      all_goals first | rfl | (rw [Bool.eq_iff_iff]; simp; done) | (rw [Bool.eq_iff_iff]; simp; omega)

set_option maxHeartbeats 800000 in
theorem impl_free (c : UInt8) (w : World) (h : Cls w) :
    Calls Tryd.prog 82 #[.int .u8 c.toNat] w fun e w' => e = .returned (.bool (freeB c)) ∧ w = w' := by
  have c1 := class_of c w h
  rw [clsOf_eq] at c1
  have hc := c.toNat_lt
  clear h
  cases hs : isSmall c with
  | true =>
    rw [freeB_small hs]
    rw [hs] at c1
    simp only [if_true] at c1
    clear hs
    go_enter Tryd.func82, Tryd.ntmps82
    go_wp2_with fail
    refine c1.mono ?_
    rintro e w' ⟨rfl, rfl⟩
    go_wp2
    go_ret
    exact ⟨rfl, rfl⟩
  | false =>
    rw [hs] at c1
    simp only [Bool.false_eq_true, if_false] at c1
    cases hg : isGreat c with
    | true =>
      rw [freeB_great hg]
      rw [hg] at c1
      simp only [if_true] at c1
      clear hs hg
      go_enter Tryd.func82, Tryd.ntmps82
      go_wp2_with fail
      refine c1.mono ?_
      rintro e w' ⟨rfl, rfl⟩
      go_wp2
      go_ret
      exact ⟨rfl, rfl⟩
    | false =>
      rw [freeB_no hs hg]
      rw [hg] at c1
      simp only [Bool.false_eq_true, if_false] at c1
      clear hs hg
      generalize c.toNat = n at *
      have hr : n < 46 ∨ n = 46 ∨ (47 ≤ n ∧ n ≤ 94) ∨ n = 95 ∨ (96 ≤ n ∧ n ≤ 125) ∨ n = 126 ∨ 127 ≤ n := by omega
      rcases hr with hr | rfl | ⟨h1, h2⟩ | rfl | ⟨h1, h2⟩ | rfl | hr
      all_goals go_enter Tryd.func82, Tryd.ntmps82
      all_goals go_wp2_with fail
      all_goals refine c1.mono ?_
      all_goals rintro e w' ⟨rfl, rfl⟩
      all_goals clear c1
      all_goals go_wp2
      all_goals go_ret
      all_goals (refine ⟨congrArg (fun b => Ending.returned (Value.bool b)) ?_, rfl⟩)
      all_goals (show (_ : Bool) = _)
      all_goals first | rfl | (rw [Bool.eq_iff_iff]; simp; done) | (rw [Bool.eq_iff_iff]; simp; omega)

theorem doubt_no {n : Nat} (h1 : n ≠ 46) (h2 : n ≠ 47) (h3 : n ≠ 63) (h4 : n ≠ 37) (h5 : n ≠ 38) (h6 : n ≠ 61) : doubtB n = false := by
  unfold doubtB; simp [h1, h2, h3, h4, h5, h6]

set_option maxHeartbeats 800000 in
theorem l2_doubt (n : Nat) (hn : n < 256) (w : World) :
    Calls Tryd.prog 70 #[.int .i64 n] w fun e w' => e = .returned (.bool (doubtB n)) ∧ w = w' := by
  by_cases h1 : n = 46
  · subst h1
    go_enter Tryd.func70, Tryd.ntmps70
    go_wp2
    go_ret
    exact ⟨rfl, rfl⟩
  · by_cases h2 : n = 47
    · subst h2
      go_enter Tryd.func70, Tryd.ntmps70
      go_wp2
      go_ret
      exact ⟨rfl, rfl⟩
    · by_cases h3 : n = 63
      · subst h3
        go_enter Tryd.func70, Tryd.ntmps70
        go_wp2
        go_ret
        exact ⟨rfl, rfl⟩
      · by_cases h4 : n = 37
        · subst h4
          go_enter Tryd.func70, Tryd.ntmps70
          go_wp2
          go_ret
          exact ⟨rfl, rfl⟩
        · by_cases h5 : n = 38
          · subst h5
            go_enter Tryd.func70, Tryd.ntmps70
            go_wp2
            go_ret
            exact ⟨rfl, rfl⟩
          · by_cases h6 : n = 61
            · subst h6
              go_enter Tryd.func70, Tryd.ntmps70
              go_wp2
              go_ret
              exact ⟨rfl, rfl⟩
            · rw [doubt_no h1 h2 h3 h4 h5 h6]
              have q (k : Nat) (h : n ≠ k) : ((n : Int) == (k : Int)) = false := beq_eq_false_iff_ne.2 (by omega)
              have q1 := q _ h1; have q2 := q _ h2; have q3 := q _ h3; have q4 := q _ h4; have q5 := q _ h5; have q6 := q _ h6
              simp only [Int.cast_ofNat_Int] at q1 q2 q3 q4 q5 q6
              clear q h1 h2 h3 h4 h5 h6
              go_enter Tryd.func70, Tryd.ntmps70
              go_wp2
              go_ret
              exact ⟨rfl, rfl⟩

end Go.Proofs.YthmljebpjohibaaDoor
