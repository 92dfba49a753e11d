/- Answers: what is fresh, and what may be kept. -/
import Derived.Test.YtjhgibmeokghmaaDoorRsI3
import Derived.Test.YtjhgibmeokghmaaDoorRsS2
import Derived.Test.YtjhgibmeokghmaaDoorRsG
import Derived.Test.YtjhgibmeokghmaaDoorGdOk
namespace Go.Proofs.YtjhgibmeokghmaaDoor
open Go.RowKit

theorem fresh_iff {r : Rp} {a n : Int} : freshB r a n = true ↔ rspB r = true ∧ (0 ≤ a ∧ a ≤ n ∧ n ≤ 999999) ∧ n - a < r.mx := by
  unfold freshB
  rw [Bool.and_eq_true, Bool.and_eq_true, times_iff, decide_eq_true_eq]
theorem fresh_no {r : Rp} {a n : Int} (h : ¬ (rspB r = true ∧ (0 ≤ a ∧ a ≤ n ∧ n ≤ 999999) ∧ n - a < r.mx)) : freshB r a n = false := by
  rw [← Bool.not_eq_true, fresh_iff]; exact h
theorem keep_iff {r : Rp} {x : Int} : keepB r x = true ↔ rspB r = true ∧ (r.code = 200 ∨ r.code = 404) ∧ 0 < r.mx ∧ r.hide = false ∧ inB x r.cod = true := by
  unfold keepB
  simp only [Bool.and_eq_true, decide_eq_true_eq, Bool.not_eq_true']
end Go.Proofs.YtjhgibmeokghmaaDoor
