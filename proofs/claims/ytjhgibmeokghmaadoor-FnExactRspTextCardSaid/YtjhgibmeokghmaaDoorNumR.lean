/- Walks: reading a number's text. -/
import Derived.Test.YtjhgibmeokghmaaDoorNum
import Derived.Shelf.Strconv.ErrVarAll
namespace Go.Proofs.YtjhgibmeokghmaaDoor
open Go.RowKit

theorem numR_no {l : List UInt8} (h : (numR l).2 = false) : numR l = (0, false) := by
  unfold numR at h ⊢
  split
  · rename_i hc; rw [if_pos hc] at h; cases h
  · rfl
theorem numR_ok {l : List UInt8} {v : Int} (ha : Lib.atoiAll l = .ok v) (h : numT v = l) : numR l = (v.toNat, true) ∧ 0 ≤ v := by
  unfold numT at h
  by_cases hc : 0 ≤ v ∧ v ≤ 999999
  · rw [if_pos hc] at h
    rw [← h, numR_dec _ (by omega)]
    exact ⟨rfl, hc.1⟩
  · rw [if_neg hc] at h
    subst h
    cases ha
theorem numR_bad {l : List UInt8} (ha : ∀ v : Nat, v ≤ 999999 → Lib.decDigits v ≠ l) : numR l = (0, false) := by
  apply numR_no
  cases hb : (numR l).2
  · rfl
  · have := numR_yes hb
    exact absurd this.2 (ha _ this.1)

/-- What the reading of numbers asks of the library's variables. -/
def Errs (w : World) : Prop := ∃ tp p tp2 p2, w.var? Tryd.prog "strconv.ErrSyntax" = some #[.iface tp p] ∧ w.var? Tryd.prog "strconv.ErrRange" = some #[.iface tp2 p2]
theorem atoi_below {w w' : World} (h : w' = w ∨ ∃ t, w' = Lib.bytesWorld w 5 t) : Below w.heap.size w w' := by
  rcases h with rfl | ⟨t, rfl⟩
  · exact Below.refl _ _
  · exact Lib.bytesWorld_below _ _ _

end Go.Proofs.YtjhgibmeokghmaaDoor
