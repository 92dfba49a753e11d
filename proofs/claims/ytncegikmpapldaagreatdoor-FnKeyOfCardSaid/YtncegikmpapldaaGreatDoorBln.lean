/- What does not look at the world. -/
import Derived.Test.YtncegikmpapldaaGreatDoorRegR
namespace Go.Proofs.YtncegikmpapldaaGreatDoor
open Go.RowKit

/-- What does not look at the world. -/
def Blind (R : Value → World → Prop) : Prop := ∀ v w w', R v w → R v w'
theorem blind_at {Rs : List (Value → World → Prop)} (h : ∀ R ∈ Rs, Blind R) {i : Nat} {v : Value} {w w' : World} (hR : RAt Rs i v w) : RAt Rs i v w' := by
  unfold RAt at *
  by_cases hi : i < Rs.length
  · rw [List.getD_eq_getElem?_getD, List.getElem?_eq_getElem hi] at hR ⊢
    exact h _ (List.getElem_mem hi) v w w' hR
  · rw [List.getD_eq_getElem?_getD, List.getElem?_eq_none (by omega)]; trivial
theorem blind_eq (x : Value) : Blind (REq x) := fun _ _ _ h => h

end Go.Proofs.YtncegikmpapldaaGreatDoor
