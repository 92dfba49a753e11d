/- The laws' own helpers over storage: stores sized, copied, equal; marked, and held. -/
import Derived.Test.YtbhnjnoblkfckaaStZ
import Derived.Test.YtbhnjnoblkfckaaEq
namespace Go.Proofs.Ytbhnjnoblkfckaa
open Go.RowKit Go.Maps

/-- The nine marks from k on. -/
def mkE (k : Nat) : En := ⟨⟨(markS k).toArray⟩, ((k + 1 : Nat) : Int), ⟨((k + 2 : Nat) : Int), ((k + 3 : Nat) : Int), decide (((k + 4 : Nat) : Int).tmod 3 = 0), ⟨(markS (k + 5)).toArray⟩, ((k + 6 : Nat) : Int), ⟨(markS (k + 7)).toArray⟩⟩, ((k + 8 : Nat) : Int)⟩
def mkC (k : Nat) (C : Nat → Nat → Value) (j : Nat) : Nat → Nat → Value := fun i q => if i < j then cE (mkE (k + 9 * i)) q else C i q
theorem mkC_step (k : Nat) (C : Nat → Nat → Value) (j i q : Nat) : (if i = j then cE (mkE (k + 9 * j)) q else mkC k C j i q) = mkC k C (j + 1) i q := by
  unfold mkC
  by_cases e : i = j
  · subst e; simp
  · rw [if_neg e]
    by_cases hl : i < j
    · rw [if_pos hl, if_pos (by omega)]
    · rw [if_neg hl, if_neg (by omega)]

end Go.Proofs.Ytbhnjnoblkfckaa
