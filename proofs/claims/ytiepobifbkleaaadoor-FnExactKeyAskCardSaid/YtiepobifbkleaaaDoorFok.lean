/- Fields: the program and the specification on which are valid; their texts. -/
import Derived.Test.YtiepobifbkleaaaDoorFv
namespace Go.Proofs.YtiepobifbkleaaaDoor
open Go.RowKit

theorem Cls.alloc {w : World} (h : Cls w) (o : Obj) : Cls (w.alloc o) := h.below ((Below.refl _ _).alloc (Nat.le_refl _) o) (Nat.le_refl _)

/-- The text of a field. -/
def fdT (f : ByteArray × ByteArray) : ByteArray := if fdB f = true then f.1 ++ ⟨#[58, 32]⟩ ++ f.2 else ⟨#[]⟩

theorem fdB_len {a b : ByteArray} (h : fdB (a, b) = true) : a.size ≤ 12 ∧ b.size ≤ 30 := by
  simp only [fdB, tokB, valB, Bool.and_eq_true, decide_eq_true_eq] at h
  rw [size_len, size_len]
  omega

end Go.Proofs.YtiepobifbkleaaaDoor
