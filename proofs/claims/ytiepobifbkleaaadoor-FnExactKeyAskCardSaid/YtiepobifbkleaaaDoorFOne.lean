/- Fields: the only value of a name. -/
import Derived.Test.YtiepobifbkleaaaDoorVals
namespace Go.Proofs.YtiepobifbkleaaaDoor
open Go.RowKit Go.Maps

def oneOf : List ByteArray → ByteArray × Bool
  | [x] => (x, true)
  | _ => (⟨#[]⟩, false)
theorem oneOf_one {l : List ByteArray} (h : l.length = 1) : ∃ x, l = [x] ∧ oneOf l = (x, true) := by
  match l, h with
  | [x], _ => exact ⟨x, rfl, rfl⟩
theorem oneOf_not {l : List ByteArray} (h : l.length ≠ 1) : oneOf l = (⟨#[]⟩, false) := by
  match l with
  | [] => rfl
  | [x] => simp at h
  | _ :: _ :: _ => rfl

theorem own_len {w : World} {B : Nat} {e : TypeId} {v : Value} {n : Nat} {xs : List Value} (h : w.ownsRow B e 1 v n xs) : ∃ a c, v = .slice a n c := by
  rcases h.2 with ⟨h, h0⟩ | ⟨g, cap, cur, h, _⟩
  · exact ⟨none, 0, by rw [h, h0]⟩
  · exact ⟨_, _, h⟩

theorem all_len (fs : List Fd) (s : ByteArray) (k : Nat) : (allTo fs s k).length ≤ k := by
  rw [← idx_vals, List.length_map]; exact idx_len fs s k

end Go.Proofs.YtiepobifbkleaaaDoor
