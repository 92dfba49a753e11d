/- Fields: the values of a name, by the program and by the specification. -/
import Derived.Test.YtiepobifbkleaaaDoorFld
namespace Go.Proofs.YtiepobifbkleaaaDoor
open Go.RowKit Go.Maps

theorem Tryd.infoStr : (Tryd.prog.info? 9).map (fun i => (i.zero, i.size, i.bytes)) = some (some (.string ⟨#[]⟩), 1, 16) := by kernel_rfl

set_option maxHeartbeats 400000 in
theorem fresh_v (s : ByteArray) (w : World) (hs : s.size ≤ 281474976710656) :
    Calls Tryd.prog 59 #[.string s] w fun e w' => e = .returned (.string s) ∧ Below w.heap.size w w' := by
  go_enter Tryd.func59, Tryd.ntmps59
  go_wp2_with (first | (go_at_call 92; refine (Tryd.stringslite_Clone _ _ hs).mono ?_; rintro e w' ⟨rfl, hb⟩) | go_in)
  go_ret
  exact ⟨rfl, hb⟩

def sV (s : ByteArray) : Value := .string s

theorem own_low {w : World} {B B' : Nat} {e : TypeId} {size : Nat} {v : Value} {n : Nat} {xs : List Value} (h : w.ownsRow B e size v n xs) (hB : B' ≤ B) : w.ownsRow B' e size v n xs := by
  refine ⟨h.1, ?_⟩
  rcases h.2 with h | ⟨g, cap, cur, h, hb, rest⟩
  · exact .inl h
  · exact .inr ⟨g, cap, cur, h, Nat.le_trans hB hb, rest⟩

theorem str_ne {a b : ByteArray} (h : a ≠ b) : (a.toList == b.toList) = false := by
  rw [Lib.toList_data, Lib.toList_data]
  simpa using fun e => h (str_inj e)
theorem str_same (a : ByteArray) : (a.toList == a.toList) = true := by simp

theorem valAt_of {fs : List Fd} {j : Nat} {f : Fd} (h : fs[j]? = some f) : valAt fs (j : Int) = f.2 := by simp [valAt, h]

end Go.Proofs.YtiepobifbkleaaaDoor
