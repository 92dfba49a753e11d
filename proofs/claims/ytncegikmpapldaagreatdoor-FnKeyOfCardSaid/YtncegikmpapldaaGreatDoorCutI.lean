/- Walks: the program's cut of a text. -/
import Derived.Test.YtncegikmpapldaaGreatDoorCutB
namespace Go.Proofs.YtncegikmpapldaaGreatDoor
open Go.RowKit

set_option maxHeartbeats 400000 in
theorem impl_cut (s : ByteArray) (c : UInt8) (w : World) (hs : s.size ≤ 281474976710656) :
    Calls Tryz.prog 36 #[.string s, .int .u8 c.toNat] w fun e w' => e = .returned (.tuple #[.string ⟨(cutL s.data.toList c).1.toArray⟩, .string ⟨(cutL s.data.toList c).2.1.toArray⟩, .bool (cutL s.data.toList c).2.2]) ∧ Below w.heap.size w w' := by
  have hl1 : (ByteArray.mk (cutL s.data.toList c).1.toArray).size ≤ 281474976710656 := by
    have := cutL_len s.data.toList c; rw [size_len]; rw [size_len] at hs; simp only; omega
  have hl2 : (ByteArray.mk (cutL s.data.toList c).2.1.toArray).size ≤ 281474976710656 := by
    have := cutL_len s.data.toList c; rw [size_len]; rw [size_len] at hs; simp only; omega
  generalize hr : cutL s.data.toList c = r at *
  obtain ⟨r1, r2, r3⟩ := r
  simp only at hl1 hl2
  have HR := Lib.hid hr; clear hr
  go_enter Tryz.func36, Tryz.ntmps36
  go_wp2_with fail
  refine (textcut _ _ _ (by unfold maxLen; omega)).mono ?_
  rintro e w1 ⟨rfl, n1, rfl⟩
  rw [HR.out]
  go_wp2_with fail
  refine (fresh _ _ hl1).mono ?_
  rintro e w2 ⟨rfl, hb1⟩
  go_wp2_with fail
  refine (fresh _ _ hl2).mono ?_
  rintro e w3 ⟨rfl, hb2⟩
  go_wp2
  go_ret3
  exact ⟨rfl, below_drewN_left (hb1.trans (hb2.mono hb1.size))⟩
end Go.Proofs.YtncegikmpapldaaGreatDoor
