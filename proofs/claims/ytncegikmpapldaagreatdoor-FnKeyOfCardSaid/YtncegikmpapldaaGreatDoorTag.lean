/- Walks: which tags are valid. -/
import Derived.Test.YtncegikmpapldaaGreatDoorTok
namespace Go.Proofs.YtncegikmpapldaaGreatDoor
open Go.RowKit

def tagB (tag : List UInt8) : Bool := decide (tag = []) || tokB tag
theorem str_nil {s : ByteArray} (h : s.data.toList = []) : s = ⟨#[]⟩ := by
  apply ByteArray.ext; apply Array.toList_inj.1; simpa using h
set_option maxHeartbeats 400000 in
theorem impl_tagok (s : ByteArray) (w : World) (hs : s.size ≤ maxLen) (h : Cls w) :
    Calls Tryz.prog 63 #[.string s] w fun e w' => e = .returned (.bool (tagB s.data.toList)) ∧ w = w' := by
  have hT := fun W hW => impl_tok s W hs hW
  by_cases c : s.data.toList = []
  · have hd : tagB s.data.toList = true := by unfold tagB; rw [c]; rfl
    rw [hd]
    obtain rfl := str_nil c
    clear hd c hT h hs
    go_enter Tryz.func63, Tryz.ntmps63
    go_wp2_with fail
    go_ret
    exact ⟨rfl, rfl⟩
  · have hd : tagB s.data.toList = tokB s.data.toList := by unfold tagB; rw [decide_eq_false c]; rfl
    rw [hd]
    have b0 : (s.toList == ([] : List UInt8)) = false := by rw [Lib.toList_data]; exact beq_eq_false_iff_ne.2 c
    have b1 : s.toList.isEmpty = false := by rw [Lib.toList_data]; cases hh : s.data.toList with
      | nil => exact absurd hh c
      | cons _ _ => rfl
    have hT' := Lib.hid (hT w h)
    generalize tokB s.data.toList = R at *
    clear hd c hT h hs
    go_enter Tryz.func63, Tryz.ntmps63
    go_wp2_with fail
    refine hT'.out.mono ?_
    rintro e w1 ⟨rfl, rfl⟩
    go_wp2
    go_ret
    exact ⟨rfl, rfl⟩
end Go.Proofs.YtncegikmpapldaaGreatDoor
