/- Walks: the draws of chapter 1. -/
import Derived.Test.YtbhnjnoblkfckabDoorDraw3
import Derived.Test.YtbhnjnoblkfckabDoorNum
namespace Go.Proofs.YtbhnjnoblkfckabDoor
open Go.RowKit

set_option maxHeartbeats 400000 in
theorem odd_any (g : Nat) (q : Int) (B m : Nat) (w : World) (hm : m ≤ 1000000) (hq : q ≤ 1000000) (hq0 : 0 ≤ q) (h : RdAt w B g m) :
    Calls Tryd.prog 23 #[.pointer (some ⟨g, 0, none⟩), .int .i64 q] w fun e w' => ∃ b : Bool, e = .returned (.bool b) ∧ Drawn w w' B g (m + 1) := by
  go_enter Tryd.func23, Tryd.ntmps23
  go_wp2_with fail
  refine (pick_any g q B m _ hm hq h).mono ?_
  rintro e w1 ⟨r, rfl, hr, hd⟩
  go_wp2
  go_ret
  exact ⟨_, rfl, hd⟩

theorem numT_len (n : Int) : (numT n).length ≤ 6 := by
  unfold numT
  split
  · exact dec_len_le 5 _ (by omega)
  · simp

end Go.Proofs.YtbhnjnoblkfckabDoor
