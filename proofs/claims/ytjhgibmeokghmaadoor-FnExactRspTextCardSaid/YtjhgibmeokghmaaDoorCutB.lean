/- Walks: cutting a text at a byte. -/
import Derived.Test.YtjhgibmeokghmaaDoorRows
import Derived.Test.YtjhgibmeokghmaaDoorPure
import Derived.Test.YtjhgibmeokghmaaDoorShelf
import Derived.WalkKit
import Derived.WalkSpells
import Derived.WalkLawsBesides
import Derived.BigQuiet
import Derived.Lib.Hide
namespace Go.Proofs.YtjhgibmeokghmaaDoor
open Go.RowKit

set_option maxHeartbeats 400000 in
theorem fresh (s : ByteArray) (w : World) (hs : s.size ≤ 281474976710656) :
    Calls Tryd.prog 68 #[.string s] w fun e w' => e = .returned (.string s) ∧ Below w.heap.size w w' := by
  go_enter Tryd.func68, Tryd.ntmps68
  go_wp2_with (first | (go_at_call 73; refine (Tryd.stringslite_Clone _ _ hs).mono ?_; rintro e w' ⟨rfl, hb⟩) | go_in)
  go_ret
  exact ⟨rfl, hb⟩

end Go.Proofs.YtjhgibmeokghmaaDoor
