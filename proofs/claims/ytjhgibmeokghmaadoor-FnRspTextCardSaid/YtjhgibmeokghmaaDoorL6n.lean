/- Walks: the names of the codings, by the specification. -/
import Derived.Test.YtjhgibmeokghmaaDoorRows
import Derived.Test.YtjhgibmeokghmaaDoorOwn
import Derived.WalkKit
import Derived.WalkSpells
import Derived.WalkLawsBesides
import Derived.BigQuiet
import Derived.Lib.Hide
namespace Go.Proofs.YtjhgibmeokghmaaDoor
open Go.RowKit

theorem l6_names (w : World) : Calls Tryd.prog 62 #[] w fun e w' => e = .returned (.slice (some ⟨w.heap.size, 0, none⟩) 3 3) ∧ w' = w.alloc (.cells #[.string ⟨#[112, 108, 97, 105, 110]⟩, .string ⟨#[103, 122]⟩, .string ⟨#[98, 114]⟩] 9) := by
  go_enter Tryd.func62, Tryd.ntmps62
  go_wp2
  go_ret
  exact ⟨rfl, rfl⟩
end Go.Proofs.YtjhgibmeokghmaaDoor
