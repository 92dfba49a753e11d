/- Walks: the names of the codings, by the specification. -/
import Derived.Test.YtncegikmpapldaaGreatDoorRows
import Derived.Test.YtncegikmpapldaaGreatDoorOwn
import Derived.WalkKit
import Derived.WalkSpells
import Derived.WalkLawsBesides
import Derived.BigQuiet
import Derived.Lib.Hide
namespace Go.Proofs.YtncegikmpapldaaGreatDoor
open Go.RowKit

theorem l6_names (w : World) : Calls Tryz.prog 187 #[] w fun e w' => e = .returned (.slice (some ⟨w.heap.size, 0, none⟩) 3 3) ∧ w' = w.alloc (.cells #[.string ⟨#[112, 108, 97, 105, 110]⟩, .string ⟨#[103, 122]⟩, .string ⟨#[98, 114]⟩] 9) := by
  go_enter Tryz.func187, Tryz.ntmps187
  go_wp2
  go_ret
  exact ⟨rfl, rfl⟩
end Go.Proofs.YtncegikmpapldaaGreatDoor
