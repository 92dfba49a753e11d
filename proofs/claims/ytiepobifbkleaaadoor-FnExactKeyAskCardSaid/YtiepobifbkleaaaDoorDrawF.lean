/- Walks: the drawing of fields. -/
import Derived.Test.YtiepobifbkleaaaDoorRegR
namespace Go.Proofs.YtiepobifbkleaaaDoor
open Go.RowKit

def names6 : Array Value := #[.string ⟨#[97, 99, 99, 101, 112, 116]⟩, .string ⟨#[120, 45, 49]⟩, .string ⟨#[105, 102, 45, 110, 111, 110, 101]⟩, .string ⟨#[99, 111, 111, 107, 105, 101]⟩, .string ⟨#[115, 99, 111, 112, 101]⟩, .string ⟨#[98]⟩]

end Go.Proofs.YtiepobifbkleaaaDoor
