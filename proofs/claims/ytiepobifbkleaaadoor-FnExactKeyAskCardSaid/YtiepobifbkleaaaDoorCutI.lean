/- Walks: the program's cut of a text. -/
import Derived.Test.YtiepobifbkleaaaDoorCutB
namespace Go.Proofs.YtiepobifbkleaaaDoor
open Go.RowKit

end Go.Proofs.YtiepobifbkleaaaDoor
