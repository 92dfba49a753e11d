/- A list of fields that came in, opened. -/
import Derived.Test.YtiepobifbkleaaaDoorFld
import Derived.Deep.SlicePairs
import Derived.WideShapes
import Derived.ChangeArms
namespace Go.Proofs.YtiepobifbkleaaaDoor
open Go.RowKit Go.ChangeShapes Go.WideShapes Go.Deep

theorem cellsStrF : Tryd.prog.cellsOf 9 = 1 := by kernel_rfl
end Go.Proofs.YtiepobifbkleaaaDoor
