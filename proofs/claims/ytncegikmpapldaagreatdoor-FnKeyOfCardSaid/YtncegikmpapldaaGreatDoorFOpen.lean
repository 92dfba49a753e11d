/- A list of fields that came in, opened. -/
import Derived.Test.YtncegikmpapldaaGreatDoorFld
import Derived.Deep.SlicePairs
import Derived.WideShapes
import Derived.ChangeArms
namespace Go.Proofs.YtncegikmpapldaaGreatDoor
open Go.RowKit Go.ChangeShapes Go.WideShapes Go.Deep

theorem cellsStrF : Tryz.prog.cellsOf 9 = 1 := by kernel_rfl
end Go.Proofs.YtncegikmpapldaaGreatDoor
