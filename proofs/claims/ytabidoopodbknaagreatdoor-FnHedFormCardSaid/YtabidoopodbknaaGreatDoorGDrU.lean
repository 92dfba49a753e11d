import Derived.Test.YtabidoopodbknaaGreatDoorDraw3
import Derived.Test.YtabidoopodbknaaGreatDoorGcan
-- from XDrawU
/- Walks: the drawing of places. -/
namespace Go.Proofs.YtabidoopodbknaaGreatDoor
open Go.RowKit

end Go.Proofs.YtabidoopodbknaaGreatDoor

