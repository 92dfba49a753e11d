/- The contracts of library functions at this program, laid by the guide's command, in plain words. -/
import Derived.Shelf.Lay
import Derived.Shelf.LaySoft

import Derived.Test.YtbhnjnoblkfckabDoorProg
namespace Go.Proofs
open Go.Shelf
shelf_tried
end Go.Proofs
