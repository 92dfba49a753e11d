/- Walks: cutting a text at a byte. -/
import Derived.Test.YtbhnjnoblkfckaaRows
import Derived.Test.YtbhnjnoblkfckaaPure
import Derived.Test.YtbhnjnoblkfckaaShelf
import Derived.WalkKit
import Derived.WalkSpells
import Derived.WalkLawsBesides
import Derived.BigQuiet
import Derived.Lib.Hide
namespace Go.Proofs.Ytbhnjnoblkfckaa
open Go.RowKit

end Go.Proofs.Ytbhnjnoblkfckaa
