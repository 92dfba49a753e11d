/- Walks: cutting a text at a byte. -/
import Derived.Test.YtdjbcjmkmkljnaaRows
import Derived.Test.YtdjbcjmkmkljnaaPure
import Derived.Test.YtdjbcjmkmkljnaaShelf
import Derived.WalkKit
import Derived.WalkSpells
import Derived.WalkLawsBesides
import Derived.BigQuiet
import Derived.Lib.Hide
namespace Go.Proofs.Ytdjbcjmkmkljnaa
open Go.RowKit

end Go.Proofs.Ytdjbcjmkmkljnaa
