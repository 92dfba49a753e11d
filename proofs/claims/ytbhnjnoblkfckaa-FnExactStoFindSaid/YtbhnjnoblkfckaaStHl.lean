/- The laws' own helpers over storage: marks that are held. -/
import Derived.Test.YtbhnjnoblkfckaaStMk
import Derived.Test.YtbhnjnoblkfckaaReg
import Derived.Deep.RegionLawGrows
namespace Go.Proofs.Ytbhnjnoblkfckaa
open Go.RowKit Go.Maps

theorem hide_eq (k j : Nat) : decide (((k + 9 * j + 4 : Nat) : Int).tmod 3 = 0) = (((k : Int) + 9 * (j : Int) + 1 + 1 + 1 + 1) % 3 == 0) := by
  rw [Int.tmod_eq_emod_of_nonneg (by omega), show ((k + 9 * j + 4 : Nat) : Int) = (k : Int) + 9 * (j : Int) + 1 + 1 + 1 + 1 from by omega, Bool.eq_iff_iff]
  simp

end Go.Proofs.Ytbhnjnoblkfckaa
