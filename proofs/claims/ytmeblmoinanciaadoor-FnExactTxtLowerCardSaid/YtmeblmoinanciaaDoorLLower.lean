/- The law on small letters, exact. -/
import Derived.Test.YtmeblmoinanciaaDoorLaid
import Derived.Test.YtmeblmoinanciaaDoorLower
namespace Go.Proofs.YtmeblmoinanciaaDoor
open Go.RowKit

set_option maxHeartbeats 400000 in
theorem law_lower (s : ByteArray) (w : World) (hs : s.size ≤ maxLen) (h : Cls w) :
    Calls Tryd.prog 10 #[.string s] w fun e w' => e = .returned (.bool true) ∧ Below w.heap.size w w' := by
  by_cases hbig : 1048576 < s.size
  · unfold maxLen at hs
    clear h
    go_enter Tryd.func10, Tryd.ntmps10
    go_wp2_with fail
    go_ret
    exact ⟨rfl, Below.refl _ _⟩
  · have hs' := hs
    unfold maxLen at hs'
    go_enter Tryd.func10, Tryd.ntmps10
    go_wp2_with fail
    refine (spec_lower _ _ (by omega)).mono ?_
    rintro e w1 ⟨rfl, hb1⟩
    have h1 := h.below hb1 (Nat.le_refl _)
    go_wp2_with fail
    refine (impl_lower _ _ hs h1).mono ?_
    rintro e w2 ⟨rfl, hb2⟩
    go_wp2
    go_ret
    exact ⟨rfl, hb1.trans (hb2.mono hb1.size)⟩
namespace Lw
theorem fnExactTxtLower (w : World) (hL : laidMetH Tryd.prog Rows.fnExactTxtLowerRow.laid w) (s : ByteArray) (hs : s.size ≤ maxLen) :
    Calls Tryd.prog 10 #[.string s] w fun e w' => e = .returned (.bool true) ∧ Below w.heap.size w w' :=
  law_lower s w hs (cls_of_head hL)
end Lw
end Go.Proofs.YtmeblmoinanciaaDoor
