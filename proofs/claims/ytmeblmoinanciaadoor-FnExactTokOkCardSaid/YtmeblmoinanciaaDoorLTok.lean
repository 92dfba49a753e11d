/- The law on names, exact. -/
import Derived.Test.YtmeblmoinanciaaDoorLaid
namespace Go.Proofs.YtmeblmoinanciaaDoor
open Go.RowKit

set_option maxHeartbeats 400000 in
theorem law_tok (s : ByteArray) (w : World) (hs : s.size ≤ maxLen) (h : Cls w) :
    Calls Tryd.prog 7 #[.string s] w fun e w' => e = .returned (.bool true) ∧ Below w.heap.size w w' := by
  by_cases hbig : 1048576 < s.size
  · unfold maxLen at hs
    clear h
    go_enter Tryd.func7, Tryd.ntmps7
    go_wp2_with fail
    go_ret
    exact ⟨rfl, Below.refl _ _⟩
  · have hs' := hs
    unfold maxLen at hs'
    go_enter Tryd.func7, Tryd.ntmps7
    go_wp2_with fail
    refine (spec_tok _ _ hs).mono ?_
    rintro e w' ⟨rfl, rfl⟩
    go_wp2_with fail
    refine (impl_tok _ _ hs h).mono ?_
    rintro e w' ⟨rfl, rfl⟩
    go_wp2
    go_ret
    exact ⟨rfl, Below.refl _ _⟩
namespace Lw
theorem fnExactTokOk (w : World) (hL : laidMetH Tryd.prog Rows.fnExactTokOkRow.laid w) (s : ByteArray) (hs : s.size ≤ maxLen) :
    Calls Tryd.prog 7 #[.string s] w fun e w' => e = .returned (.bool true) ∧ Below w.heap.size w w' :=
  law_tok s w hs (cls_of_head hL)
end Lw
end Go.Proofs.YtmeblmoinanciaaDoor
