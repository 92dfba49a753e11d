/- The law on hosts, exact. -/
import Derived.Test.YtmhnapaldicfdaaDoorLaid
import Derived.Test.YtmhnapaldicfdaaDoorHstID
import Derived.Test.YtmhnapaldicfdaaDoorEq
namespace Go.Proofs.YtmhnapaldicfdaaDoor
open Go.RowKit

theorem strs_eq (a : ByteArray) : (a.toList != a.toList) = false := by simp
theorem str_self (a : ByteArray) : (a.toList == a.toList) = true := by simp

set_option maxHeartbeats 400000 in
theorem law_exhst (s : ByteArray) (w : World) (hs : s.size ≤ maxLen) (h : Cls w) :
    Calls Tryd.prog 4 #[.string s] w fun e w' => e = .returned (.bool true) ∧ Below w.heap.size w w' := by
  by_cases hbig : 1048576 < s.size
  · unfold maxLen at hs
    clear h
    go_enter Tryd.func4, Tryd.ntmps4
    go_wp2_with fail
    go_ret
    exact ⟨rfl, Below.refl _ _⟩
  · have c1 := fun W => spec_host s W (by omega)
    have c2 := fun W hW => impl_host s W (by omega) hW
    unfold maxLen at hs
    obtain ⟨x, ok, hR⟩ : ∃ x ok, hostR s.data.toList = (x, ok) := ⟨_, _, rfl⟩
    rw [hR] at c1 c2
    dsimp only at c1 c2
    have e1 := strs_eq x
    clear hR
    go_enter Tryd.func4, Tryd.ntmps4
    go_wp2_with fail
    refine (c1 _).mono ?_
    rintro e w1 ⟨rfl, hb1⟩
    have h1 := h.below hb1 (Nat.le_refl _)
    clear h
    go_wp2_with fail
    refine (c2 _ h1).mono ?_
    rintro e w2 ⟨rfl, hb2⟩
    have hb := hb1.trans (hb2.mono hb1.size)
    clear hb1 hb2 c1 c2
    cases ok
    all_goals
      go_wp2
      go_ret
      exact ⟨rfl, hb⟩
namespace Lw
theorem fnExactHstCanon (w : World) (hL : laidMetH Tryd.prog Rows.fnExactHstCanonRow.laid w) (s : ByteArray) (hs : s.size ≤ maxLen) :
    Calls Tryd.prog 4 #[.string s] w fun e w' => e = .returned (.bool true) ∧ Below w.heap.size w w' :=
  law_exhst s w hs (cls_of_head hL)
end Lw
end Go.Proofs.YtmhnapaldicfdaaDoor
