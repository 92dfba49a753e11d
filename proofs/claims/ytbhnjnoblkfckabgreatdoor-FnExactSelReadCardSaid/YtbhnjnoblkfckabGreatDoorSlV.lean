/- The laws' own helper: two seals alike. -/
import Derived.Test.YtbhnjnoblkfckabGreatDoorSlT
namespace Go.Proofs.YtbhnjnoblkfckabGreatDoor
open Go.RowKit

set_option maxRecDepth 100000 in
set_option maxHeartbeats 1600000 in
theorem eq_seal (s : Sl) (w : World) :
    Calls Tryz.prog 12 #[slV s, slV s] w fun e w' => e = .returned (.bool true) ∧ Below w.heap.size w w' := by
  obtain ⟨p, u, t, n, c⟩ := s
  unfold slV
  dsimp only
  have hb : ∀ o1 o2, Below w.heap.size w ((w.alloc o1).alloc o2) := fun o1 o2 => ((Below.refl _ _).alloc (Nat.le_refl _) _).alloc (by simp) _
  have e0 : (p.toList == p.toList) = true := by simp
  have e1 : (u != u) = false := by simp
  have e2 : (u == u) = true := by simp
  go_enter Tryz.func12, Tryz.ntmps12
  go_wp2
  go_ret
  exact ⟨rfl, hb _ _⟩
end Go.Proofs.YtbhnjnoblkfckabGreatDoor
