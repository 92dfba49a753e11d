/- The laws' own helpers over seals: sized, copied. -/
import Derived.Test.YtbhnjnoblkfckabSlP
import Derived.Test.YtbhnjnoblkfckabSlJ
namespace Go.Proofs.Ytbhnjnoblkfckab
open Go.RowKit

set_option maxHeartbeats 800000 in
theorem sz_seal (s : Sl) (w : World) (hp : s.path.size ≤ maxLen) :
    Calls Try.prog 7 #[slV s, .int .i64 1048576] w fun e w' => (∃ r : Int, e = .returned (.int .i64 r) ∧ (r < 0 ∨ (0 ≤ r ∧ s.path.size ≤ 1048576))) ∧ Below w.heap.size w w' := by
  obtain ⟨p, u, t, n, c⟩ := s
  unfold maxLen at hp
  dsimp only at hp ⊢
  have hb : Below w.heap.size w (w.alloc (.cells #[.string p, .bool u, .int .i64 t, .int .i64 n, .int .i64 c] 25)) := (Below.refl _ _).alloc (Nat.le_refl _) _
  by_cases h : (1048576 : Int) - p.size < 0
  · go_enter Try.func7, Try.ntmps7
    go_wp2
    go_ret
    exact ⟨⟨-1, rfl, .inl (by omega)⟩, hb⟩
  · go_enter Try.func7, Try.ntmps7
    go_wp2
    go_ret
    exact ⟨⟨_, rfl, .inr ⟨by omega, by omega⟩⟩, hb⟩

set_option maxHeartbeats 800000 in
theorem to_seal (s : Sl) (w : World) :
    Calls Try.prog 9 #[slV s] w fun e w' => e = .returned (slV s) ∧ Below w.heap.size w w' := by
  obtain ⟨p, u, t, n, c⟩ := s
  unfold slV
  dsimp only
  go_enter Try.func9, Try.ntmps9
  go_wp2
  refine bodyPost_ret (v := .agg #[.string p, .bool u, .int .i64 t, .int .i64 n, .int .i64 c]) (by simp [results, Try.results9, go_sem]) rfl ⟨rfl, ?_⟩
  repeat' (first | exact Below.refl _ _ | (refine Below.setCell (p := ⟨_, _, none⟩) ?_ ?_ _ ; rotate_left) | (refine Below.alloc ?_ ?_ _; rotate_left) | (simp; done) | (simp; omega))
end Go.Proofs.Ytbhnjnoblkfckab
