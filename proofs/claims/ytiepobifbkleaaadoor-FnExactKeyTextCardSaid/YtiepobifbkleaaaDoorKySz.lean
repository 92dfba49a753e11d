/- The laws' own helpers over keys: sized, copied, equal; and over requests, sized with what is left. -/
import Derived.Test.YtiepobifbkleaaaDoorKyP
import Derived.Test.YtiepobifbkleaaaDoorGhx
namespace Go.Proofs.YtiepobifbkleaaaDoor
open Go.RowKit Go.Maps

def keyV (k : Ky) : Value := .agg #[.int .i64 k.house, .string k.place, .int .i64 k.mask]

set_option maxHeartbeats 400000 in
theorem sz_key (k : Ky) (L : Int) (hL0 : 0 ≤ L) (hL1 : L ≤ 1048576) (hs : k.place.size ≤ maxLen) (w : World) :
    Calls Tryd.prog 7 #[keyV k, .int .i64 L] w fun e w' => (∃ r : Int, e = .returned (.int .i64 r) ∧ (r < 0 ∨ (0 ≤ r ∧ r ≤ 1048576 ∧ k.place.size ≤ 1048576))) ∧ Below w.heap.size w w' := by
  obtain ⟨a, s, b⟩ := k
  unfold maxLen at hs
  dsimp only at hs ⊢
  unfold keyV
  by_cases c1 : L - (s.size : Int) < 0
  · go_enter Tryd.func7, Tryd.ntmps7
    go_wp2_with fail
    go_ret
    exact ⟨⟨-1, rfl, .inl (by omega)⟩, (Below.refl _ _).alloc (Nat.le_refl _) _⟩
  · go_enter Tryd.func7, Tryd.ntmps7
    go_wp2_with fail
    go_ret
    exact ⟨⟨_, rfl, .inr ⟨by omega, by omega, by omega⟩⟩, (Below.refl _ _).alloc (Nat.le_refl _) _⟩

set_option maxHeartbeats 400000 in
theorem to_key (k : Ky) (w : World) :
    Calls Tryd.prog 10 #[keyV k] w fun e w' => e = .returned (keyV k) ∧ Below w.heap.size w w' := by
  obtain ⟨a, s, b⟩ := k
  unfold keyV
  dsimp only
  go_enter Tryd.func10, Tryd.ntmps10
  go_wp2
  exact bodyPost_ret (v := .agg #[.int .i64 a, .string s, .int .i64 b]) (by simp [results, Tryd.results10, go_sem]) rfl ⟨rfl, (((Below.refl _ _).alloc (Nat.le_refl _) _).alloc (by simp) _).alloc (by simp; omega) _⟩

end Go.Proofs.YtiepobifbkleaaaDoor
