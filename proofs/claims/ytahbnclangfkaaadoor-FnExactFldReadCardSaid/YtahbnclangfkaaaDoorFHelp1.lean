/- The laws' own helpers over one field: sized, copied, equal. -/
import Derived.Test.YtahbnclangfkaaaDoorOwn
import Derived.Test.YtahbnclangfkaaaDoorRows
import Derived.WalkKit
import Derived.WalkSpells
import Derived.WalkLawsBesides
import Derived.Lib.Hide
namespace Go.Proofs.YtahbnclangfkaaaDoor
open Go.RowKit

set_option maxHeartbeats 400000 in
theorem sz_field1 (a b : ByteArray) (w : World) (ha : a.size ≤ maxLen) (hb : b.size ≤ maxLen) :
    Calls Tryd.prog 24 #[.agg #[.string a, .string b], .int .i64 1048576] w fun e w' => (∃ r : Int, e = .returned (.int .i64 r) ∧ (r < 0 ∨ 0 ≤ r)) ∧ Below w.heap.size w w' := by
  unfold maxLen at ha hb
  by_cases c1 : 1048576 - (a.size : Int) < 0
  · go_enter Tryd.func24, Tryd.ntmps24
    go_wp2
    go_ret
    exact ⟨⟨_, rfl, .inl (by omega)⟩, (Below.refl _ _).alloc (Nat.le_refl _) _⟩
  · by_cases c2 : 1048576 - (a.size : Int) - (b.size : Int) < 0
    · go_enter Tryd.func24, Tryd.ntmps24
      go_wp2
      go_ret
      exact ⟨⟨_, rfl, .inl (by omega)⟩, (Below.refl _ _).alloc (Nat.le_refl _) _⟩
    · go_enter Tryd.func24, Tryd.ntmps24
      go_wp2
      go_ret
      exact ⟨⟨_, rfl, .inr (by omega)⟩, (Below.refl _ _).alloc (Nat.le_refl _) _⟩

set_option maxHeartbeats 400000 in
theorem to_field1 (a b : ByteArray) (w : World) :
    Calls Tryd.prog 25 #[.agg #[.string a, .string b]] w fun e w' => e = .returned (.agg #[.string a, .string b]) ∧ Below w.heap.size w w' := by
  go_enter Tryd.func25, Tryd.ntmps25
  go_wp2
  exact bodyPost_ret (v := .agg #[.string a, .string b]) (by simp [results, Tryd.results25, go_sem]) rfl ⟨rfl, (((Below.refl _ _).alloc (Nat.le_refl _) _).alloc (by simp) _).alloc (by simp; omega) _⟩

set_option maxHeartbeats 400000 in
theorem eq_field1 (a b : ByteArray) (w : World) :
    Calls Tryd.prog 26 #[.agg #[.string a, .string b], .agg #[.string a, .string b]] w fun e w' => e = .returned (.bool true) ∧ Below w.heap.size w w' := by
  go_enter Tryd.func26, Tryd.ntmps26
  go_wp2
  go_ret
  exact ⟨rfl, ((Below.refl _ _).alloc (Nat.le_refl _) _).alloc (by simp) _⟩
end Go.Proofs.YtahbnclangfkaaaDoor
