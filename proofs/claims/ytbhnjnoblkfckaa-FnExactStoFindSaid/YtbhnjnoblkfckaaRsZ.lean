/- The laws' own helpers over answers: sized, copied, equal. -/
import Derived.Test.YtbhnjnoblkfckaaRp
import Derived.Test.YtbhnjnoblkfckaaShelf
namespace Go.Proofs.Ytbhnjnoblkfckaa
open Go.RowKit Go.Maps

set_option maxRecDepth 100000 in
set_option maxHeartbeats 800000 in
theorem sz_rsp (r : Rp) (L : Int) (hL0 : 0 ≤ L) (hL1 : L ≤ 1048576) (ht : r.tag.size ≤ maxLen) (hb : r.body.size ≤ maxLen) (w : World) :
    Calls Try.prog 20 #[rspV r, .int .i64 L] w fun e w' => (∃ n : Int, e = .returned (.int .i64 n) ∧ (n < 0 ∨ (0 ≤ n ∧ n ≤ L ∧ r.tag.size ≤ 1048576 ∧ r.body.size ≤ 1048576))) ∧ Below w.heap.size w w' := by
  obtain ⟨c, m, hd, t, k, b⟩ := r
  unfold maxLen at ht hb
  dsimp only at ht hb ⊢
  unfold rspV
  dsimp only
  by_cases c1 : L - (t.size : Int) < 0
  · go_enter Try.func20, Try.ntmps20
    go_wp2_with fail
    go_ret
    exact ⟨⟨-1, rfl, .inl (by omega)⟩, (Below.refl _ _).alloc (Nat.le_refl _) _⟩
  · by_cases c2 : L - (t.size : Int) - (b.size : Int) < 0
    · go_enter Try.func20, Try.ntmps20
      go_wp2_with fail
      go_ret
      exact ⟨⟨-1, rfl, .inl (by omega)⟩, (Below.refl _ _).alloc (Nat.le_refl _) _⟩
    · go_enter Try.func20, Try.ntmps20
      go_wp2_with fail
      go_ret
      exact ⟨⟨_, rfl, .inr ⟨by omega, by omega, by omega, by omega⟩⟩, (Below.refl _ _).alloc (Nat.le_refl _) _⟩

set_option maxRecDepth 100000 in
set_option maxHeartbeats 1600000 in
theorem to_rsp (r : Rp) (w : World) :
    Calls Try.prog 21 #[rspV r] w fun e w' => e = .returned (rspV r) ∧ Below w.heap.size w w' := by
  obtain ⟨c, m, hd, t, k, b⟩ := r
  unfold rspV
  dsimp only
  go_enter Try.func21, Try.ntmps21
  go_wp2
  exact bodyPost_ret (v := .agg #[.int .i64 c, .int .i64 m, .bool hd, .string t, .int .i64 k, .string b]) (by simp [results, Try.results21, go_sem]) rfl ⟨rfl, (((Below.refl _ _).alloc (Nat.le_refl _) _).alloc (by simp) _).alloc (by simp; omega) _⟩

set_option maxRecDepth 100000 in
set_option maxHeartbeats 1600000 in
theorem eq_rsp (r : Rp) (w : World) :
    Calls Try.prog 22 #[rspV r, rspV r] w fun e w' => e = .returned (.bool true) ∧ Below w.heap.size w w' := by
  obtain ⟨c, m, hd, t, k, b⟩ := r
  unfold rspV
  dsimp only
  have e0 : (t.toList != t.toList) = false := by simp
  have e1 : (b.toList != b.toList) = false := by simp
  have e2 : (hd != hd) = false := by cases hd <;> rfl
  go_enter Try.func22, Try.ntmps22
  go_wp2
  go_ret
  exact ⟨rfl, ((Below.refl _ _).alloc (Nat.le_refl _) _).alloc (by simp) _⟩
end Go.Proofs.Ytbhnjnoblkfckaa
