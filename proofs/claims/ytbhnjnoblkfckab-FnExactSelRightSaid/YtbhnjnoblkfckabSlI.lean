/- Walks: seals, by the program. -/
import Derived.Test.YtbhnjnoblkfckabSlP
import Derived.Test.YtbhnjnoblkfckabRngK
import Derived.Test.YtbhnjnoblkfckabRegI
import Derived.Test.YtbhnjnoblkfckabProg
import Derived.RangeFuncBound
import Derived.RangeFuncCalls
import Derived.RangeFuncLeaves
import Derived.Shelf.Abstract
import Derived.Shelf.RegionOpen
import Derived.OwnWalkIn
import Derived.TacticsInMore
import Derived.LoopNIn
import Derived.LoopIn
namespace Go.Proofs.Ytbhnjnoblkfckab
open Go.RowKit Go.Shelf
attribute [local go_sem] Oper.semAt_some

set_option maxHeartbeats 400000 in
theorem sl_count (n hi : Int) (w : World) :
    Calls Try.prog 17 #[.int .i64 n, .int .i64 hi] w fun e w' => e = .returned (.bool (decide (1 ≤ n) && decide (n ≤ hi))) ∧ w = w' := by
  by_cases h1 : 1 ≤ n
  · by_cases h2 : n ≤ hi
    all_goals
      go_enter Try.func17, Try.ntmps17
      go_wp2
      go_ret
      exact ⟨by simp [h1, h2], rfl⟩
  · go_enter Try.func17, Try.ntmps17
    go_wp2
    go_ret
    exact ⟨by simp; omega, rfl⟩
set_option maxHeartbeats 400000 in
theorem sl_num (n : Int) (w : World) :
    Calls Try.prog 18 #[.int .i64 n] w fun e w' => e = .returned (.bool (decide (0 ≤ n ∧ n ≤ 999999))) ∧ w = w' := by
  by_cases h0 : 0 ≤ n
  · by_cases h1 : n ≤ 999999
    · rw [decide_eq_true ⟨h0, h1⟩]
      go_enter Try.func18, Try.ntmps18
      go_wp2
      go_ret
      exact ⟨rfl, rfl⟩
    · rw [decide_eq_false (fun h => h1 h.2)]
      go_enter Try.func18, Try.ntmps18
      go_wp2
      go_ret
      exact ⟨rfl, rfl⟩
  · rw [decide_eq_false (fun h => h0 h.1)]
    go_enter Try.func18, Try.ntmps18
    go_wp2
    go_ret
    exact ⟨rfl, rfl⟩
set_option maxHeartbeats 400000 in
theorem impl_mixed (n k : Int) (w : World) (h0 : 0 ≤ n) (h1 : n < 65521) (h2 : 0 ≤ k) (h3 : k ≤ 1000000) :
    Calls Try.prog 16 #[.int .i64 n, .int .i64 k] w fun e w' => e = .returned (.int .i64 (mixS n k)) ∧ w = w' := by
  unfold mixS
  go_enter Try.func16, Try.ntmps16
  go_wp2
  go_ret
  exact ⟨rfl, rfl⟩
def txS (u : Bool) : ByteArray := if u then ⟨#[97, 108, 108]⟩ else ⟨#[111, 110, 101]⟩
set_option maxHeartbeats 400000 in
theorem scope_of (u : Bool) (w : World) :
    Calls Try.prog 20 #[.bool u] w fun e w' => e = .returned (.agg #[.string (txS u), .int .i64 (numS u)]) ∧ Below w.heap.size w w' := by
  unfold txS numS
  have hb : ∀ a c, Below w.heap.size w (((w.alloc (.cells #[.string ⟨#[]⟩, .int .i64 0] 41)).setCell ⟨w.heap.size, 0, none⟩ a).setCell ⟨w.heap.size, 1, none⟩ c) := fun a c =>
    (((Below.refl _ _).alloc (Nat.le_refl _) _).setCell (p := ⟨w.heap.size, 0, none⟩) (Nat.le_refl _) a).setCell (p := ⟨w.heap.size, 1, none⟩) (Nat.le_refl _) c
  cases u
  · go_enter Try.func20, Try.ntmps20
    go_wp2
    exact bodyPost_ret (v := .agg #[.string ⟨#[111, 110, 101]⟩, .int .i64 2]) (by simp [results, Try.results20, go_sem]) rfl ⟨rfl, by first | exact hb _ _ | exact (Below.refl _ _).alloc (Nat.le_refl _) _⟩
  · go_enter Try.func20, Try.ntmps20
    go_wp2
    exact bodyPost_ret (v := .agg #[.string ⟨#[97, 108, 108]⟩, .int .i64 1]) (by simp [results, Try.results20, go_sem]) rfl ⟨rfl, by first | exact hb _ _ | exact (Below.refl _ _).alloc (Nat.le_refl _) _⟩

set_option maxHeartbeats 1600000 in
theorem impl_sealable (key : Int) (s : Sl) (w : World) (hp : s.path.size ≤ maxLen) :
    Calls Try.prog 13 #[.int .i64 key, slV s] w fun e w' => e = .returned (.bool (sealB key s.path s.til s.nonce)) ∧ Below w.heap.size w w' := by
  obtain ⟨p, u, t, n, c⟩ := s
  have h1 := fun W => sl_count key 9999 W
  have h2 := fun W => sl_num t W
  have h3 := fun W => sl_num n W
  unfold sealB slV
  dsimp only at hp ⊢
  unfold maxLen at hp
  generalize (decide (1 ≤ key) && decide (key ≤ 9999)) = B1 at *
  generalize (decide (0 ≤ t ∧ t ≤ 999999)) = B2 at *
  generalize (decide (0 ≤ n ∧ n ≤ 999999)) = B3 at *
  have hb : Below w.heap.size w (w.alloc (.cells #[.string p, .bool u, .int .i64 t, .int .i64 n, .int .i64 c] 28)) := (Below.refl _ _).alloc (Nat.le_refl _) _
  cases B1
  · go_enter Try.func13, Try.ntmps13
    go_wp2_with fail
    refine (h1 _).mono ?_
    rintro e w' ⟨rfl, rfl⟩
    go_wp2
    go_ret
    exact ⟨rfl, hb⟩
  by_cases hs : p.size ≤ 40
  · rw [decide_eq_true hs]
    cases B2
    · go_enter Try.func13, Try.ntmps13
      go_wp2_with fail
      refine (h1 _).mono ?_
      rintro e w' ⟨rfl, rfl⟩
      go_wp2_with fail
      refine (h2 _).mono ?_
      rintro e w' ⟨rfl, rfl⟩
      go_wp2
      go_ret
      exact ⟨rfl, hb⟩
    cases B3
    all_goals
      go_enter Try.func13, Try.ntmps13
      go_wp2_with fail
      refine (h1 _).mono ?_
      rintro e w' ⟨rfl, rfl⟩
      go_wp2_with fail
      refine (h2 _).mono ?_
      rintro e w' ⟨rfl, rfl⟩
      go_wp2_with fail
      refine (h3 _).mono ?_
      rintro e w' ⟨rfl, rfl⟩
      go_wp2
      go_ret
      exact ⟨rfl, hb⟩
  · rw [decide_eq_false hs]
    go_enter Try.func13, Try.ntmps13
    go_wp2_with fail
    refine (h1 _).mono ?_
    rintro e w' ⟨rfl, rfl⟩
    go_wp2
    go_ret
    exact ⟨rfl, hb⟩
end Go.Proofs.Ytbhnjnoblkfckab
