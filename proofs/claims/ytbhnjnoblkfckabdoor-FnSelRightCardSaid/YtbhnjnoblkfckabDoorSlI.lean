/- Walks: seals, by the program. -/
import Derived.Test.YtbhnjnoblkfckabDoorSlP
import Derived.Test.YtbhnjnoblkfckabDoorRngK
import Derived.Test.YtbhnjnoblkfckabDoorRegI
import Derived.Test.YtbhnjnoblkfckabDoorProg
import Derived.RangeFuncBound
import Derived.RangeFuncCalls
import Derived.RangeFuncLeaves
import Derived.Shelf.Abstract
import Derived.Shelf.RegionOpen
import Derived.OwnWalkIn
import Derived.TacticsInMore
import Derived.LoopNIn
import Derived.LoopIn
namespace Go.Proofs.YtbhnjnoblkfckabDoor
open Go.RowKit Go.Shelf
attribute [local go_sem] Oper.semAt_some

theorem sl_facts {W : World} {b : Nat} {a c d e f : Value} {T : TypeId} (h : W.heap[b]? = some (.cells #[a, c, d, e, f] T (0, 0))) :
    W.cell? ⟨b, 0, none⟩ = some a ∧ W.cell? ⟨b, 1, none⟩ = some c ∧ W.cell? ⟨b, 2, none⟩ = some d ∧ W.cell? ⟨b, 3, none⟩ = some e ∧ W.cell? ⟨b, 4, none⟩ = some f := by
  refine ⟨?_, ?_, ?_, ?_, ?_⟩ <;> simp [World.cell?, h]

set_option maxHeartbeats 400000 in
theorem sl_count (n hi : Int) (w : World) :
    Calls Tryd.prog 26 #[.int .i64 n, .int .i64 hi] w fun e w' => e = .returned (.bool (decide (1 ≤ n) && decide (n ≤ hi))) ∧ w = w' := by
  by_cases h1 : 1 ≤ n
  · by_cases h2 : n ≤ hi
    all_goals
      go_enter Tryd.func26, Tryd.ntmps26
      go_wp2
      go_ret
      exact ⟨by simp [h1, h2], rfl⟩
  · go_enter Tryd.func26, Tryd.ntmps26
    go_wp2
    go_ret
    exact ⟨by simp; omega, rfl⟩
set_option maxHeartbeats 400000 in
theorem sl_num (n : Int) (w : World) :
    Calls Tryd.prog 27 #[.int .i64 n] w fun e w' => e = .returned (.bool (decide (0 ≤ n ∧ n ≤ 999999))) ∧ w = w' := by
  by_cases h0 : 0 ≤ n
  · by_cases h1 : n ≤ 999999
    · rw [decide_eq_true ⟨h0, h1⟩]
      go_enter Tryd.func27, Tryd.ntmps27
      go_wp2
      go_ret
      exact ⟨rfl, rfl⟩
    · rw [decide_eq_false (fun h => h1 h.2)]
      go_enter Tryd.func27, Tryd.ntmps27
      go_wp2
      go_ret
      exact ⟨rfl, rfl⟩
  · rw [decide_eq_false (fun h => h0 h.1)]
    go_enter Tryd.func27, Tryd.ntmps27
    go_wp2
    go_ret
    exact ⟨rfl, rfl⟩
set_option maxHeartbeats 400000 in
theorem impl_mixed (n k : Int) (w : World) (h0 : 0 ≤ n) (h1 : n < 65521) (h2 : 0 ≤ k) (h3 : k ≤ 1000000) :
    Calls Tryd.prog 18 #[.int .i64 n, .int .i64 k] w fun e w' => e = .returned (.int .i64 (mixS n k)) ∧ w = w' := by
  unfold mixS
  go_enter Tryd.func18, Tryd.ntmps18
  go_wp2
  go_ret
  exact ⟨rfl, rfl⟩
def txS (u : Bool) : ByteArray := if u then ⟨#[97, 108, 108]⟩ else ⟨#[111, 110, 101]⟩
set_option maxHeartbeats 400000 in
theorem scope_of (u : Bool) (w : World) :
    Calls Tryd.prog 29 #[.bool u] w fun e w' => e = .returned (.agg #[.string (txS u), .int .i64 (numS u)]) ∧ Below w.heap.size w w' := by
  unfold txS numS
  have hb : ∀ a c, Below w.heap.size w (((w.alloc (.cells #[.string ⟨#[]⟩, .int .i64 0] 54)).setCell ⟨w.heap.size, 0, none⟩ a).setCell ⟨w.heap.size, 1, none⟩ c) := fun a c =>
    (((Below.refl _ _).alloc (Nat.le_refl _) _).setCell (p := ⟨w.heap.size, 0, none⟩) (Nat.le_refl _) a).setCell (p := ⟨w.heap.size, 1, none⟩) (Nat.le_refl _) c
  cases u
  · go_enter Tryd.func29, Tryd.ntmps29
    go_wp2
    exact bodyPost_ret (v := .agg #[.string ⟨#[111, 110, 101]⟩, .int .i64 2]) (by simp [results, Tryd.results29, go_sem]) rfl ⟨rfl, by first | exact hb _ _ | exact (Below.refl _ _).alloc (Nat.le_refl _) _⟩
  · go_enter Tryd.func29, Tryd.ntmps29
    go_wp2
    exact bodyPost_ret (v := .agg #[.string ⟨#[97, 108, 108]⟩, .int .i64 1]) (by simp [results, Tryd.results29, go_sem]) rfl ⟨rfl, by first | exact hb _ _ | exact (Below.refl _ _).alloc (Nat.le_refl _) _⟩

set_option maxHeartbeats 1600000 in
theorem impl_sealable (key : Int) (s : Sl) (w : World) (hp : s.path.size ≤ maxLen) :
    Calls Tryd.prog 15 #[.int .i64 key, slV s] w fun e w' => e = .returned (.bool (sealB key s.path s.til s.nonce)) ∧ Below w.heap.size w w' := by
  obtain ⟨p, u, t, n, c⟩ := s
  have h1 := fun W => sl_count key 9999 W
  have h2 := fun W => sl_num t W
  have h3 := fun W => sl_num n W
  unfold sealB slV
  dsimp only at hp ⊢
  unfold maxLen at hp
  generalize (decide (1 ≤ key) && decide (key ≤ 9999)) = B1 at *
  generalize (decide (0 ≤ t ∧ t ≤ 999999)) = B2 at *
  generalize (decide (0 ≤ n ∧ n ≤ 999999)) = B3 at *
  have hb : Below w.heap.size w (w.alloc (.cells #[.string p, .bool u, .int .i64 t, .int .i64 n, .int .i64 c] 29)) := (Below.refl _ _).alloc (Nat.le_refl _) _
  cases B1
  · go_enter Tryd.func15, Tryd.ntmps15
    go_wp2_with fail
    refine (h1 _).mono ?_
    rintro e w' ⟨rfl, rfl⟩
    go_wp2
    go_ret
    exact ⟨rfl, hb⟩
  by_cases hs : p.size ≤ 40
  · rw [decide_eq_true hs]
    cases B2
    · go_enter Tryd.func15, Tryd.ntmps15
      go_wp2_with fail
      refine (h1 _).mono ?_
      rintro e w' ⟨rfl, rfl⟩
      go_wp2_with fail
      refine (h2 _).mono ?_
      rintro e w' ⟨rfl, rfl⟩
      go_wp2
      go_ret
      exact ⟨rfl, hb⟩
    cases B3
    all_goals
      go_enter Tryd.func15, Tryd.ntmps15
      go_wp2_with fail
      refine (h1 _).mono ?_
      rintro e w' ⟨rfl, rfl⟩
      go_wp2_with fail
      refine (h2 _).mono ?_
      rintro e w' ⟨rfl, rfl⟩
      go_wp2_with fail
      refine (h3 _).mono ?_
      rintro e w' ⟨rfl, rfl⟩
      go_wp2
      go_ret
      exact ⟨rfl, hb⟩
  · rw [decide_eq_false hs]
    go_enter Tryd.func15, Tryd.ntmps15
    go_wp2_with fail
    refine (h1 _).mono ?_
    rintro e w' ⟨rfl, rfl⟩
    go_wp2
    go_ret
    exact ⟨rfl, hb⟩
end Go.Proofs.YtbhnjnoblkfckabDoor
