/- Walks: seals, by the program. -/
import Derived.Test.YtbhnjnoblkfckabGreatDoorSlP
import Derived.Test.YtbhnjnoblkfckabGreatDoorRngK
import Derived.Test.YtbhnjnoblkfckabGreatDoorRegI
import Derived.Test.YtbhnjnoblkfckabGreatDoorProg
import Derived.RangeFuncBound
import Derived.RangeFuncCalls
import Derived.RangeFuncLeaves
import Derived.Shelf.Abstract
import Derived.Shelf.RegionOpen
import Derived.OwnWalkIn
import Derived.TacticsInMore
import Derived.LoopNIn
import Derived.LoopIn
namespace Go.Proofs.YtbhnjnoblkfckabGreatDoor
open Go.RowKit Go.Shelf
attribute [local go_sem] Oper.semAt_some

theorem sl_facts {W : World} {b : Nat} {a c d e f : Value} {T : TypeId} (h : W.heap[b]? = some (.cells #[a, c, d, e, f] T (0, 0))) :
    W.cell? ⟨b, 0, none⟩ = some a ∧ W.cell? ⟨b, 1, none⟩ = some c ∧ W.cell? ⟨b, 2, none⟩ = some d ∧ W.cell? ⟨b, 3, none⟩ = some e ∧ W.cell? ⟨b, 4, none⟩ = some f := by
  refine ⟨?_, ?_, ?_, ?_, ?_⟩ <;> simp [World.cell?, h]

set_option maxHeartbeats 400000 in
theorem sl_count (n hi : Int) (w : World) :
    Calls Tryz.prog 143 #[.int .i64 n, .int .i64 hi] w fun e w' => e = .returned (.bool (decide (1 ≤ n) && decide (n ≤ hi))) ∧ w = w' := by
  by_cases h1 : 1 ≤ n
  · by_cases h2 : n ≤ hi
    all_goals
      go_enter Tryz.func143, Tryz.ntmps143
      go_wp2
      go_ret
      exact ⟨by simp [h1, h2], rfl⟩
  · go_enter Tryz.func143, Tryz.ntmps143
    go_wp2
    go_ret
    exact ⟨by simp; omega, rfl⟩
set_option maxHeartbeats 400000 in
theorem sl_num (n : Int) (w : World) :
    Calls Tryz.prog 54 #[.int .i64 n] w fun e w' => e = .returned (.bool (decide (0 ≤ n ∧ n ≤ 999999))) ∧ w = w' := by
  by_cases h0 : 0 ≤ n
  · by_cases h1 : n ≤ 999999
    · rw [decide_eq_true ⟨h0, h1⟩]
      go_enter Tryz.func54, Tryz.ntmps54
      go_wp2
      go_ret
      exact ⟨rfl, rfl⟩
    · rw [decide_eq_false (fun h => h1 h.2)]
      go_enter Tryz.func54, Tryz.ntmps54
      go_wp2
      go_ret
      exact ⟨rfl, rfl⟩
  · rw [decide_eq_false (fun h => h0 h.1)]
    go_enter Tryz.func54, Tryz.ntmps54
    go_wp2
    go_ret
    exact ⟨rfl, rfl⟩
def txS (u : Bool) : ByteArray := if u then ⟨#[97, 108, 108]⟩ else ⟨#[111, 110, 101]⟩
set_option maxHeartbeats 400000 in
theorem scope_of (u : Bool) (w : World) :
    Calls Tryz.prog 95 #[.bool u] w fun e w' => e = .returned (.agg #[.string (txS u), .int .i64 (numS u)]) ∧ Below w.heap.size w w' := by
  unfold txS numS
  have hb : ∀ a c, Below w.heap.size w (((w.alloc (.cells #[.string ⟨#[]⟩, .int .i64 0] 117)).setCell ⟨w.heap.size, 0, none⟩ a).setCell ⟨w.heap.size, 1, none⟩ c) := fun a c =>
    (((Below.refl _ _).alloc (Nat.le_refl _) _).setCell (p := ⟨w.heap.size, 0, none⟩) (Nat.le_refl _) a).setCell (p := ⟨w.heap.size, 1, none⟩) (Nat.le_refl _) c
  cases u
  · go_enter Tryz.func95, Tryz.ntmps95
    go_wp2
    exact bodyPost_ret (v := .agg #[.string ⟨#[111, 110, 101]⟩, .int .i64 2]) (by simp [results, Tryz.results95, go_sem]) rfl ⟨rfl, by first | exact hb _ _ | exact (Below.refl _ _).alloc (Nat.le_refl _) _⟩
  · go_enter Tryz.func95, Tryz.ntmps95
    go_wp2
    exact bodyPost_ret (v := .agg #[.string ⟨#[97, 108, 108]⟩, .int .i64 1]) (by simp [results, Tryz.results95, go_sem]) rfl ⟨rfl, by first | exact hb _ _ | exact (Below.refl _ _).alloc (Nat.le_refl _) _⟩

end Go.Proofs.YtbhnjnoblkfckabGreatDoor
