/- Houses that came in, opened. -/
import Derived.Test.YtbhnjnoblkfckaaGreatDoorGZ01
import Derived.Deep.SlicePairs
import Derived.Deep.Strs
import Derived.WideShapes
import Derived.ChangeArms
import Derived.ChangeSame
namespace Go.Proofs.YtbhnjnoblkfckaaGreatDoor
open Go.RowKit Go.ChangeShapes Go.WideShapes Go.Deep

theorem cellsStrH : Tryz.prog.cellsOf 9 = 1 := by kernel_rfl
theorem cellsHs : Tryz.prog.cellsOf 24 = 4 := by kernel_rfl
theorem addr_plus {a : Addr} (hspot : a.spot = none) (k : Nat) : a.add k = ⟨a.block, a.off + k, none⟩ := by
  obtain ⟨b, off, spot⟩ := a
  simp only at hspot
  subst hspot
  unfold Addr.add; split <;> simp_all

theorem open_srow {H : Type} {enc : TypeId × Value → H} {W : World} {base : Nat} {held : Bool} {fuel : Nat} {v : Value} {x : DataW H × List MemPlace} (h : DataW.trod enc Tryz.prog W base (fun _ => true) held fuel 22 [v] = some x) :
    ∃ L, NRow W v L ∧ NOk L maxLen := by
  rcases open_strs Tryz.underlying22 Tryz.underlying9 cellsStrH h with ⟨hcs, _⟩ | ⟨a, len, cap, m, Sx, hcs, _, hl, hc, hm, _, hx⟩
  · simp only [List.cons.injEq, and_true] at hcs
    subst hcs
    exact ⟨[], ⟨none, 0, rfl, Nat.le_refl _, Nat.zero_le _, fun j f hj => by simp at hj⟩, fun s hs => by simp at hs⟩
  · simp only [List.cons.injEq, and_true] at hcs
    subst hcs
    have hlm : len ≤ m := by rw [hm]; simpa using hl
    have hget : ∀ j s, ((List.range len).map Sx)[j]? = some s → j < len ∧ Sx j = s := fun j s hj => by
      rw [List.getElem?_map] at hj
      rcases Nat.lt_or_ge j len with h | h
      · rw [List.getElem?_range h] at hj
        exact ⟨h, by simpa using hj⟩
      · rw [List.getElem?_eq_none (by simpa using h)] at hj; cases hj
    refine ⟨(List.range len).map Sx, ⟨some a, cap, by simp, by simpa using hl, hc, fun j s hj => ?_⟩, fun s hs => ?_⟩
    · obtain ⟨hj1, rfl⟩ := hget j s hj
      have c0 := (hx j (by omega)).1
      have hspot : a.spot = none := by have q := World.cell?_spot (hx 0 (by omega)).1; simpa [Addr.add] using q
      rw [addr_plus hspot] at c0
      refine ⟨a.block, a.off, ?_, World.block_lt_of_cell? W ⟨a.block, a.off + j, none⟩ c0, c0⟩
      obtain ⟨b, off, spot⟩ := a
      simp only at hspot
      subst hspot; rfl
    · obtain ⟨j, hj, rfl⟩ := List.mem_map.1 hs
      exact (hx j (by have := List.mem_range.1 hj; omega)).2

end Go.Proofs.YtbhnjnoblkfckaaGreatDoor
