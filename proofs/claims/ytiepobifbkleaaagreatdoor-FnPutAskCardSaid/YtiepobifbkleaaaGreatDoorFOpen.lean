/- A list of fields that came in, opened. -/
import Derived.Test.YtiepobifbkleaaaGreatDoorFld
import Derived.Deep.SlicePairs
import Derived.WideShapes
import Derived.ChangeArms
namespace Go.Proofs.YtiepobifbkleaaaGreatDoor
open Go.RowKit Go.ChangeShapes Go.WideShapes Go.Deep

theorem cellsStrF : Tryz.prog.cellsOf 9 = 1 := by kernel_rfl
theorem cellsFd : Tryz.prog.cellsOf 171 = 2 := by kernel_rfl

theorem open_frow {H : Type} {enc : TypeId × Value → H} {W : World} {v : Value} {d : DataW H} {p : List MemPlace} {base : Nat} {held : Bool} (hv : ∃ a len cap, v = .slice a len cap) (h : DataW.Trod enc Tryz.prog W base (fun _ => true) held 66 v d p) :
    ∃ fs, FRow W v fs ∧ FOk fs maxLen := by
  obtain ⟨va, vlen, vcap, rfl⟩ := hv
  obtain ⟨fuel, hf⟩ := h
  rcases open_slice_pairs Tryz.underlying66 Tryz.underlying171 cellsFd rfl rfl cellsStrF cellsStrF hf with ⟨hcs, _⟩ | ⟨a, len, cap, m, n, V0, V1, D0, D1, P0, P1, hcs, _, hl, hc, hm, _, hx⟩
  · simp [Value.cells] at hcs
    obtain ⟨rfl, rfl, rfl⟩ := hcs
    exact ⟨[], ⟨none, 0, rfl, Nat.le_refl _, Nat.zero_le _, fun j f hj => by simp at hj⟩, fun f hf => by simp at hf⟩
  · simp [Value.cells] at hcs
    obtain ⟨rfl, rfl, rfl⟩ := hcs
    have hlm : vlen ≤ m := by rw [hm]; simpa using hl
    have each : ∀ i, i < m → ∃ f : Fd, W.cell? (a.add (i * 2)) = some (.string f.1) ∧ W.cell? (a.add (i * 2 + 1)) = some (.string f.2) ∧ f.1.size ≤ maxLen ∧ f.2.size ≤ maxLen := fun i hi => by
      obtain ⟨q0, q1, t0, t1⟩ := hx i hi
      obtain ⟨s0, e0, _, z0⟩ := DataW.trod_string Tryz.underlying9 t0
      obtain ⟨s1, e1, _, z1⟩ := DataW.trod_string Tryz.underlying9 t1
      simp only [List.cons.injEq, and_true] at e0 e1
      exact ⟨(s0, s1), by rw [q0, e0], by rw [q1, e1], z0, z1⟩
    obtain ⟨F, hF⟩ := choose_lt each
    have hget : ∀ j f, ((List.range vlen).map F)[j]? = some f → j < vlen ∧ F j = f := fun j f hj => by
      rw [List.getElem?_map] at hj
      rcases Nat.lt_or_ge j vlen with h | h
      · rw [List.getElem?_range h] at hj
        exact ⟨h, by simpa using hj⟩
      · rw [List.getElem?_eq_none (by simpa using h)] at hj; cases hj
    refine ⟨(List.range vlen).map F, ⟨some a, vcap, by simp, by simpa using hl, hc, fun j f hj => ?_⟩, fun f hf => ?_⟩
    · obtain ⟨hj1, hj2⟩ := hget j f hj
      obtain ⟨q0, q1, _, _⟩ := hF j (by omega)
      rw [hj2] at q0 q1
      obtain ⟨b, off, spot⟩ := a
      have hspot : spot = none := by have q := World.cell?_spot (hF 0 (by omega)).1; simpa [Addr.add] using q
      subst hspot
      have ea : ∀ k, (⟨b, off, none⟩ : Addr).add k = ⟨b, off + k, none⟩ := fun k => by unfold Addr.add; split <;> simp_all
      rw [ea] at q0 q1
      exact ⟨b, off, rfl, World.block_lt_of_cell? W _ q0, q0, q1⟩
    · obtain ⟨j, hj, rfl⟩ := List.mem_map.1 hf
      obtain ⟨_, _, z0, z1⟩ := hF j (by have := List.mem_range.1 hj; omega)
      exact ⟨z0, z1⟩
end Go.Proofs.YtiepobifbkleaaaGreatDoor
