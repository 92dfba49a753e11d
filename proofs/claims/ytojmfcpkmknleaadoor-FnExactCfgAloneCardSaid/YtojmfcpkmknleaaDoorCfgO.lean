/- Houses that came in, opened. -/
import Derived.Test.YtojmfcpkmknleaaDoorCfgP
import Derived.Deep.SlicePairs
import Derived.Deep.Strs
import Derived.WideShapes
import Derived.ChangeArms
import Derived.ChangeSame
namespace Go.Proofs.YtojmfcpkmknleaaDoor
open Go.RowKit Go.ChangeShapes Go.WideShapes Go.Deep

theorem cellsStrH : Tryd.prog.cellsOf 9 = 1 := by kernel_rfl
theorem cellsHs : Tryd.prog.cellsOf 88 = 4 := by kernel_rfl
theorem cellsCf : Tryd.prog.cellsOf 41 = 1 := by kernel_rfl

theorem addr_plus {a : Addr} (hspot : a.spot = none) (k : Nat) : a.add k = ⟨a.block, a.off + k, none⟩ := by
  obtain ⟨b, off, spot⟩ := a
  simp only at hspot
  subst hspot
  unfold Addr.add; split <;> simp_all

theorem open_srow {H : Type} {enc : TypeId × Value → H} {W : World} {base : Nat} {held : Bool} {fuel : Nat} {v : Value} {x : DataW H × List MemPlace} (h : DataW.trod enc Tryd.prog W base (fun _ => true) held fuel 31 [v] = some x) :
    ∃ L, SRow W v L ∧ NOk L maxLen := by
  rcases open_strs Tryd.underlying31 Tryd.underlying9 cellsStrH h with ⟨hcs, _⟩ | ⟨a, len, cap, m, Sx, hcs, _, hl, hc, hm, _, hx⟩
  · simp only [List.cons.injEq, and_true] at hcs
    subst hcs
    exact ⟨[], ⟨none, 0, rfl, Nat.le_refl _, Nat.zero_le _, fun j f hj => by simp at hj⟩, fun s hs => by simp at hs⟩
  · simp only [List.cons.injEq, and_true] at hcs
    subst hcs
    have hlm : len ≤ m := by rw [hm]; simpa using hl
    have hget : ∀ j s, ((List.range len).map Sx)[j]? = some s → j < len ∧ Sx j = s := fun j s hj => by
      rw [List.getElem?_map] at hj
      rcases Nat.lt_or_ge j len with h | h
      · rw [List.getElem?_range h] at hj
        exact ⟨h, by simpa using hj⟩
      · rw [List.getElem?_eq_none (by simpa using h)] at hj; cases hj
    refine ⟨(List.range len).map Sx, ⟨some a, cap, by simp, by simpa using hl, hc, fun j s hj => ?_⟩, fun s hs => ?_⟩
    · obtain ⟨hj1, rfl⟩ := hget j s hj
      have c0 := (hx j (by omega)).1
      have hspot : a.spot = none := by have q := World.cell?_spot (hx 0 (by omega)).1; simpa [Addr.add] using q
      rw [addr_plus hspot] at c0
      refine ⟨a.block, a.off, ?_, World.block_lt_of_cell? W ⟨a.block, a.off + j, none⟩ c0, c0⟩
      obtain ⟨b, off, spot⟩ := a
      simp only at hspot
      subst hspot; rfl
    · obtain ⟨j, hj, rfl⟩ := List.mem_map.1 hs
      exact (hx j (by have := List.mem_range.1 hj; omega)).2

set_option maxRecDepth 100000 in
theorem open_hrow {H : Type} {enc : TypeId × Value → H} {W : World} {base : Nat} {held : Bool} {fuel : Nat} {v : Value} {x : DataW H × List MemPlace} (h : DataW.trod enc Tryd.prog W base (fun _ => true) held fuel 39 [v] = some x) :
    ∃ hs, HRow W v hs ∧ HOks hs maxLen := by
  rcases open_slice Tryd.underlying39 h with ⟨hcs, _⟩ | ⟨a, len, cap, m, n, D, Pl, hcs, _, hl, hc, hm, _, hx⟩
  · simp only [List.cons.injEq, and_true] at hcs
    subst hcs
    exact ⟨[], ⟨none, 0, rfl, Nat.le_refl _, Nat.zero_le _, fun j f hj => by simp at hj⟩, fun s hs => by simp at hs⟩
  · simp only [List.cons.injEq, and_true] at hcs
    subst hcs
    have hlm : len ≤ m := by rw [hm]; simpa using hl
    have each : ∀ i, i < m → ∃ q : Hs × Value, W.cell? (a.add (i * 4)) = some q.2 ∧ SRow W q.2 q.1.names ∧ NOk q.1.names maxLen ∧ W.cell? (a.add (i * 4 + 1)) = some (.int .i64 q.1.key) ∧ W.cell? (a.add (i * 4 + 2)) = some (.int .i64 q.1.maxN) ∧ W.cell? (a.add (i * 4 + 3)) = some (.int .i64 q.1.maxB) := fun i hi => by
      obtain ⟨cs', h1, h2⟩ := hx i hi
      rw [cellsHs] at h1
      obtain ⟨_, hlen, hcell⟩ := World.cells?_some h1
      obtain ⟨xs, k, hk, hxy, _, hxl, hf⟩ := DataW.trod_struct Tryd.underlying88 h2
      match xs, hxl, cs', hlen with
      | [y0, y1, y2, y3], _, [v0, v1, v2, v3], _ =>
        have g0 := hf 0 _ rfl
        have g1 := hf 1 _ rfl
        have g2 := hf 2 _ rfl
        have g3 := hf 3 _ rfl
        have e0 := hcell 0 (by omega)
        have e1 := hcell 1 (by omega)
        have e2 := hcell 2 (by omega)
        have e3 := hcell 3 (by omega)
        rw [add_add] at e0 e1 e2 e3
        obtain ⟨L, hL1, hL2⟩ := open_srow (v := v0) g0
        obtain ⟨n1, z1, _, _⟩ := DataW.trod_int Tryd.underlying3 (show DataW.trod enc Tryd.prog W base (fun _ => true) held k 3 [v1] = some y1 from g1)
        obtain ⟨n2, z2, _, _⟩ := DataW.trod_int Tryd.underlying3 (show DataW.trod enc Tryd.prog W base (fun _ => true) held k 3 [v2] = some y2 from g2)
        obtain ⟨n3, z3, _, _⟩ := DataW.trod_int Tryd.underlying3 (show DataW.trod enc Tryd.prog W base (fun _ => true) held k 3 [v3] = some y3 from g3)
        simp only [List.cons.injEq, and_true] at z1 z2 z3
        subst z1 z2 z3
        exact ⟨(⟨L, n1, n2, n3⟩, v0), by simpa using e0, hL1, hL2, by simpa using e1, by simpa using e2, by simpa using e3⟩
    have : Inhabited (Hs × Value) := ⟨(⟨[], 0, 0, 0⟩, .int .i64 0)⟩
    obtain ⟨q, hq⟩ := choose_lt each
    have hget : ∀ j s, ((List.range len).map fun i => (q i).1)[j]? = some s → j < len ∧ (q j).1 = s := fun j s hj => by
      rw [List.getElem?_map] at hj
      rcases Nat.lt_or_ge j len with h | h
      · rw [List.getElem?_range h] at hj
        exact ⟨h, by simpa using hj⟩
      · rw [List.getElem?_eq_none (by simpa using h)] at hj; cases hj
    refine ⟨(List.range len).map fun i => (q i).1, ⟨some a, cap, by simp, by simpa using hl, hc, fun j s hj => ?_⟩, fun s hs => ?_⟩
    · obtain ⟨hj1, rfl⟩ := hget j s hj
      obtain ⟨c0, hS, _, c1, c2, c3⟩ := hq j (by omega)
      have hspot : a.spot = none := by have z := World.cell?_spot (hq 0 (by omega)).1; simpa [Addr.add] using z
      rw [addr_plus hspot] at c0 c1 c2 c3
      refine ⟨a.block, a.off, (q j).2, ?_, World.block_lt_of_cell? W ⟨a.block, a.off + j * 4, none⟩ c0, c0, hS, c1, c2, c3⟩
      obtain ⟨b, off, spot⟩ := a
      simp only at hspot
      subst hspot; rfl
    · obtain ⟨j, hj, rfl⟩ := List.mem_map.1 hs
      exact (hq j (by have := List.mem_range.1 hj; omega)).2.2.1

set_option maxRecDepth 100000 in
theorem open_cfg {H : Type} {enc : TypeId × Value → H} {W : World} {r : Reach} {b0 base : Nat} {held : Bool} {v : Value} {d : DataW H} {p : List MemPlace} (hv : Value.okWide Tryd.prog W r b0 41 v) (h : DataW.Trod enc Tryd.prog W base (fun _ => true) held 41 v d p) :
    ∃ (u : Value) (hs : List Hs), v = .agg #[u] ∧ HRow W u hs ∧ HOks hs maxLen := by
  obtain ⟨cs, rfl, hsz⟩ := okWide_struct Tryd.underlying41 hv
  obtain ⟨c0, rfl⟩ : ∃ c0, cs = #[c0] := by
    have := hsz.trans cellsCf
    obtain ⟨l⟩ := cs
    match l, this with
    | [c0], _ => exact ⟨c0, rfl⟩
  obtain ⟨fuel, hf⟩ := h
  obtain ⟨y0, n, _, _, h0⟩ := trod_struct1 Tryd.underlying41 hf
  have h0' : DataW.trod enc Tryd.prog W base (fun _ => true) held n 39 [c0] = some y0 := h0
  obtain ⟨hs, hH, hN⟩ := open_hrow h0'
  exact ⟨c0, hs, rfl, hH, hN⟩
end Go.Proofs.YtojmfcpkmknleaaDoor
