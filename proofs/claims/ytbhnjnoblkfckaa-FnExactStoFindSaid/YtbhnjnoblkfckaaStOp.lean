/- Storage that came in, opened. -/
import Derived.Test.YtbhnjnoblkfckaaStE2
import Derived.Test.YtbhnjnoblkfckaaShelf
import Derived.Deep.SlicePairs
import Derived.Deep.Strs
import Derived.WideShapes
import Derived.ChangeArms
import Derived.ChangeSame
namespace Go.Proofs.Ytbhnjnoblkfckaa
open Go.RowKit Go.ChangeShapes Go.WideShapes Go.Deep

theorem cellsEnL : Try.prog.cellsOf 54 = 9 := by kernel_rfl
theorem cellsStL : Try.prog.cellsOf 24 = 1 := by kernel_rfl
theorem addr_plusE {a : Addr} (hspot : a.spot = none) (k : Nat) : a.add k = ⟨a.block, a.off + k, none⟩ := by
  obtain ⟨b, off, spot⟩ := a
  simp only at hspot
  subst hspot
  unfold Addr.add; split <;> simp_all

set_option maxRecDepth 100000 in
set_option maxHeartbeats 1600000 in
theorem open_entryC {H : Type} {enc : TypeId × Value → H} {W : World} {base : Nat} {held : Bool} {fuel : Nat} {cs : List Value} {x : DataW H × List MemPlace} (hl : cs.length = 9) (h : DataW.trod enc Try.prog W base (fun _ => true) held fuel 54 cs = some x) :
    ∃ e : En, cs = enL e ∧ EnOk maxLen e := by
  obtain ⟨xs, k, hk, hxy, _, hxl, hf⟩ := DataW.trod_struct Try.underlying54 h
  match xs, hxl, cs, hl with
  | [y0, y1, y2, y3], _, [v0, v1, v2, v3, v4, v5, v6, v7, v8], _ =>
    have g0 := hf 0 _ rfl
    have g1 := hf 1 _ rfl
    have g2 := hf 2 _ rfl
    have g3 := hf 3 _ rfl
    obtain ⟨s0, e0, _, z0⟩ := DataW.trod_string Try.underlying9 (show DataW.trod enc Try.prog W base (fun _ => true) held k 9 [v0] = some y0 from g0)
    obtain ⟨n1, e1, _, z1⟩ := DataW.trod_int Try.underlying3 (show DataW.trod enc Try.prog W base (fun _ => true) held k 3 [v1] = some y1 from g1)
    obtain ⟨n3, e3, _, _⟩ := DataW.trod_int Try.underlying3 (show DataW.trod enc Try.prog W base (fun _ => true) held k 3 [v8] = some y3 from g3)
    have g2' : DataW.trod enc Try.prog W base (fun _ => true) held k 52 [v2, v3, v4, v5, v6, v7] = some y2 := g2
    obtain ⟨xr, kr, _, _, _, hrl, hr⟩ := DataW.trod_struct Try.underlying52 g2'
    match xr, hrl with
    | [r0, r1, r2, r3, r4, r5], _ =>
      have f0 := hr 0 _ rfl
      have f1 := hr 1 _ rfl
      have f2 := hr 2 _ rfl
      have f3 := hr 3 _ rfl
      have f4 := hr 4 _ rfl
      have f5 := hr 5 _ rfl
      obtain ⟨m0, d0, _, _⟩ := DataW.trod_int Try.underlying3 (show DataW.trod enc Try.prog W base (fun _ => true) held kr 3 [v2] = some r0 from f0)
      obtain ⟨m1, d1, _, _⟩ := DataW.trod_int Try.underlying3 (show DataW.trod enc Try.prog W base (fun _ => true) held kr 3 [v3] = some r1 from f1)
      obtain ⟨m2, d2, _⟩ := DataW.trod_bool Try.underlying4 (show DataW.trod enc Try.prog W base (fun _ => true) held kr 4 [v4] = some r2 from f2)
      obtain ⟨m3, d3, _, z3⟩ := DataW.trod_string Try.underlying9 (show DataW.trod enc Try.prog W base (fun _ => true) held kr 9 [v5] = some r3 from f3)
      obtain ⟨m4, d4, _, _⟩ := DataW.trod_int Try.underlying3 (show DataW.trod enc Try.prog W base (fun _ => true) held kr 3 [v6] = some r4 from f4)
      obtain ⟨m5, d5, _, z5⟩ := DataW.trod_string Try.underlying9 (show DataW.trod enc Try.prog W base (fun _ => true) held kr 9 [v7] = some r5 from f5)
      simp only [List.cons.injEq, and_true] at e0 e1 e3 d0 d1 d2 d3 d4 d5
      subst e0 e1 e3 d0 d1 d2 d3 d4 d5
      exact ⟨⟨s0, n1, ⟨m0, m1, m2, m3, m4, m5⟩, n3⟩, rfl, z0, z3, z5, z1⟩

set_option maxRecDepth 100000 in
set_option maxHeartbeats 1600000 in
theorem open_erow {H : Type} {enc : TypeId × Value → H} {W : World} {base : Nat} {held : Bool} {fuel : Nat} {v : Value} {x : DataW H × List MemPlace} (h : DataW.trod enc Try.prog W base (fun _ => true) held fuel 22 [v] = some x) :
    ∃ L, ERow W v L ∧ EnsOk maxLen L := by
  rcases open_slice Try.underlying22 h with ⟨hcs, _⟩ | ⟨a, len, cap, m, n, D, Pl, hcs, _, hl, hc, hm, _, hx⟩
  · simp only [List.cons.injEq, and_true] at hcs
    subst hcs
    exact ⟨[], erow_nil W, fun s hs => by simp at hs⟩
  · simp only [List.cons.injEq, and_true] at hcs
    subst hcs
    have hlm : len ≤ m := by rw [hm]; simpa using hl
    have each : ∀ i, i < m → ∃ e : En, (∀ j y, (enL e)[j]? = some y → W.cell? (a.add (i * 9 + j)) = some y) ∧ EnOk maxLen e := fun i hi => by
      obtain ⟨cs', h1, h2⟩ := hx i hi
      rw [cellsEnL] at h1
      obtain ⟨_, hlen, hcell⟩ := World.cells?_some h1
      obtain ⟨e, rfl, hE⟩ := open_entryC hlen h2
      refine ⟨e, fun j y hy => ?_, hE⟩
      have hj := (List.getElem?_eq_some_iff.1 hy).1
      have e0 := hcell j (by omega)
      rw [add_add] at e0
      rw [e0]
      have := (List.getElem?_eq_some_iff.1 hy).2
      simp [← this]
    have : Inhabited En := ⟨noEn⟩
    obtain ⟨q, hq⟩ := choose_lt each
    have hget : ∀ j s, ((List.range len).map fun i => q i)[j]? = some s → j < len ∧ q j = s := fun j s hj => by
      rw [List.getElem?_map] at hj
      rcases Nat.lt_or_ge j len with h | h
      · rw [List.getElem?_range h] at hj
        exact ⟨h, by simpa using hj⟩
      · rw [List.getElem?_eq_none (by simpa using h)] at hj; cases hj
    refine ⟨(List.range len).map fun i => q i, ⟨some a, cap, by simp, by simpa using hl, hc, fun j s hj => ?_⟩, fun s hs => ?_⟩
    · obtain ⟨hj1, rfl⟩ := hget j s hj
      have hspot : a.spot = none := by have z := World.cell?_spot ((hq 0 (by omega)).1 0 _ rfl); simpa [Addr.add] using z
      have hc := (hq j (by omega)).1
      refine ⟨a.block, a.off, ?_, ?_, EAt.all fun i y hy => ?_⟩
      · obtain ⟨b, off, spot⟩ := a
        simp only at hspot
        subst hspot; rfl
      · have h0 := hc 0 _ rfl
        rw [addr_plusE hspot] at h0
        exact World.block_lt_of_cell? W ⟨a.block, a.off + (j * 9 + 0), none⟩ h0
      · have h0 := hc i y hy
        rw [addr_plusE hspot] at h0
        rw [Nat.add_assoc]; exact h0
    · obtain ⟨j, hj, rfl⟩ := List.mem_map.1 hs
      exact (hq j (by have := List.mem_range.1 hj; omega)).2

set_option maxRecDepth 100000 in
theorem open_store {H : Type} {enc : TypeId × Value → H} {W : World} {r : Reach} {b0 base : Nat} {held : Bool} {v : Value} {d : DataW H} {p : List MemPlace} (hv : Value.okWide Try.prog W r b0 24 v) (h : DataW.Trod enc Try.prog W base (fun _ => true) held 24 v d p) :
    ∃ (u : Value) (L : List En), v = .agg #[u] ∧ ERow W u L ∧ EnsOk maxLen L := by
  obtain ⟨cs, rfl, hsz⟩ := okWide_struct Try.underlying24 hv
  obtain ⟨c0, rfl⟩ : ∃ c0, cs = #[c0] := by
    have := hsz.trans cellsStL
    obtain ⟨l⟩ := cs
    match l, this with
    | [c0], _ => exact ⟨c0, rfl⟩
  obtain ⟨fuel, hf⟩ := h
  obtain ⟨y0, n, _, _, h0⟩ := trod_struct1 Try.underlying24 hf
  have h0' : DataW.trod enc Try.prog W base (fun _ => true) held n 22 [c0] = some y0 := h0
  obtain ⟨L, hL, hN⟩ := open_erow h0'
  exact ⟨c0, L, rfl, hL, hN⟩
end Go.Proofs.Ytbhnjnoblkfckaa
