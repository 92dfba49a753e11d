/- A map of lists of numbers that the call itself makes: what a look-up gives in whatever world; no function of the program. -/
import Derived.Test.YtncegikmpapldaaGreatDoorOwn2
import Derived.Maps.OwnRows
import Derived.Maps.Views
namespace Go.Proofs.YtncegikmpapldaaGreatDoor
open Go.RowKit
open Go.WideElems (Fit rd_val)
open Go.Maps (Keyed)

theorem grown_set (w : World) (b k : Nat) (x : Value) : w.grownBy (w.setCell ⟨b, k, none⟩ x) (some b) := ⟨rfl, rfl, rfl, by simp, fun j _ hj => heap_setCell_other w ⟨b, k, none⟩ j _ (fun e => hj (by simp [e]))⟩
theorem below_set {w w3 : World} {b k : Nat} {x : Value} (h : Below b w w3) : Below b w (w3.setCell ⟨b, k, none⟩ x) :=
  ⟨h.os, h.tape, h.output, by simpa using h.size, fun j hj => (heap_setCell_other w3 ⟨b, k, none⟩ j _ (by simp; omega)).trans (h.block j hj)⟩
theorem pw_get {α : Type} {R : α → α → Prop} {l : List α} (h : l.Pairwise R) {i j : Nat} {a b : α} (hi : l[i]? = some a) (hj : l[j]? = some b) (hij : i < j) : R a b := by
  obtain ⟨h1, rfl⟩ := List.getElem?_eq_some_iff.1 hi
  obtain ⟨h2, rfl⟩ := List.getElem?_eq_some_iff.1 hj
  exact List.pairwise_iff_getElem.1 h i j h1 h2 hij

section
variable {H : Type} {P : Program} {k : TypeId} {w w' : World} {base : Nat} {e : TypeId} {q : IntKind} {b n : Nat} {D : DataW H}

theorem groups_grown {row : Option Nat} (h : w.ownsGroups P k base e q b n D) (hg : w.grownBy w' row) (hr : ∀ r, row = some r → r < b) : w'.ownsGroups P k base e q b n D := by
  obtain ⟨es, clock, hb0, F, hs, rfl, hbb, hlen, hap⟩ := h
  have own : ∀ {v : Value} {zs : List Int}, w.ownsInts base e q v zs → w'.ownsInts base e q v zs := fun {v zs} ho => ho.kept hg (by
    cases hv : v.ownBlock with
    | none => exact .inl rfl
    | some g =>
      refine .inr fun e1 => ?_
      have := (ho.1.lt g hv).1
      have := hr g e1.symm
      omega)
  obtain ⟨F1, hmap, _⟩ := F.stay (R' := rowElem w' base e q) (fun x _ z hz => by
    obtain ⟨zs, ho, rfl⟩ := rowElem_inv hz
    exact rowElem_mk (own ho))
  have hlt : b < w.heap.size := (Array.getElem?_eq_some_iff.1 hb0).1
  refine ⟨es, clock, (hg.block b hlt (fun e1 => by have := hr b e1.symm; omega)).trans hb0, F1, hs, by rw [hmap], hbb, fun x hx zs ho => ?_, hap⟩
  obtain ⟨y, hy⟩ := F.reads x hx
  obtain ⟨z, hz, _⟩ := rd_val hy
  obtain ⟨zs0, ho0, _⟩ := rowElem_inv hz
  rw [ho.unique (own ho0)]
  exact hlen x hx zs0 ho0
theorem groups_below (h : w.ownsGroups P k base e q b n D) (hb : Below w.heap.size w w') : w'.ownsGroups P k base e q b n D := groups_grown h (grown_of_below hb none) (fun _ e => by cases e)

/-- 'm[k]' on such a map, in whatever world has the same block. -/
theorem groups_at {t E : TypeId} {key : Value} {kl : Lit} (h : w.ownsGroups P k base e q b n D) (K : Keyed P k) (ht : P.underlying t = some (.map k E)) (hz : ∀ w', (zeroValue E).run P w' = .ok (.slice none 0 0) w') (hn : n < maxLen) (hkey : keyOf P k key = some kl) :
    ∃ v zs, (∀ w' : World, w'.heap[b]? = w.heap[b]? → (Instr.lookup t (.map (some b)) key false).run P w' = .ok v w') ∧ D.atKey kl .nil = rowDatum q v zs ∧ w.ownsInts base e q v zs ∧ zs.length ≤ n ∧ w.groupBack P t k base e q b n D key kl v := by
  obtain ⟨v, zs, hrun, h1, h2, h3, h4⟩ := h.at K ht (hz w) hn hkey
  refine ⟨v, zs, fun w' hw => ?_, h1, h2, h3, h4⟩
  obtain ⟨es, clock, hb, F, hs, rfl, hbb, hlen, hap⟩ := h
  have hb' := hw.trans hb
  have keys : ∀ x ∈ es.toList, ∃ l, keyOf P k x.key = some l := fun x hx => by
    obtain ⟨y, hy⟩ := F.reads x hx
    exact ⟨_, Go.WideElems.rd_key hy⟩
  have apart : es.toList.Pairwise (fun x y => x.key ≠ y.key) := ((MapKept.stamped_iff es clock).1 F.stamped).2.2
  have one : ∀ {i j : Nat} {x y : MapEntry}, es.toList[i]? = some x → es.toList[j]? = some y → x.key = y.key → i = j := by
    intro i j x y hi hj hxy
    rcases Nat.lt_trichotomy i j with h | h | h
    · exact absurd hxy (pw_get apart hi hj h)
    · exact h
    · exact absurd hxy.symm (pw_get apart hj hi h)
  rcases K.find w hkey es.toList keys with ⟨g1, g2⟩ | ⟨j, e0, g1, g2, g3⟩
  · rcases K.find w' hkey es.toList keys with ⟨k1, _⟩ | ⟨j', e1, _, k2, k3⟩
    · have r1 : (Instr.lookup t (.map (some b)) key false).run P w = .ok (.slice none 0 0) w := by simp [Instr.lookup, run_underlying ht, MapKept.run_getObj_map hb, K.check w _ hkey, g1, hz, Result.andThen]
      have ev : v = .slice none 0 0 := by rw [r1] at hrun; cases hrun; rfl
      rw [ev]
      simp [Instr.lookup, run_underlying ht, MapKept.run_getObj_map hb', K.check w' _ hkey, k1, hz, Result.andThen]
    · exact absurd k3 (g2 e1 (List.mem_of_getElem? k2))
  · have r1 : (Instr.lookup t (.map (some b)) key false).run P w = .ok e0.val w := by simp [Instr.lookup, run_underlying ht, MapKept.run_getObj_map hb, K.check w _ hkey, g1, Result.andThen]
    have ev : v = e0.val := by rw [r1] at hrun; cases hrun; rfl
    rw [ev]
    rcases K.find w' hkey es.toList keys with ⟨_, k2⟩ | ⟨j', e1, k1, k2, k3⟩
    · exact absurd g3 (k2 e0 (List.mem_of_getElem? g2))
    · have hj := one g2 k2 (g3.trans k3.symm)
      subst hj
      rw [g2] at k2
      cases k2
      simp [Instr.lookup, run_underlying ht, MapKept.run_getObj_map hb', K.check w' _ hkey, k1, Result.andThen]
end

/-- What a list of numbers reads as among the map's elements. -/
def rowD (zs : List Int) : DataW Unit := if zs = [] then .nil else .slice (Go.ChangeShapes.lits .i64 zs) []
theorem lits_inj {a b : List Int} (h : Go.ChangeShapes.lits (H := Unit) .i64 a = Go.ChangeShapes.lits .i64 b) : a = b := by
  unfold Go.ChangeShapes.lits at h
  exact (List.map_inj_right (fun x y hxy => by cases hxy; rfl)).1 h

theorem rowD_of {w : World} {base : Nat} {e : TypeId} {v : Value} {zs : List Int} (ho : w.ownsInts base e .i64 v zs) (hne : zs ≠ []) : rowDatum (H := Unit) .i64 v zs = rowD zs := by
  rw [ho.datum_pos hne, rowD, if_neg hne]

theorem rowD_inv {w : World} {base : Nat} {e : TypeId} {v : Value} {zs ys : List Int} (ho : w.ownsInts base e .i64 v zs) (h : rowD ys = rowDatum .i64 v zs) : zs = ys := by
  unfold rowD at h
  by_cases hy : ys = []
  · rw [if_pos hy] at h
    rcases ho.datum (H := Unit) with ⟨_, h0⟩ | h1
    · rw [h0, hy]
    · rw [h1] at h; cases h
  · rw [if_neg hy] at h
    rcases ho.datum (H := Unit) with ⟨h1, _⟩ | h1
    · rw [h1] at h; cases h
    · rw [h1] at h
      injection h with h
      exact (lits_inj h).symm
end Go.Proofs.YtncegikmpapldaaGreatDoor
