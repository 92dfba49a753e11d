/- The laws' own helpers over storage: a store sized, copied, equal, marked, and held. -/
import Derived.Test.YtbhnjnoblkfckaaStHl
namespace Go.Proofs.Ytbhnjnoblkfckaa
open Go.RowKit Go.Maps

theorem one_factE {w : World} {b : Nat} {x : Value} {T : TypeId} (h : w.heap[b]? = some (.cells #[x] T (0, 0))) : w.cell? ⟨b, 0, none⟩ = some x ∧ w.frozen? ⟨b, 0, none⟩ = false := by
  constructor <;> simp [World.cell?, World.frozen?, h]

set_option maxHeartbeats 800000 in
theorem sz_store (v : Value) (L : List En) (w : World) (hR : ERow w v L) (hok : EnsOk maxLen L) :
    Calls Try.prog 4 #[.agg #[v], .int .i64 1048576] w fun e w' => (∃ q : Int, e = .returned (.int .i64 q) ∧ (q < 0 ∨ (0 ≤ q ∧ EnsOk 1048576 L ∧ L.length ≤ 1048576))) ∧ Below w.heap.size w w' := by
  have hbA : Below w.heap.size w (w.alloc (.cells #[v] 24)) := (Below.refl _ _).alloc (Nat.le_refl _) _
  have hC := sz_entries v L _ (hR.below (Nat.le_refl _) hbA) hok
  obtain ⟨a, c, rfl, _⟩ := hR
  have HB := Lib.hid hbA
  clear hbA hok
  go_enter Try.func4, Try.ntmps4
  go_wp2_with fail
  refine hC.mono ?_
  rintro e w1 ⟨⟨q, rfl, hq⟩, hb1⟩
  have HB1 := Lib.hid (HB.out.trans (hb1.mono (by simp)))
  clear hC hb1
  rcases hq with hq | ⟨q0, q1, q2⟩
  · go_wp2
    go_ret
    exact ⟨⟨-1, rfl, .inl (by omega)⟩, HB1.out⟩
  · have i1 : ¬ q < 0 := by omega
    have HQ := Lib.hid q1
    clear q1
    go_wp2
    go_ret
    exact ⟨⟨q, rfl, .inr ⟨q0, HQ.out, q2⟩⟩, HB1.out⟩

set_option maxHeartbeats 1600000 in
theorem to_store (v : Value) (L : List En) (w : World) (hR : ERow w v L) (hn : L.length ≤ 1048576) :
    Calls Try.prog 6 #[.agg #[v]] w fun e w' => ∃ g, e = .returned (.agg #[.slice (some ⟨g, 0, none⟩) L.length L.length]) ∧ w.heap.size ≤ g ∧ CC w' g L.length (fun i j => cE (eget L i) j) ∧ Below w.heap.size w w' := by
  have hR0 := hR
  obtain ⟨a, c, rfl, _⟩ := hR0
  obtain ⟨wA, hwA⟩ : ∃ wA, wA = ((w.alloc (.cells #[.slice a L.length c] 24)).alloc (.cells #[.slice none 0 0] 29)).alloc (.cells #[.slice none 0 0] 29) := ⟨_, rfl⟩
  have hsA : wA.heap.size = w.heap.size + 3 := by rw [hwA]; simp
  have hbA : Below w.heap.size w wA := by rw [hwA]; exact (((Below.refl _ _).alloc (Nat.le_refl _) _).alloc (by simp) _).alloc (by simp; omega) _
  have hC := to_entries _ L wA (hR.below (Nat.le_refl _) hbA) hn
  obtain ⟨hx0, hx1, hx2⟩ := three_newE w (.cells #[.slice a L.length c] 24) (.cells #[.slice none 0 0] 29) (.cells #[.slice none 0 0] 29)
  rw [← hwA] at hx0 hx1 hx2
  obtain ⟨t0, _⟩ := one_factE hx0
  rw [hwA] at t0
  have HwA := Lib.hid hwA
  have HBA := Lib.hid hbA
  clear hwA hbA hR
  go_enter Try.func6, Try.ntmps6
  go_wp2_with fail
  rw [← HwA.out]
  refine hC.mono ?_
  rintro e w1 ⟨rfl, hown, hb1⟩
  rw [hsA] at hown
  have hy1 := (hb1.block (w.heap.size + 1) (by omega)).trans hx1
  have hy2 := (hb1.block (w.heap.size + 1 + 1) (by omega)).trans hx2
  obtain ⟨p0, f0⟩ := one_factE hy1
  obtain ⟨r0, e0⟩ := one_factE hy2
  have hb := HBA.out.trans (hb1.mono (by omega))
  have hz1 := (heap_setCell_other w1 ⟨w.heap.size + 1 + 1, 0, none⟩ (w.heap.size + 1) (.slice (some ⟨w.heap.size + 3, 0, none⟩) L.length L.length) (by simp)).trans hy1
  have hz2 := heap_setCell_same _ (w.heap.size + 1) 0 _ _ (.slice (some ⟨w.heap.size + 3, 0, none⟩) L.length L.length) hz1
  have hfin : Below w.heap.size w ((w1.setCell ⟨w.heap.size + 1 + 1, 0, none⟩ (.slice (some ⟨w.heap.size + 3, 0, none⟩) L.length L.length)).setCell ⟨w.heap.size + 1, 0, none⟩ (.slice (some ⟨w.heap.size + 3, 0, none⟩) L.length L.length)) :=
    (hb.setCell (p := ⟨w.heap.size + 1 + 1, 0, none⟩) (by simp; omega) _).setCell (p := ⟨w.heap.size + 1, 0, none⟩) (by simp) _
  have hown2 : CC ((w1.setCell ⟨w.heap.size + 1 + 1, 0, none⟩ (.slice (some ⟨w.heap.size + 3, 0, none⟩) L.length L.length)).setCell ⟨w.heap.size + 1, 0, none⟩ (.slice (some ⟨w.heap.size + 3, 0, none⟩) L.length L.length)) (w.heap.size + 3) L.length (fun i j => cE (eget L i) j) := by
    refine hown.keep ?_
    rw [heap_setCell_other _ ⟨w.heap.size + 1, 0, none⟩ _ _ (by simp), heap_setCell_other _ ⟨w.heap.size + 1 + 1, 0, none⟩ _ _ (by simp)]
  have HF := Lib.hid (And.intro hz2 (And.intro hfin hown2))
  have ws : wA.heap.size = w.heap.size + 3 := hsA
  rw [hsA]
  clear hC hb1 hown hx0 hx1 hx2 t0 hz1 hz2 hfin hown2 hb hy1 hy2
  go_wp2
  obtain ⟨hz2, hfin, hown2⟩ := HF.out
  obtain ⟨k0, _⟩ := one_factE hz2
  exact bodyPost_ret (v := .agg #[.slice (some ⟨w.heap.size + 3, 0, none⟩) L.length L.length]) (by simp [results, Try.results6, go_sem, k0]) rfl ⟨w.heap.size + 3, rfl, by omega, hown2, hfin⟩

set_option maxHeartbeats 1600000 in
theorem eq_store (v1 v2 : Value) (L : List En) (w : World) (h1 : ERow w v1 L) (h2 : ERow w v2 L) (hn : L.length ≤ 4000000) :
    Calls Try.prog 8 #[.agg #[v1], .agg #[v2]] w fun e w' => e = .returned (.bool true) ∧ Below w.heap.size w w' := by
  have hbA : Below w.heap.size w ((w.alloc (.cells #[v1] 29)).alloc (.cells #[v2] 29)) := ((Below.refl _ _).alloc (Nat.le_refl _) _).alloc (by simp) _
  have hC := eq_entries v1 v2 L _ (h1.below (Nat.le_refl _) hbA) (h2.below (Nat.le_refl _) hbA) hn
  obtain ⟨a1, c1, rfl, _⟩ := h1
  obtain ⟨a2, c2, rfl, _⟩ := h2
  have HB := Lib.hid hbA
  clear hbA
  go_enter Try.func8, Try.ntmps8
  go_wp2_with fail
  refine hC.mono ?_
  rintro e w1 ⟨rfl, hb1⟩
  have HB1 := Lib.hid (HB.out.trans (hb1.mono HB.out.size))
  clear hC hb1
  go_wp2
  go_ret
  exact ⟨rfl, HB1.out⟩

/-- A row that may be marked: none, or in a block from B on and below D. -/
def MV (w : World) (B D : Nat) (v : Value) (n : Nat) (C : Nat → Nat → Value) : Prop :=
  (v = .slice none 0 0 ∧ n = 0) ∨ ∃ g c, v = .slice (some ⟨g, 0, none⟩) n c ∧ B ≤ g ∧ g < D ∧ (n ≤ c ∧ c ≤ maxLen) ∧ CC w g n C
theorem MV.same {w w' : World} {B D : Nat} {v : Value} {n : Nat} {C : Nat → Nat → Value} (h : MV w B D v n C) (hk : ∀ b, B ≤ b → b < D → w'.heap[b]? = w.heap[b]?) : MV w' B D v n C := by
  rcases h with h | ⟨g, c, e, h1, h2, h4, h3⟩
  · exact .inl h
  · exact .inr ⟨g, c, e, h1, h2, h4, h3.keep (hk g h1 h2)⟩
theorem mv_of_own {w : World} {B : Nat} {v : Value} {T : TypeId} {L : List En} (h : w.ownsRow B T 9 v L.length (ecells L)) : MV w B w.heap.size v L.length (fun i j => cE (eget L i) j) := by
  have h0 := h
  rcases h.2 with ⟨rfl, h1⟩ | ⟨g, c, _, rfl, hg, hh, hn, hm, _⟩
  · exact .inl ⟨rfl, h1⟩
  · exact .inr ⟨g, c, rfl, hg, (Array.getElem?_eq_some_iff.1 hh).1, ⟨hn, hm⟩, cc_of_own h0⟩
theorem MV.row {w : World} {B D : Nat} {v : Value} {L : List En} (h : MV w B D v L.length (fun i j => cE (eget L i) j)) : ERow w v L := by
  rcases h with ⟨rfl, h1⟩ | ⟨g, c, rfl, _, _, ⟨h1, h2⟩, h3⟩
  · have : L = [] := List.eq_nil_of_length_eq_zero h1
    subst this
    exact erow_nil w
  · exact h3.row h1 h2
/-- What is turned is in blocks from B on and below D. -/
def MidE (w w' : World) (B D : Nat) : Prop := w'.os = w.os ∧ w'.tape = w.tape ∧ w'.output = w.output ∧ w.heap.size ≤ w'.heap.size ∧ ∀ b, b < w.heap.size → (b < B ∨ D ≤ b) → w'.heap[b]? = w.heap[b]?
theorem MidE.below {w w' : World} {B D : Nat} (h : MidE w w' B D) (hB : B ≤ w.heap.size) : Below B w w' := ⟨h.1, h.2.1, h.2.2.1, h.2.2.2.1, fun b hb => h.2.2.2.2 b (by omega) (.inl hb)⟩
theorem mv_mid {w w' : World} {B D n : Nat} {v : Value} {C : Nat → Nat → Value} (h : MV w B D v n C) (hg : w.grownBy w' v.ownBlock) : MidE w w' B D := by
  refine ⟨hg.os, hg.tape, hg.output, hg.size, fun b hb ho => hg.block b hb fun e => ?_⟩
  rcases h with ⟨rfl, _⟩ | ⟨g, c, rfl, h1, h2, _⟩
  · simp [Value.ownBlock] at e
  · have : b = g := by simpa [Value.ownBlock] using e
    omega
def mkAll : Nat → Nat → Value := fun i q => cE (mkE (1 + 9 * i)) q

end Go.Proofs.Ytbhnjnoblkfckaa
