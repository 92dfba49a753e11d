import Derived.Test.YtbhnjnoblkfckaaGreatDoorGZ19
import Derived.Laws.MakeOwn
import Derived.Deep.RegionWith
import Derived.Test.YtbhnjnoblkfckaaGreatDoorGZ00
import Derived.Test.YtbhnjnoblkfckaaGreatDoorRows
import Derived.WalkKit
import Derived.WalkSpells
import Derived.WalkLawsBesides
import Derived.BigQuiet
import Derived.Lib.Hide
-- from XStZ
/- The laws' own helpers over storage: rows of entries sized, copied, equal. -/
namespace Go.Proofs.YtbhnjnoblkfckaaGreatDoor
open Go.RowKit Go.Maps

/-- Block g holds n rows of nine values, the j-th of the i-th is C i j; none is frozen. -/
def CC (w : World) (g n : Nat) (C : Nat → Nat → Value) : Prop :=
  ∃ cur t, w.heap[g]? = some (.cells cur t (0, 0)) ∧ n * 9 ≤ cur.size ∧ ∀ i j, i < n → j < 9 → cur[i * 9 + j]? = some (C i j)
theorem CC.lt {w : World} {g n : Nat} {C : Nat → Nat → Value} (h : CC w g n C) : g < w.heap.size := by
  obtain ⟨cur, t, hh, _⟩ := h
  exact (Array.getElem?_eq_some_iff.1 hh).1
theorem CC.keep {w w' : World} {g n : Nat} {C : Nat → Nat → Value} (h : CC w g n C) (hk : w'.heap[g]? = w.heap[g]?) : CC w' g n C := by
  obtain ⟨cur, t, hh, r⟩ := h
  exact ⟨cur, t, hk.trans hh, r⟩
theorem CC.congr {w : World} {g n : Nat} {C C' : Nat → Nat → Value} (h : CC w g n C) (he : ∀ i j, i < n → j < 9 → C i j = C' i j) : CC w g n C' := by
  obtain ⟨cur, t, hh, hs, hc⟩ := h
  exact ⟨cur, t, hh, hs, fun i j hi hj => by rw [← he i j hi hj]; exact hc i j hi hj⟩
theorem CC.cell {w : World} {g n : Nat} {C : Nat → Nat → Value} (h : CC w g n C) {i j : Nat} (hi : i < n) (hj : j < 9) : w.cell? ⟨g, i * 9 + j, none⟩ = some (C i j) := by
  obtain ⟨cur, t, hh, hs, hc⟩ := h
  simp [World.cell?, hh, hc i j hi hj]
theorem CC.frozen {w : World} {g n : Nat} {C : Nat → Nat → Value} (h : CC w g n C) (j : Nat) : w.frozen? ⟨g, j, none⟩ = false := by
  obtain ⟨cur, t, hh, hs, hc⟩ := h
  simp [World.frozen?, hh]
def updC (C : Nat → Nat → Value) (i j : Nat) (x : Value) : Nat → Nat → Value := fun a b => if a = i ∧ b = j then x else C a b
theorem CC.set {w : World} {g n : Nat} {C : Nat → Nat → Value} (h : CC w g n C) {i j : Nat} (hi : i < n) (hj : j < 9) (x : Value) : CC (w.setCell ⟨g, i * 9 + j, none⟩ x) g n (updC C i j x) := by
  obtain ⟨cur, t, hh, hs, hc⟩ := h
  refine ⟨_, t, heap_setCell_same w g (i * 9 + j) cur t _ hh, by simpa using hs, fun a b ha hb => ?_⟩
  rw [Array.getElem?_setIfInBounds]
  unfold updC
  by_cases e : a = i ∧ b = j
  · obtain ⟨rfl, rfl⟩ := e
    rw [if_pos rfl, if_pos (by omega), if_pos ⟨rfl, rfl⟩]
  · rw [if_neg (fun k => e ⟨by omega, by omega⟩), if_neg e]
    exact hc a b ha hb
theorem CC.set0 {w : World} {g n : Nat} {C : Nat → Nat → Value} (h : CC w g n C) {i : Nat} (hi : i < n) (x : Value) : CC (w.setCell ⟨g, i * 9, none⟩ x) g n (updC C i 0 x) := by
  have := h.set (j := 0) hi (by decide) x
  rwa [Nat.add_zero] at this
theorem CC.cell0 {w : World} {g n : Nat} {C : Nat → Nat → Value} (h : CC w g n C) {i : Nat} (hi : i < n) : w.cell? ⟨g, i * 9, none⟩ = some (C i 0) := by
  have := h.cell (j := 0) hi (by decide)
  rwa [Nat.add_zero] at this

def cE (e : En) (j : Nat) : Value := (enL e).getD j undef
def eget (L : List En) (i : Nat) : En := (L[i]?).getD noEn
theorem eget_at {L : List En} {i : Nat} {e : En} (h : L[i]? = some e) : eget L i = e := by simp [eget, h]
theorem cE_at {e : En} {j : Nat} {x : Value} (h : (enL e)[j]? = some x) : cE e j = x := by
  unfold cE
  rw [List.getD_eq_getElem?_getD, h]; rfl
theorem CC.at {w : World} {g n : Nat} {C : Nat → Nat → Value} (h : CC w g n C) {i : Nat} {e : En} (hi : i < n) (he : ∀ j, j < 9 → C i j = cE e j) : EAt w g (0 + i * 9) e := by
  rw [Nat.zero_add]
  refine EAt.all fun j x hx => ?_
  have hj : j < 9 := (List.getElem?_eq_some_iff.1 hx).1
  rw [h.cell hi hj, he j hj, cE_at hx]
theorem CC.row {w : World} {g c : Nat} {L : List En} (h : CC w g L.length (fun i j => cE (eget L i) j)) (hc : L.length ≤ c) (hm : c ≤ maxLen) : ERow w (.slice (some ⟨g, 0, none⟩) L.length c) L :=
  ⟨_, _, rfl, hc, hm, fun j e hj => ⟨g, 0, rfl, h.lt, h.at (List.getElem?_eq_some_iff.1 hj).1 fun i _ => by rw [eget_at hj]⟩⟩
/-- A row of the call's own, as nine values for each. -/
theorem cc_of_own {w : World} {B g c : Nat} {T : TypeId} {L : List En} (h : w.ownsRow B T 9 (.slice (some ⟨g, 0, none⟩) L.length c) L.length (ecells L)) : CC w g L.length (fun i j => cE (eget L i) j) := by
  rcases h.2 with ⟨h, _⟩ | ⟨b, cap, cur, hv, hb, hh, hn, hm, hz, ht⟩
  · simp at h
  · obtain ⟨rfl, rfl⟩ : g = b ∧ c = cap := by simpa using hv
    refine ⟨cur, T, hh, by rw [hz]; exact Nat.mul_le_mul_right 9 hn, fun i j hi hj => ?_⟩
    obtain ⟨e, he⟩ : ∃ e, L[i]? = some e := ⟨_, List.getElem?_eq_getElem hi⟩
    obtain ⟨x, hx⟩ : ∃ x, (enL e)[j]? = some x := ⟨_, List.getElem?_eq_getElem (show j < (enL e).length from hj)⟩
    have hc := h.cells (g := g) rfl _ _ (ecells_at he hx)
    rw [add0] at hc
    simp only [World.cell?, hh] at hc
    show cur[i * 9 + j]? = some (cE (eget L i) j)
    rw [eget_at he, cE_at hx]
    exact hc

def st9 (w : World) (g k : Nat) (e : En) : World :=
  ((((((((w.setCell ⟨g, k * 9, none⟩ (.string e.place)).setCell ⟨g, k * 9 + 1, none⟩ (.int .i64 e.mask)).setCell ⟨g, k * 9 + 2, none⟩ (.int .i64 e.rsp.code)).setCell ⟨g, k * 9 + 3, none⟩ (.int .i64 e.rsp.mx)).setCell ⟨g, k * 9 + 4, none⟩ (.bool e.rsp.hide)).setCell ⟨g, k * 9 + 5, none⟩ (.string e.rsp.tag)).setCell ⟨g, k * 9 + 6, none⟩ (.int .i64 e.rsp.cod)).setCell ⟨g, k * 9 + 7, none⟩ (.string e.rsp.body)).setCell ⟨g, k * 9 + 8, none⟩ (.int .i64 e.tm)
def upto9 (L : List En) (k : Nat) : Nat → Nat → Value := fun i j => if i < k then cE (eget L i) j else cE noEn j
theorem updC9 (C : Nat → Nat → Value) (k : Nat) (e : En) (i j : Nat) (hj : j < 9) :
    updC (updC (updC (updC (updC (updC (updC (updC (updC C k 0 (.string e.place)) k 1 (.int .i64 e.mask)) k 2 (.int .i64 e.rsp.code)) k 3 (.int .i64 e.rsp.mx)) k 4 (.bool e.rsp.hide)) k 5 (.string e.rsp.tag)) k 6 (.int .i64 e.rsp.cod)) k 7 (.string e.rsp.body)) k 8 (.int .i64 e.tm) i j = if i = k then cE e j else C i j := by
  unfold updC
  by_cases hi : i = k
  · subst hi
    rw [if_pos rfl]
    match j, hj with
    | 0, _ => simp [cE, enL]
    | 1, _ => simp [cE, enL]
    | 2, _ => simp [cE, enL]
    | 3, _ => simp [cE, enL]
    | 4, _ => simp [cE, enL]
    | 5, _ => simp [cE, enL]
    | 6, _ => simp [cE, enL]
    | 7, _ => simp [cE, enL]
    | 8, _ => simp [cE, enL]
    | n + 9, h => exact absurd h (by omega)
  · simp [hi]
theorem CC.st9 {w : World} {g n k : Nat} {C : Nat → Nat → Value} (h : CC w g n C) (hk : k < n) (e : En) : CC (st9 w g k e) g n (fun i j => if i = k then cE e j else C i j) := by
  unfold Go.Proofs.YtbhnjnoblkfckaaGreatDoor.st9
  exact (((((((((h.set0 hk _).set (j := 1) hk (by decide) _).set (j := 2) hk (by decide) _).set (j := 3) hk (by decide) _).set (j := 4) hk (by decide) _).set (j := 5) hk (by decide) _).set (j := 6) hk (by decide) _).set (j := 7) hk (by decide) _).set (j := 8) hk (by decide) _).congr fun i j _ hj => updC9 C k e i j hj
theorem below_st9 {B : Nat} {w w' : World} {g k : Nat} {e : En} (h : Below B w w') (hg : B ≤ g) : Below B w (st9 w' g k e) := by
  have s : ∀ (W : World) (j : Nat) (v : Value), Below B w W → Below B w (W.setCell ⟨g, j, none⟩ v) := fun W j v hW => hW.setCell (p := ⟨g, j, none⟩) hg _
  exact s _ _ _ (s _ _ _ (s _ _ _ (s _ _ _ (s _ _ _ (s _ _ _ (s _ _ _ (s _ _ _ (s _ _ _ h))))))))
theorem upto9_step {L : List En} {k : Nat} {e : En} (h : L[k]? = some e) (i j : Nat) : (if i = k then cE e j else upto9 L k i j) = upto9 L (k + 1) i j := by
  unfold upto9
  by_cases hi : i = k
  · subst hi; simp [eget_at h]
  · rw [if_neg hi]
    by_cases hl : i < k
    · rw [if_pos hl, if_pos (by omega)]
    · rw [if_neg hl, if_neg (by omega)]
theorem made_en (n : Nat) : (madeCells (enV noEn).cells (n * 9)).size = n * 9 ∧ ∀ i j, i < n → j < 9 → (madeCells (enV noEn).cells (n * 9))[i * 9 + j]? = some (cE noEn j) := by
  refine ⟨size_madeCells _ _, fun i j hi hj => ?_⟩
  have hc : (enV noEn).cells = (enL noEn).toArray := by rfl
  unfold madeCells
  rw [hc]
  rw [Array.getElem?_map, Array.getElem?_range, if_pos (by omega)]
  have hl : (enL noEn).length = 9 := rfl
  have : (i * 9 + j) % 9 = j := by omega
  simp [hl, this, cE, List.getD_eq_getElem?_getD, List.getElem?_eq_getElem (show j < (enL noEn).length from hj)]

set_option maxRecDepth 100000 in
set_option maxHeartbeats 1600000 in
theorem to_entries (v : Value) (L : List En) (w : World) (hR : ERow w v L) (hn : L.length ≤ 1048576) :
    Calls Tryz.prog 42 #[v] w fun e w' => e = .returned (.slice (some ⟨w.heap.size, 0, none⟩) L.length L.length) ∧ CC w' w.heap.size L.length (fun i j => cE (eget L i) j) ∧ Below w.heap.size w w' := by
  obtain ⟨i0, hi, hz0, hz1, hz2⟩ := info_parts Tryz.infoEn
  obtain ⟨a, c, rfl, h1, h2, h3⟩ := hR
  unfold maxLen at h2
  have H3 := Lib.hid h3; clear h3
  have hmk := fun W => run_make (P := Tryz.prog) W 33 48 i0 _ Tryz.underlying33 hi hz0 .i64 .i64 (L.length : Int) (L.length : Int) (by omega) (by omega) (by rw [hz2]; omega) (by omega)
  rw [hz1, Int.toNat_natCast] at hmk
  obtain ⟨m1, m2⟩ := made_en L.length
  change (madeCells (Value.agg #[.string ⟨#[]⟩, .int .i64 0, .int .i64 0, .int .i64 0, .bool false, .string ⟨#[]⟩, .int .i64 0, .string ⟨#[]⟩, .int .i64 0]).cells (L.length * 9)).size = _ at m1
  change ∀ i j, i < L.length → j < 9 → (madeCells (Value.agg #[.string ⟨#[]⟩, .int .i64 0, .int .i64 0, .int .i64 0, .bool false, .string ⟨#[]⟩, .int .i64 0, .string ⟨#[]⟩, .int .i64 0]).cells (L.length * 9))[i * 9 + j]? = _ at m2
  generalize madeCells (Value.agg #[.string ⟨#[]⟩, .int .i64 0, .int .i64 0, .int .i64 0, .bool false, .string ⟨#[]⟩, .int .i64 0, .string ⟨#[]⟩, .int .i64 0]).cells (L.length * 9) = M at hmk m1 m2
  have HM1 := Lib.hid m1; have HM2 := Lib.hid m2; clear m1 m2
  go_enter Tryz.func42, Tryz.ntmps42
  go_wp2
  go_loopw [4] (fun i wr => ∃ k : Nat, k ≤ L.length ∧ i = .int .i64 k ∧ CC wr w.heap.size L.length (upto9 L k) ∧ Below w.heap.size w wr) (fun i _ => L.length - (intOf i).toNat)
  case atStart => exact ⟨0, Nat.zero_le _, rfl, ⟨M, _, heap_alloc_new w _, Nat.le_of_eq HM1.out.symm, fun i j hi hj => by simpa [upto9] using HM2.out i j hi hj⟩, (Below.refl _ _).alloc (Nat.le_refl _) _⟩
  case round =>
    obtain ⟨k, hk, rfl, hown, hnx⟩ := hrel
    by_cases hlt : k < L.length
    · obtain ⟨e, hg⟩ : ∃ e, L[k]? = some e := ⟨_, List.getElem?_eq_getElem hlt⟩
      obtain ⟨b1, o1, rfl, hb1, he⟩ := H3.out k e hg
      obtain ⟨k0, k1, k2, k3, k4, k5, k6, k7, k8⟩ := he.keep (hnx.block b1 hb1)
      have hc := to_entry e
      unfold enV at hc
      have HK := Lib.hid hg; have HC := Lib.hid hc
      clear hc hg he
      go_wp2_with fail
      refine (HC.out _).mono ?_
      rintro e' w1 ⟨rfl, hb1'⟩
      have hnx1 := hnx.trans (hb1'.mono hnx.size)
      have hown1 := hown.keep (hb1'.block _ hown.lt)
      have q0 := hown1.cell0 hlt
      have q1 := hown1.cell (j := 1) hlt (by decide)
      have q2 := hown1.cell (j := 2) hlt (by decide)
      have q3 := hown1.cell (j := 3) hlt (by decide)
      have q4 := hown1.cell (j := 4) hlt (by decide)
      have q5 := hown1.cell (j := 5) hlt (by decide)
      have q6 := hown1.cell (j := 6) hlt (by decide)
      have q7 := hown1.cell (j := 7) hlt (by decide)
      have q8 := hown1.cell (j := 8) hlt (by decide)
      have f0 := hown1.frozen (k * 9)
      have f1 := hown1.frozen (k * 9 + 1)
      have f2 := hown1.frozen (k * 9 + 2)
      have f3 := hown1.frozen (k * 9 + 3)
      have f4 := hown1.frozen (k * 9 + 4)
      have f5 := hown1.frozen (k * 9 + 5)
      have f6 := hown1.frozen (k * 9 + 6)
      have f7 := hown1.frozen (k * 9 + 7)
      have f8 := hown1.frozen (k * 9 + 8)
      have hst := (hown1.st9 hlt e).congr fun i j _ _ => upto9_step HK.out i j
      have hnx9 := below_st9 (g := w.heap.size) (k := k) (e := e) hnx1 (Nat.le_refl _)
      unfold st9 at hst hnx9
      have HS := Lib.hid hst; have HN := Lib.hid hnx9
      clear hown hown1 hst hnx hnx1 hb1' hnx9 k0 k1 k2 k3 k4 k5 k6 k7 k8
      go_wp2
      go_roundw
      case rel => exact ⟨k + 1, by omega, by go_num, HS.out, HN.out⟩
      case measure => simp [intOf]; omega
    · have hkn : k = L.length := by omega
      subst hkn
      go_wp2
      go_ret
      exact ⟨rfl, hown.congr (fun i j hi _ => by simp [upto9, hi]), hnx⟩

set_option maxRecDepth 100000 in
set_option maxHeartbeats 1600000 in
theorem eq_entries (v1 v2 : Value) (L : List En) (w : World) (hF1 : ERow w v1 L) (hF2 : ERow w v2 L) (hn : L.length ≤ 4000000) :
    Calls Tryz.prog 47 #[v1, v2] w fun e w' => e = .returned (.bool true) ∧ Below w.heap.size w w' := by
  obtain ⟨a1, c1, rfl, _, _, h1⟩ := hF1
  obtain ⟨a2, c2, rfl, _, _, h2⟩ := hF2
  have H1 := Lib.hid h1; have H2 := Lib.hid h2; clear h1 h2
  go_enter Tryz.func47, Tryz.ntmps47
  go_wp2
  go_loopw [5] (fun i wr => ∃ k : Nat, k ≤ L.length ∧ i = .int .i64 k ∧ Below w.heap.size w wr) (fun i _ => L.length - (intOf i).toNat)
  case atStart => exact ⟨0, Nat.zero_le _, rfl, Below.refl _ _⟩
  case round =>
    obtain ⟨k, hk, rfl, hnx⟩ := hrel
    by_cases hlt : k < L.length
    · obtain ⟨e, hg⟩ : ∃ e, L[k]? = some e := ⟨_, List.getElem?_eq_getElem hlt⟩
      obtain ⟨b1, o1, rfl, hb1, he1⟩ := H1.out k e hg
      obtain ⟨b2, o2, rfl, hb2, he2⟩ := H2.out k e hg
      obtain ⟨k0, k1, k2, k3, k4, k5, k6, k7, k8⟩ := he1.keep (hnx.block b1 hb1)
      obtain ⟨l0, l1, l2, l3, l4, l5, l6, l7, l8⟩ := he2.keep (hnx.block b2 hb2)
      have hc := eq_entry e
      unfold enV at hc
      have HE := Lib.hid hc
      clear hc hg he1 he2 H1 H2
      have i1 : (k : Int) < (L.length : Int) := by omega
      have hs := hnx.size
      have HN := Lib.hid hnx; clear hnx
      go_wp2_with fail
      go_region_with (go_at_call 78; refine (HE.out _).mono ?_; rintro e' w1 ⟨rfl, hbx⟩; have hbz := HN.out.trans (below_drew_left (hbx.mono hs)))
      all_goals go_wp2
      all_goals go_roundw
      all_goals first
        | (case rel => exact ⟨k + 1, by omega, by go_num, hbz⟩)
        | (simp [intOf]; omega)
    · have hkn : k = L.length := by omega
      subst hkn
      go_wp2
      go_ret
      exact ⟨rfl, hnx⟩

set_option maxRecDepth 100000 in
set_option maxHeartbeats 1600000 in
theorem sz_entries (v : Value) (L : List En) (w : World) (hR : ERow w v L) (hok : EnsOk maxLen L) :
    Calls Tryz.prog 37 #[v, .int .i64 1048576] w fun e w' => (∃ r : Int, e = .returned (.int .i64 r) ∧ (r < 0 ∨ (0 ≤ r ∧ EnsOk 1048576 L ∧ L.length ≤ 1048576))) ∧ Below w.heap.size w w' := by
  obtain ⟨a, c, rfl, h1, h2, h3⟩ := hR
  unfold maxLen at h2
  have H3 := Lib.hid h3; have HOK := Lib.hid hok
  clear h3 hok
  by_cases hbig : 1048576 < L.length
  · go_enter Tryz.func37, Tryz.ntmps37
    go_wp2
    go_ret
    exact ⟨⟨-1, rfl, .inl (by omega)⟩, Below.refl _ _⟩
  · go_enter Tryz.func37, Tryz.ntmps37
    go_wp2
    go_loopw [1, 5] (fun x i wr => ∃ (k : Nat) (r : Int), k ≤ L.length ∧ i = .int .i64 k ∧ x = .int .i64 r ∧ 0 ≤ r ∧ r ≤ 1048576 ∧ Hid (∀ (j : Nat) (f : En), j < k → L[j]? = some f → EnOk 1048576 f) ∧ Below w.heap.size w wr) (fun _ i _ => L.length - (intOf i).toNat)
    case atStart => exact ⟨0, _, Nat.zero_le _, rfl, rfl, by omega, by omega, Lib.hid (fun j f hj => by omega), Below.refl _ _⟩
    case round =>
      obtain ⟨k, r, hk, rfl, rfl, hr0, hr1, hall, hnx⟩ := hrel
      by_cases hlt : k < L.length
      · obtain ⟨e, hg⟩ : ∃ e, L[k]? = some e := ⟨_, List.getElem?_eq_getElem hlt⟩
        obtain ⟨b1, o1, rfl, hb1, he⟩ := H3.out k e hg
        obtain ⟨k0, k1, k2, k3, k4, k5, k6, k7, k8⟩ := he.keep (hnx.block b1 hb1)
        have hc := sz_entry e r hr0 hr1 (HOK.out e (List.mem_of_getElem? hg))
        unfold enV at hc
        have HK := Lib.hid hg; have HC := Lib.hid hc
        clear hc hg he
        go_wp2_with fail
        refine (HC.out _).mono ?_
        rintro e' w1 ⟨⟨q, rfl, hz⟩, hb1'⟩
        have hnx1 := hnx.trans (hb1'.mono hnx.size)
        rcases hz with hq | ⟨q1, q2, q3⟩
        · go_wp2
          go_ret
          exact ⟨⟨-1, rfl, .inl (by omega)⟩, hnx1⟩
        · have HQ := Lib.hid q3
          clear q3
          have i1 : ¬ q < 0 := by omega
          go_wp2
          go_roundw
          case rel =>
            refine ⟨k + 1, q, by omega, by go_num, rfl, q1, by omega, Lib.hid (fun j f hj hjf => ?_), hnx1⟩
            rcases Nat.lt_or_ge j k with h | h
            · exact hall.out j f h hjf
            · have : j = k := by omega
              subst this
              rw [HK.out] at hjf
              cases hjf
              exact HQ.out
          case measure => simp [intOf]; omega
      · have hkn : k = L.length := by omega
        subst hkn
        go_wp2
        go_ret
        refine ⟨⟨r, rfl, .inr ⟨hr0, fun f hf => ?_, by omega⟩⟩, hnx⟩
        obtain ⟨j, hj, hjf⟩ := List.getElem_of_mem hf
        exact hall.out j f hj (by rw [List.getElem?_eq_getElem hj, hjf])
end Go.Proofs.YtbhnjnoblkfckaaGreatDoor

-- from XEq
/- Walks: the laws' own helpers over slices of texts: equal, marked, held. -/
namespace Go.Proofs.YtbhnjnoblkfckaaGreatDoor
open Go.RowKit

/-- A slice that reads as a list of values of one cell each. -/
def Rd1 (w : World) (v : Value) (xs : List Value) : Prop :=
  (v = .slice none 0 0 ∧ xs = []) ∨ ∃ b o c, v = .slice (some ⟨b, o, none⟩) xs.length c ∧ xs.length ≤ c ∧ c ≤ maxLen ∧ ∀ j u, xs[j]? = some u → w.cell? ⟨b, o + j, none⟩ = some u

theorem Rd1.of_own {w : World} {base : Nat} {e : TypeId} {v : Value} {n : Nat} {xs : List Value} (h : w.ownsRow base e 1 v n xs) : Rd1 w v xs := by
  obtain ⟨hl, h | ⟨g, cap, cur, rfl, _, hh, hn, hm, hs, ht⟩⟩ := h
  · obtain ⟨rfl, rfl⟩ := h
    exact .inl ⟨rfl, List.eq_nil_of_length_eq_zero (by simpa using hl)⟩
  · have hl' : xs.length = n := by simpa using hl
    refine .inr ⟨g, 0, cap, by rw [hl'], by omega, hm, fun j u hu => ?_⟩
    have ho : w.ownsRow g e 1 (.slice (some ⟨g, 0, none⟩) n cap) n xs := ⟨hl, .inr ⟨g, cap, cur, rfl, Nat.le_refl _, hh, hn, hm, hs, ht⟩⟩
    have hj : j < xs.length := by
      rcases Nat.lt_or_ge j xs.length with h | h
      · exact h
      · rw [List.getElem?_eq_none h] at hu; cases hu
    have := ho.cellAt j (by omega)
    rw [Nat.zero_add, this, hu]

theorem Rd1.keep {w w' : World} {v : Value} {xs : List Value} (h : Rd1 w v xs) (hk : ∀ a, v.ownBlock = some a → w'.heap[a]? = w.heap[a]?) : Rd1 w' v xs := by
  rcases h with h | ⟨b, o, c, rfl, h1, h2, h3⟩
  · exact .inl h
  · exact .inr ⟨b, o, c, rfl, h1, h2, fun j u hu => (World.cell?_of_block (w := w) (hk b rfl)).trans (h3 j u hu)⟩

theorem Rd1.drewN {w : World} {v : Value} {xs : List Value} (h : Rd1 w v xs) (n : Nat) : Rd1 (w.drewN n) v xs := h

set_option maxHeartbeats 400000 in
theorem eq_strings (v1 v2 : Value) (l : List (List UInt8)) (w : World) (h1 : Rd1 w v1 (l.map strV)) (h2 : Rd1 w v2 (l.map strV)) :
    Calls Tryz.prog 46 #[v1, v2] w fun e w' => e = .returned (.bool true) ∧ ∃ n, w' = w.drewN n := by
  have hmax : l.length ≤ 9223372036854775807 := by
    rcases h1 with ⟨_, h⟩ | ⟨_, _, _, _, a, b, _⟩
    · have := List.map_eq_nil_iff.1 h; subst this; simp
    · unfold maxLen at b; simp at a; omega
  rcases h1 with ⟨rfl, hn⟩ | ⟨b1, o1, c1, rfl, _, _, hc1⟩
  · have hl : l = [] := List.map_eq_nil_iff.1 hn
    subst hl
    have e2 : ∃ a c, v2 = .slice a 0 c := by
      rcases h2 with ⟨rfl, _⟩ | ⟨b2, o2, c2, rfl, _, _, _⟩
      · exact ⟨_, _, rfl⟩
      · exact ⟨_, _, rfl⟩
    obtain ⟨a, c, rfl⟩ := e2
    go_enter Tryz.func46, Tryz.ntmps46
    go_wp2
    go_loopw [5] (fun i wr => i = .int .i64 0 ∧ ∃ n, wr = w.drewN n) (fun _ _ => 0)
    case atStart => exact ⟨rfl, 0, rfl⟩
    case round =>
      obtain ⟨rfl, n, rfl⟩ := hrel
      go_wp2
      go_ret
      exact ⟨rfl, n, rfl⟩
  · have e2 : ∃ a c, v2 = .slice a l.length c ∧ ∀ k (hk : k < l.length), ∃ b2 o2, a = some ⟨b2, o2, none⟩ ∧ w.cell? ⟨b2, o2 + k, none⟩ = some (strV (l.getD k [])) := by
      rcases h2 with ⟨rfl, hn⟩ | ⟨b2, o2, c2, rfl, _, _, hc2⟩
      · have hl : l = [] := List.map_eq_nil_iff.1 hn
        subst hl
        exact ⟨_, _, rfl, fun k hk => by simp at hk⟩
      · refine ⟨_, _, by rw [List.length_map], fun k hk => ⟨b2, o2, rfl, ?_⟩⟩
        apply hc2
        rw [List.getElem?_map, List.getElem?_eq_getElem hk]
        simp [hk]
    obtain ⟨a2, c2, rfl, hc2⟩ := e2
    have hc1' : ∀ k (_ : k < l.length), w.cell? ⟨b1, o1 + k, none⟩ = some (strV (l.getD k [])) := fun k hk => by
      apply hc1
      rw [List.getElem?_map, List.getElem?_eq_getElem hk]
      simp [hk]
    rw [List.length_map]
    clear hc1
    have HC1 := Lib.hid hc1'; have HC2 := Lib.hid hc2; clear hc1' hc2
    go_enter Tryz.func46, Tryz.ntmps46
    go_wp2
    go_loopw [5] (fun i wr => ∃ k : Nat, k ≤ l.length ∧ i = .int .i64 k ∧ ∃ n, wr = w.drewN n) (fun i _ => l.length - (intOf i).toNat)
    case atStart => exact ⟨0, Nat.zero_le _, rfl, 0, rfl⟩
    case round =>
      obtain ⟨k, hk, rfl, n, rfl⟩ := hrel
      by_cases hlt : k < l.length
      · have g1 := HC1.out k hlt
        obtain ⟨b2, o2, rfl, g2⟩ := HC2.out k hlt
        unfold strV at g1 g2
        generalize (ByteArray.mk (l.getD k []).toArray) = y at g1 g2
        go_wp2_with fail
        go_quiet (fail)
        all_goals go_wp2
        go_roundw
        case rel => exact ⟨k + 1, by omega, by go_num, _, rfl⟩
        case measure => simp [intOf]; omega
      · go_wp2
        go_ret
        exact ⟨rfl, n, rfl⟩
def markD : Nat → Nat → List UInt8 → List UInt8
  | 0, _, acc => acc
  | f + 1, k, acc => if k = 0 then acc else markD f (k / 10) ((48 + UInt8.ofNat (k % 10)) :: acc)
def markS (k : Nat) : List UInt8 := if k = 0 then [109, 48] else 109 :: markD 7 k []

theorem markD_zero (f : Nat) (acc : List UInt8) : markD f 0 acc = acc := by cases f <;> simp [markD]

set_option maxHeartbeats 400000 in
theorem mark_text (k : Nat) (w : World) (hk : k < 10000000) :
    Calls Tryz.prog 83 #[.int .i64 k] w fun e w' => e = .returned (strV (markS k)) ∧ Below w.heap.size w w' := by
  by_cases h0 : k = 0
  · subst h0
    go_enter Tryz.func83, Tryz.ntmps83
    go_wp2
    go_ret
    exact ⟨rfl, Below.refl _ _⟩
  · have hp : 0 < (k : Int) := by omega
    go_enter Tryz.func83, Tryz.ntmps83
    go_wp2_with fail
    go_loopw [0, 3] (fun n out wr => ∃ f j acc, n = .int .i64 (j : Nat) ∧ out = .string ⟨(acc : List UInt8).toArray⟩ ∧ j < 10 ^ f ∧ f ≤ 7 ∧ acc.length + f ≤ 7 ∧ markD f j acc = markD 7 k [] ∧ Below w.heap.size w wr) (fun n _ _ => (intOf n).toNat)
    case atStart => exact ⟨7, k, [], rfl, rfl, by omega, by omega, by simp, rfl, Below.refl _ _⟩
    case round =>
      obtain ⟨f, j, acc, rfl, rfl, hj, hf, hlen, hd, hb⟩ := hrel
      have HD := Lib.hid hd; clear hd
      have hj7 : j < 10000000 := Nat.lt_of_lt_of_le hj (Nat.le_trans (Nat.pow_le_pow_right (by omega) hf) (by decide))
      by_cases hz : 0 < j
      · have hcv := fun W => run_conv1 (P := Tryz.prog) 53 9 5 5 Tryz.underlying53 Tryz.underlying5 Tryz.underlying9 W (48 + (j : Int) % 10) (by omega) (by omega)
        have hsz : (ByteArray.mk acc.toArray).size ≤ 7 := by rw [size_len]; simp; omega
        go_wp2
        go_roundw
        case rel =>
          cases f with
          | zero => simp at hj; omega
          | succ f =>
            refine ⟨f, j / 10, (48 + UInt8.ofNat (j % 10)) :: acc, by go_num, ?_, ?_, by omega, ?_, ?_, hb.alloc hb.size _⟩
            · exact congrArg Value.string (cat_mk [48 + UInt8.ofNat (j % 10)] acc)
            · rw [Nat.pow_succ] at hj; omega
            · simp only [List.length_cons]; omega
            · have e := HD.out
              simp only [markD, if_neg (by omega : ¬ j = 0)] at e
              exact e
        case measure => simp [intOf]; omega
      · go_wp2
        go_ret
        have hj0 : j = 0 := by omega
        refine ⟨?_, hb⟩
        have e := HD.out
        rw [hj0, markD_zero] at e
        simp only [strV, markS, if_neg h0, ← e]
        exact congrArg (fun s => Ending.returned (Value.string s)) (cat_mk [109] acc)

def marks (k n : Nat) : List Value := (List.range n).map fun i => strV (markS (k + i))
theorem marks_length (k n : Nat) : (marks k n).length = n := by simp [marks]
theorem marks_get (k n i : Nat) (h : i < n) : (marks k n)[i]? = some (strV (markS (k + i))) := by simp [marks, h]
theorem marks_step (k n i : Nat) (xs : List Value) (hl : xs.length = n) (h : i < n) : ((marks k n).take i ++ xs.drop i).set i (strV (markS (k + i))) = (marks k n).take (i + 1) ++ xs.drop (i + 1) := by
  have hm := marks_length k n
  have hi : ((marks k n).take i).length = i := by rw [List.length_take]; omega
  rw [List.set_append_right _ _ (by omega), hi, Nat.sub_self, List.take_add_one, marks_get k n i h, List.append_assoc]
  rw [List.drop_eq_getElem_cons (by omega)]
  rfl

set_option maxHeartbeats 400000 in
theorem mark_strings (v : Value) (k n : Nat) (B : Nat) (xs : List Value) (w : World) (hn : k + n < 10000000) (ho : w.ownsRow B 9 1 v n xs) :
    Calls Tryz.prog 57 #[v, .int .i64 k] w fun e w' => e = .returned (.int .i64 ((k : Int) + n)) ∧ w'.ownsRow B 9 1 v n (marks k n) ∧ w.grownBy w' v.ownBlock := by
  have hxl : xs.length = n := by have := ho.1; omega
  have hform : v = .slice none 0 0 ∧ n = 0 ∨ ∃ g cap, v = .slice (some ⟨g, 0, none⟩) n cap := by
    rcases ho.2 with h | ⟨g, cap, _, h, _⟩
    · exact .inl h
    · exact .inr ⟨g, cap, h⟩
  rcases hform with ⟨rfl, rfl⟩ | ⟨g, cap, rfl⟩
  · have hx0 : xs = [] := List.eq_nil_of_length_eq_zero hxl
    subst hx0
    go_enter Tryz.func57, Tryz.ntmps57
    go_wp2
    go_loop [1, 5] (fun q i => i = .int .i64 0 ∧ q = .int .i64 k) (fun _ _ => 0)
    case atStart => exact ⟨rfl, rfl⟩
    case round =>
      obtain ⟨rfl, rfl⟩ := hrel
      go_wp2
      go_ret
      exact ⟨by simp, ho, World.grownBy.refl _ _⟩
  · have hrow : Value.ownBlock (.slice (some ⟨g, 0, none⟩) n cap) = some g := rfl
    rw [hrow]
    go_enter Tryz.func57, Tryz.ntmps57
    go_wp2
    go_loopw [1, 5] (fun q i wr => ∃ j : Nat, j ≤ n ∧ i = .int .i64 j ∧ q = .int .i64 ((k : Int) + j) ∧ wr.ownsRow B 9 1 (.slice (some ⟨g, 0, none⟩) n cap) n ((marks k n).take j ++ xs.drop j) ∧ w.grownBy wr (some g)) (fun _ i _ => n - (intOf i).toNat)
    case atStart => exact ⟨0, Nat.zero_le _, rfl, by go_num, by simpa using ho, World.grownBy.refl _ _⟩
    case round =>
      obtain ⟨j, hj, rfl, rfl, hown, hg⟩ := hrel
      by_cases hlt : j < n
      · go_wp2_with fail
        refine (mark_text (k + j) _ (by omega)).mono ?_
        rintro e w1 ⟨rfl, hb1⟩
        have hown1 := own_below hown hb1
        have hcell : w1.cell? ⟨g, j, none⟩ = some (xs[j]'(by omega)) := by
          rw [hown1.cellAt j (by omega), List.getElem?_append_right (by rw [List.length_take, marks_length]; omega), List.length_take, marks_length, List.getElem?_drop]
          rw [show j + (j - min j n) = j from by omega, List.getElem?_eq_getElem (by omega)]
        have hfr := hown1.frozenAt j
        have hst := hown1.stored j (strV (markS (k + j)))
        rw [marks_step k n j xs hxl hlt] at hst
        have hg1 := grown_trans hg (grown_of_below hb1 (some g))
        generalize xs[j]'(by omega) = y at hcell
        obtain ⟨h1, h2⟩ := hst
        unfold strV at h1 h2
        clear hown1 hown
        have H1 := Lib.hid h1; have H2 := Lib.hid h2; clear h1 h2
        unfold strV
        go_wp2
        go_roundw
        case rel => exact ⟨j + 1, by omega, by go_num, by go_num, H1.out, grown_trans hg1 H2.out⟩
        case measure => simp [intOf]; omega
      · have hjn : j = n := by omega
        subst hjn
        go_wp2
        go_ret
        refine ⟨rfl, ?_, hg⟩
        rw [List.take_of_length_le (by rw [marks_length]; exact Nat.le_refl _), List.drop_of_length_le (by omega), List.append_nil] at hown
        exact hown

theorem rd_marks_at {w : World} {v : Value} {k n : Nat} (h : Rd1 w v (marks k n)) : (v = .slice none 0 0 ∧ n = 0) ∨ ∃ b o c, v = .slice (some ⟨b, o, none⟩) n c ∧ ∀ j, j < n → w.cell? ⟨b, o + j, none⟩ = some (strV (markS (k + j))) := by
  rcases h with ⟨rfl, hn⟩ | ⟨b, o, c, rfl, _, _, hc⟩
  · have := marks_length k n; rw [hn] at this; exact .inl ⟨rfl, this.symm⟩
  · exact .inr ⟨b, o, c, by rw [marks_length], fun j hj => hc j _ (marks_get k n j hj)⟩

end Go.Proofs.YtbhnjnoblkfckaaGreatDoor

-- from XStMk
/- The laws' own helpers over storage: stores sized, copied, equal; marked, and held. -/
namespace Go.Proofs.YtbhnjnoblkfckaaGreatDoor
open Go.RowKit Go.Maps

theorem mark_natE (k : Nat) (x : Int) (hx : x = (k : Int)) (w : World) (hk : k < 10000000) :
    Calls Tryz.prog 83 #[.int .i64 x] w fun e w' => e = .returned (.string ⟨(markS k).toArray⟩) ∧ Below w.heap.size w w' := by
  subst hx; exact mark_text k w hk
/-- The nine marks from k on. -/
def mkE (k : Nat) : En := ⟨⟨(markS k).toArray⟩, ((k + 1 : Nat) : Int), ⟨((k + 2 : Nat) : Int), ((k + 3 : Nat) : Int), decide (((k + 4 : Nat) : Int).tmod 3 = 0), ⟨(markS (k + 5)).toArray⟩, ((k + 6 : Nat) : Int), ⟨(markS (k + 7)).toArray⟩⟩, ((k + 8 : Nat) : Int)⟩
def mkC (k : Nat) (C : Nat → Nat → Value) (j : Nat) : Nat → Nat → Value := fun i q => if i < j then cE (mkE (k + 9 * i)) q else C i q
theorem mkC_step (k : Nat) (C : Nat → Nat → Value) (j i q : Nat) : (if i = j then cE (mkE (k + 9 * j)) q else mkC k C j i q) = mkC k C (j + 1) i q := by
  unfold mkC
  by_cases e : i = j
  · subst e; simp
  · rw [if_neg e]
    by_cases hl : i < j
    · rw [if_pos hl, if_pos (by omega)]
    · rw [if_neg hl, if_neg (by omega)]

set_option maxRecDepth 100000 in
set_option maxHeartbeats 3200000 in
theorem mark_entries (g c n k : Nat) (C : Nat → Nat → Value) (w : World) (h : CC w g n C) (hk : k + 9 * n < 10000000) :
    Calls Tryz.prog 58 #[.slice (some ⟨g, 0, none⟩) n c, .int .i64 k] w fun e w' => e = .returned (.int .i64 ((k : Int) + 9 * (n : Int))) ∧ CC w' g n (mkC k C n) ∧ w.grownBy w' (some g) := by
  go_enter Tryz.func58, Tryz.ntmps58
  go_wp2
  go_loopw [1, 5] (fun q i wr => ∃ j : Nat, j ≤ n ∧ i = .int .i64 j ∧ q = .int .i64 ((k : Int) + 9 * (j : Int)) ∧ CC wr g n (mkC k C j) ∧ w.grownBy wr (some g)) (fun _ i _ => n - (intOf i).toNat)
  case atStart => exact ⟨0, Nat.zero_le _, rfl, by simp, h.congr fun i q _ _ => by simp [mkC], World.grownBy.refl _ _⟩
  case round =>
    obtain ⟨j, hj, rfl, rfl, hown, hg⟩ := hrel
    by_cases hlt : j < n
    · have j1 : (j : Int) < (n : Int) := by omega
      have hl := hown.lt
      go_wp2_with fail
      refine (mark_natE (k + 9 * j) _ (by omega) _ (by omega)).mono ?_
      rintro e w1 ⟨rfl, hb1⟩
      have ho := hown.keep (hb1.block _ hl)
      have hg1 := grown_trans hg (grown_of_below hb1 (some g))
      have q0 := ho.cell0 hlt
      have f0 := ho.frozen (j * 9)
      have q1 := ho.cell (j := 1) hlt (by decide)
      have f1 := ho.frozen (j * 9 + 1)
      have q2 := ho.cell (j := 2) hlt (by decide)
      have f2 := ho.frozen (j * 9 + 2)
      have q3 := ho.cell (j := 3) hlt (by decide)
      have f3 := ho.frozen (j * 9 + 3)
      have q4 := ho.cell (j := 4) hlt (by decide)
      have f4 := ho.frozen (j * 9 + 4)
      have hst := (((((ho.set0 hlt (.string ⟨(markS (k + 9 * j)).toArray⟩)).set (j := 1) hlt (by decide) (.int .i64 ((k + 9 * j + 1 : Nat) : Int))).set (j := 2) hlt (by decide) (.int .i64 ((k + 9 * j + 2 : Nat) : Int))).set (j := 3) hlt (by decide) (.int .i64 ((k + 9 * j + 3 : Nat) : Int))).set (j := 4) hlt (by decide) (.bool (decide (((k + 9 * j + 4 : Nat) : Int).tmod 3 = 0))))
      have hgn := (grown_setr (k := j * 9 + 4) (x := .bool (decide (((k + 9 * j + 4 : Nat) : Int).tmod 3 = 0))) (grown_setr (k := j * 9 + 3) (x := .int .i64 ((k + 9 * j + 3 : Nat) : Int)) (grown_setr (k := j * 9 + 2) (x := .int .i64 ((k + 9 * j + 2 : Nat) : Int)) (grown_setr (k := j * 9 + 1) (x := .int .i64 ((k + 9 * j + 1 : Nat) : Int)) (grown_setr (k := j * 9) (x := .string ⟨(markS (k + 9 * j)).toArray⟩) hg1)))))
      have HS := Lib.hid hst; have HG := Lib.hid hgn
      clear hst hgn
      clear hown ho hg hg1 hb1 h
      go_wp2_with fail
      refine (mark_natE (k + 9 * j + 5) _ (by omega) _ (by omega)).mono ?_
      rintro e w2 ⟨rfl, hb2⟩
      have ho := HS.out.keep (hb2.block _ HS.out.lt)
      have hg1 := grown_trans HG.out (grown_of_below hb2 (some g))
      clear q0 q1 q2 q3 q4 f0 f1 f2 f3 f4
      have q5 := ho.cell (j := 5) hlt (by decide)
      have f5 := ho.frozen (j * 9 + 5)
      have q6 := ho.cell (j := 6) hlt (by decide)
      have f6 := ho.frozen (j * 9 + 6)
      have hst := ((ho.set (j := 5) hlt (by decide) (.string ⟨(markS (k + 9 * j + 5)).toArray⟩)).set (j := 6) hlt (by decide) (.int .i64 ((k + 9 * j + 6 : Nat) : Int)))
      have hgn := (grown_setr (k := j * 9 + 6) (x := .int .i64 ((k + 9 * j + 6 : Nat) : Int)) (grown_setr (k := j * 9 + 5) (x := .string ⟨(markS (k + 9 * j + 5)).toArray⟩) hg1))
      have HS2 := Lib.hid hst; have HG2 := Lib.hid hgn
      clear hst hgn
      clear ho hg1 hb2 HS HG
      go_wp2_with fail
      refine (mark_natE (k + 9 * j + 7) _ (by omega) _ (by omega)).mono ?_
      rintro e w3 ⟨rfl, hb3⟩
      have ho := HS2.out.keep (hb3.block _ HS2.out.lt)
      have hg1 := grown_trans HG2.out (grown_of_below hb3 (some g))
      clear q5 q6 f5 f6
      have q7 := ho.cell (j := 7) hlt (by decide)
      have f7 := ho.frozen (j * 9 + 7)
      have q8 := ho.cell (j := 8) hlt (by decide)
      have f8 := ho.frozen (j * 9 + 8)
      have hst := ((ho.set (j := 7) hlt (by decide) (.string ⟨(markS (k + 9 * j + 7)).toArray⟩)).set (j := 8) hlt (by decide) (.int .i64 ((k + 9 * j + 8 : Nat) : Int)))
      have hgn := (grown_setr (k := j * 9 + 8) (x := .int .i64 ((k + 9 * j + 8 : Nat) : Int)) (grown_setr (k := j * 9 + 7) (x := .string ⟨(markS (k + 9 * j + 7)).toArray⟩) hg1))
      have HS3 := Lib.hid hst; have HG3 := Lib.hid hgn
      clear hst hgn
      clear ho hg1 hb3 HS2 HG2
      go_wp2
      go_roundw
      case rel => exact ⟨j + 1, by omega, by go_num, by go_num, HS3.out.congr fun i q _ hq => (updC9 _ j (mkE (k + 9 * j)) i q hq).trans (mkC_step k C j i q), HG3.out⟩
      case measure => simp [intOf]; omega
    · have hjn : j = n := by omega
      subst hjn
      go_wp2
      go_ret
      exact ⟨rfl, hown, hg⟩
end Go.Proofs.YtbhnjnoblkfckaaGreatDoor

