/- The laws' own helpers over storage: rows of entries sized, copied, equal. -/
import Derived.Test.YtbhnjnoblkfckaaStY
import Derived.Laws.MakeOwn
import Derived.Deep.RegionWith
namespace Go.Proofs.Ytbhnjnoblkfckaa
open Go.RowKit Go.Maps

/-- Block g holds n rows of nine values, the j-th of the i-th is C i j; none is frozen. -/
def CC (w : World) (g n : Nat) (C : Nat → Nat → Value) : Prop :=
  ∃ cur t, w.heap[g]? = some (.cells cur t (0, 0)) ∧ n * 9 ≤ cur.size ∧ ∀ i j, i < n → j < 9 → cur[i * 9 + j]? = some (C i j)
theorem CC.lt {w : World} {g n : Nat} {C : Nat → Nat → Value} (h : CC w g n C) : g < w.heap.size := by
  obtain ⟨cur, t, hh, _⟩ := h
  exact (Array.getElem?_eq_some_iff.1 hh).1
theorem CC.keep {w w' : World} {g n : Nat} {C : Nat → Nat → Value} (h : CC w g n C) (hk : w'.heap[g]? = w.heap[g]?) : CC w' g n C := by
  obtain ⟨cur, t, hh, r⟩ := h
  exact ⟨cur, t, hk.trans hh, r⟩
theorem CC.congr {w : World} {g n : Nat} {C C' : Nat → Nat → Value} (h : CC w g n C) (he : ∀ i j, i < n → j < 9 → C i j = C' i j) : CC w g n C' := by
  obtain ⟨cur, t, hh, hs, hc⟩ := h
  exact ⟨cur, t, hh, hs, fun i j hi hj => by rw [← he i j hi hj]; exact hc i j hi hj⟩
theorem CC.cell {w : World} {g n : Nat} {C : Nat → Nat → Value} (h : CC w g n C) {i j : Nat} (hi : i < n) (hj : j < 9) : w.cell? ⟨g, i * 9 + j, none⟩ = some (C i j) := by
  obtain ⟨cur, t, hh, hs, hc⟩ := h
  simp [World.cell?, hh, hc i j hi hj]
theorem CC.frozen {w : World} {g n : Nat} {C : Nat → Nat → Value} (h : CC w g n C) (j : Nat) : w.frozen? ⟨g, j, none⟩ = false := by
  obtain ⟨cur, t, hh, hs, hc⟩ := h
  simp [World.frozen?, hh]
def updC (C : Nat → Nat → Value) (i j : Nat) (x : Value) : Nat → Nat → Value := fun a b => if a = i ∧ b = j then x else C a b
theorem CC.set {w : World} {g n : Nat} {C : Nat → Nat → Value} (h : CC w g n C) {i j : Nat} (hi : i < n) (hj : j < 9) (x : Value) : CC (w.setCell ⟨g, i * 9 + j, none⟩ x) g n (updC C i j x) := by
  obtain ⟨cur, t, hh, hs, hc⟩ := h
  refine ⟨_, t, heap_setCell_same w g (i * 9 + j) cur t _ hh, by simpa using hs, fun a b ha hb => ?_⟩
  rw [Array.getElem?_setIfInBounds]
  unfold updC
  by_cases e : a = i ∧ b = j
  · obtain ⟨rfl, rfl⟩ := e
    rw [if_pos rfl, if_pos (by omega), if_pos ⟨rfl, rfl⟩]
  · rw [if_neg (fun k => e ⟨by omega, by omega⟩), if_neg e]
    exact hc a b ha hb
theorem CC.set0 {w : World} {g n : Nat} {C : Nat → Nat → Value} (h : CC w g n C) {i : Nat} (hi : i < n) (x : Value) : CC (w.setCell ⟨g, i * 9, none⟩ x) g n (updC C i 0 x) := by
  have := h.set (j := 0) hi (by decide) x
  rwa [Nat.add_zero] at this
theorem CC.cell0 {w : World} {g n : Nat} {C : Nat → Nat → Value} (h : CC w g n C) {i : Nat} (hi : i < n) : w.cell? ⟨g, i * 9, none⟩ = some (C i 0) := by
  have := h.cell (j := 0) hi (by decide)
  rwa [Nat.add_zero] at this

def cE (e : En) (j : Nat) : Value := (enL e).getD j undef
def eget (L : List En) (i : Nat) : En := (L[i]?).getD noEn
theorem eget_at {L : List En} {i : Nat} {e : En} (h : L[i]? = some e) : eget L i = e := by simp [eget, h]
theorem cE_at {e : En} {j : Nat} {x : Value} (h : (enL e)[j]? = some x) : cE e j = x := by
  unfold cE
  rw [List.getD_eq_getElem?_getD, h]; rfl
theorem CC.at {w : World} {g n : Nat} {C : Nat → Nat → Value} (h : CC w g n C) {i : Nat} {e : En} (hi : i < n) (he : ∀ j, j < 9 → C i j = cE e j) : EAt w g (0 + i * 9) e := by
  rw [Nat.zero_add]
  refine EAt.all fun j x hx => ?_
  have hj : j < 9 := (List.getElem?_eq_some_iff.1 hx).1
  rw [h.cell hi hj, he j hj, cE_at hx]
theorem CC.row {w : World} {g c : Nat} {L : List En} (h : CC w g L.length (fun i j => cE (eget L i) j)) (hc : L.length ≤ c) (hm : c ≤ maxLen) : ERow w (.slice (some ⟨g, 0, none⟩) L.length c) L :=
  ⟨_, _, rfl, hc, hm, fun j e hj => ⟨g, 0, rfl, h.lt, h.at (List.getElem?_eq_some_iff.1 hj).1 fun i _ => by rw [eget_at hj]⟩⟩
/-- A row of the call's own, as nine values for each. -/
theorem cc_of_own {w : World} {B g c : Nat} {T : TypeId} {L : List En} (h : w.ownsRow B T 9 (.slice (some ⟨g, 0, none⟩) L.length c) L.length (ecells L)) : CC w g L.length (fun i j => cE (eget L i) j) := by
  rcases h.2 with ⟨h, _⟩ | ⟨b, cap, cur, hv, hb, hh, hn, hm, hz, ht⟩
  · simp at h
  · obtain ⟨rfl, rfl⟩ : g = b ∧ c = cap := by simpa using hv
    refine ⟨cur, T, hh, by rw [hz]; exact Nat.mul_le_mul_right 9 hn, fun i j hi hj => ?_⟩
    obtain ⟨e, he⟩ : ∃ e, L[i]? = some e := ⟨_, List.getElem?_eq_getElem hi⟩
    obtain ⟨x, hx⟩ : ∃ x, (enL e)[j]? = some x := ⟨_, List.getElem?_eq_getElem (show j < (enL e).length from hj)⟩
    have hc := h.cells (g := g) rfl _ _ (ecells_at he hx)
    rw [add0] at hc
    simp only [World.cell?, hh] at hc
    show cur[i * 9 + j]? = some (cE (eget L i) j)
    rw [eget_at he, cE_at hx]
    exact hc

def st9 (w : World) (g k : Nat) (e : En) : World :=
  ((((((((w.setCell ⟨g, k * 9, none⟩ (.string e.place)).setCell ⟨g, k * 9 + 1, none⟩ (.int .i64 e.mask)).setCell ⟨g, k * 9 + 2, none⟩ (.int .i64 e.rsp.code)).setCell ⟨g, k * 9 + 3, none⟩ (.int .i64 e.rsp.mx)).setCell ⟨g, k * 9 + 4, none⟩ (.bool e.rsp.hide)).setCell ⟨g, k * 9 + 5, none⟩ (.string e.rsp.tag)).setCell ⟨g, k * 9 + 6, none⟩ (.int .i64 e.rsp.cod)).setCell ⟨g, k * 9 + 7, none⟩ (.string e.rsp.body)).setCell ⟨g, k * 9 + 8, none⟩ (.int .i64 e.tm)
def upto9 (L : List En) (k : Nat) : Nat → Nat → Value := fun i j => if i < k then cE (eget L i) j else cE noEn j
theorem updC9 (C : Nat → Nat → Value) (k : Nat) (e : En) (i j : Nat) (hj : j < 9) :
    updC (updC (updC (updC (updC (updC (updC (updC (updC C k 0 (.string e.place)) k 1 (.int .i64 e.mask)) k 2 (.int .i64 e.rsp.code)) k 3 (.int .i64 e.rsp.mx)) k 4 (.bool e.rsp.hide)) k 5 (.string e.rsp.tag)) k 6 (.int .i64 e.rsp.cod)) k 7 (.string e.rsp.body)) k 8 (.int .i64 e.tm) i j = if i = k then cE e j else C i j := by
  unfold updC
  by_cases hi : i = k
  · subst hi
    rw [if_pos rfl]
    match j, hj with
    | 0, _ => simp [cE, enL]
    | 1, _ => simp [cE, enL]
    | 2, _ => simp [cE, enL]
    | 3, _ => simp [cE, enL]
    | 4, _ => simp [cE, enL]
    | 5, _ => simp [cE, enL]
    | 6, _ => simp [cE, enL]
    | 7, _ => simp [cE, enL]
    | 8, _ => simp [cE, enL]
    | n + 9, h => exact absurd h (by omega)
  · simp [hi]
theorem CC.st9 {w : World} {g n k : Nat} {C : Nat → Nat → Value} (h : CC w g n C) (hk : k < n) (e : En) : CC (st9 w g k e) g n (fun i j => if i = k then cE e j else C i j) := by
  unfold Go.Proofs.Ytbhnjnoblkfckaa.st9
  exact (((((((((h.set0 hk _).set (j := 1) hk (by decide) _).set (j := 2) hk (by decide) _).set (j := 3) hk (by decide) _).set (j := 4) hk (by decide) _).set (j := 5) hk (by decide) _).set (j := 6) hk (by decide) _).set (j := 7) hk (by decide) _).set (j := 8) hk (by decide) _).congr fun i j _ hj => updC9 C k e i j hj
theorem below_st9 {B : Nat} {w w' : World} {g k : Nat} {e : En} (h : Below B w w') (hg : B ≤ g) : Below B w (st9 w' g k e) := by
  have s : ∀ (W : World) (j : Nat) (v : Value), Below B w W → Below B w (W.setCell ⟨g, j, none⟩ v) := fun W j v hW => hW.setCell (p := ⟨g, j, none⟩) hg _
  exact s _ _ _ (s _ _ _ (s _ _ _ (s _ _ _ (s _ _ _ (s _ _ _ (s _ _ _ (s _ _ _ (s _ _ _ h))))))))
theorem upto9_step {L : List En} {k : Nat} {e : En} (h : L[k]? = some e) (i j : Nat) : (if i = k then cE e j else upto9 L k i j) = upto9 L (k + 1) i j := by
  unfold upto9
  by_cases hi : i = k
  · subst hi; simp [eget_at h]
  · rw [if_neg hi]
    by_cases hl : i < k
    · rw [if_pos hl, if_pos (by omega)]
    · rw [if_neg hl, if_neg (by omega)]
theorem made_en (n : Nat) : (madeCells (enV noEn).cells (n * 9)).size = n * 9 ∧ ∀ i j, i < n → j < 9 → (madeCells (enV noEn).cells (n * 9))[i * 9 + j]? = some (cE noEn j) := by
  refine ⟨size_madeCells _ _, fun i j hi hj => ?_⟩
  have hc : (enV noEn).cells = (enL noEn).toArray := by rfl
  unfold madeCells
  rw [hc]
  rw [Array.getElem?_map, Array.getElem?_range, if_pos (by omega)]
  have hl : (enL noEn).length = 9 := rfl
  have : (i * 9 + j) % 9 = j := by omega
  simp [hl, this, cE, List.getD_eq_getElem?_getD, List.getElem?_eq_getElem (show j < (enL noEn).length from hj)]

set_option maxRecDepth 100000 in
set_option maxHeartbeats 1600000 in
theorem to_entries (v : Value) (L : List En) (w : World) (hR : ERow w v L) (hn : L.length ≤ 1048576) :
    Calls Try.prog 10 #[v] w fun e w' => e = .returned (.slice (some ⟨w.heap.size, 0, none⟩) L.length L.length) ∧ CC w' w.heap.size L.length (fun i j => cE (eget L i) j) ∧ Below w.heap.size w w' := by
  obtain ⟨i0, hi, hz0, hz1, hz2⟩ := info_parts Try.infoEn
  obtain ⟨a, c, rfl, h1, h2, h3⟩ := hR
  unfold maxLen at h2
  have H3 := Lib.hid h3; clear h3
  have hmk := fun W => run_make (P := Try.prog) W 27 37 i0 _ Try.underlying27 hi hz0 .i64 .i64 (L.length : Int) (L.length : Int) (by omega) (by omega) (by rw [hz2]; omega) (by omega)
  rw [hz1, Int.toNat_natCast] at hmk
  obtain ⟨m1, m2⟩ := made_en L.length
  change (madeCells (Value.agg #[.string ⟨#[]⟩, .int .i64 0, .int .i64 0, .int .i64 0, .bool false, .string ⟨#[]⟩, .int .i64 0, .string ⟨#[]⟩, .int .i64 0]).cells (L.length * 9)).size = _ at m1
  change ∀ i j, i < L.length → j < 9 → (madeCells (Value.agg #[.string ⟨#[]⟩, .int .i64 0, .int .i64 0, .int .i64 0, .bool false, .string ⟨#[]⟩, .int .i64 0, .string ⟨#[]⟩, .int .i64 0]).cells (L.length * 9))[i * 9 + j]? = _ at m2
  generalize madeCells (Value.agg #[.string ⟨#[]⟩, .int .i64 0, .int .i64 0, .int .i64 0, .bool false, .string ⟨#[]⟩, .int .i64 0, .string ⟨#[]⟩, .int .i64 0]).cells (L.length * 9) = M at hmk m1 m2
  have HM1 := Lib.hid m1; have HM2 := Lib.hid m2; clear m1 m2
  go_enter Try.func10, Try.ntmps10
  go_wp2
  go_loopw [4] (fun i wr => ∃ k : Nat, k ≤ L.length ∧ i = .int .i64 k ∧ CC wr w.heap.size L.length (upto9 L k) ∧ Below w.heap.size w wr) (fun i _ => L.length - (intOf i).toNat)
  case atStart => exact ⟨0, Nat.zero_le _, rfl, ⟨M, _, heap_alloc_new w _, Nat.le_of_eq HM1.out.symm, fun i j hi hj => by simpa [upto9] using HM2.out i j hi hj⟩, (Below.refl _ _).alloc (Nat.le_refl _) _⟩
  case round =>
    obtain ⟨k, hk, rfl, hown, hnx⟩ := hrel
    by_cases hlt : k < L.length
    · obtain ⟨e, hg⟩ : ∃ e, L[k]? = some e := ⟨_, List.getElem?_eq_getElem hlt⟩
      obtain ⟨b1, o1, rfl, hb1, he⟩ := H3.out k e hg
      obtain ⟨k0, k1, k2, k3, k4, k5, k6, k7, k8⟩ := he.keep (hnx.block b1 hb1)
      have hc := to_entry e
      unfold enV at hc
      have HK := Lib.hid hg; have HC := Lib.hid hc
      clear hc hg he
      go_wp2_with fail
      refine (HC.out _).mono ?_
      rintro e' w1 ⟨rfl, hb1'⟩
      have hnx1 := hnx.trans (hb1'.mono hnx.size)
      have hown1 := hown.keep (hb1'.block _ hown.lt)
      have q0 := hown1.cell0 hlt
      have q1 := hown1.cell (j := 1) hlt (by decide)
      have q2 := hown1.cell (j := 2) hlt (by decide)
      have q3 := hown1.cell (j := 3) hlt (by decide)
      have q4 := hown1.cell (j := 4) hlt (by decide)
      have q5 := hown1.cell (j := 5) hlt (by decide)
      have q6 := hown1.cell (j := 6) hlt (by decide)
      have q7 := hown1.cell (j := 7) hlt (by decide)
      have q8 := hown1.cell (j := 8) hlt (by decide)
      have f0 := hown1.frozen (k * 9)
      have f1 := hown1.frozen (k * 9 + 1)
      have f2 := hown1.frozen (k * 9 + 2)
      have f3 := hown1.frozen (k * 9 + 3)
      have f4 := hown1.frozen (k * 9 + 4)
      have f5 := hown1.frozen (k * 9 + 5)
      have f6 := hown1.frozen (k * 9 + 6)
      have f7 := hown1.frozen (k * 9 + 7)
      have f8 := hown1.frozen (k * 9 + 8)
      have hst := (hown1.st9 hlt e).congr fun i j _ _ => upto9_step HK.out i j
      have hnx9 := below_st9 (g := w.heap.size) (k := k) (e := e) hnx1 (Nat.le_refl _)
      unfold st9 at hst hnx9
      have HS := Lib.hid hst; have HN := Lib.hid hnx9
      clear hown hown1 hst hnx hnx1 hb1' hnx9 k0 k1 k2 k3 k4 k5 k6 k7 k8
      go_wp2
      go_roundw
      case rel => exact ⟨k + 1, by omega, by go_num, HS.out, HN.out⟩
      case measure => simp [intOf]; omega
    · have hkn : k = L.length := by omega
      subst hkn
      go_wp2
      go_ret
      exact ⟨rfl, hown.congr (fun i j hi _ => by simp [upto9, hi]), hnx⟩

set_option maxRecDepth 100000 in
set_option maxHeartbeats 1600000 in
theorem eq_entries (v1 v2 : Value) (L : List En) (w : World) (hF1 : ERow w v1 L) (hF2 : ERow w v2 L) (hn : L.length ≤ 4000000) :
    Calls Try.prog 13 #[v1, v2] w fun e w' => e = .returned (.bool true) ∧ Below w.heap.size w w' := by
  obtain ⟨a1, c1, rfl, _, _, h1⟩ := hF1
  obtain ⟨a2, c2, rfl, _, _, h2⟩ := hF2
  have H1 := Lib.hid h1; have H2 := Lib.hid h2; clear h1 h2
  go_enter Try.func13, Try.ntmps13
  go_wp2
  go_loopw [5] (fun i wr => ∃ k : Nat, k ≤ L.length ∧ i = .int .i64 k ∧ Below w.heap.size w wr) (fun i _ => L.length - (intOf i).toNat)
  case atStart => exact ⟨0, Nat.zero_le _, rfl, Below.refl _ _⟩
  case round =>
    obtain ⟨k, hk, rfl, hnx⟩ := hrel
    by_cases hlt : k < L.length
    · obtain ⟨e, hg⟩ : ∃ e, L[k]? = some e := ⟨_, List.getElem?_eq_getElem hlt⟩
      obtain ⟨b1, o1, rfl, hb1, he1⟩ := H1.out k e hg
      obtain ⟨b2, o2, rfl, hb2, he2⟩ := H2.out k e hg
      obtain ⟨k0, k1, k2, k3, k4, k5, k6, k7, k8⟩ := he1.keep (hnx.block b1 hb1)
      obtain ⟨l0, l1, l2, l3, l4, l5, l6, l7, l8⟩ := he2.keep (hnx.block b2 hb2)
      have hc := eq_entry e
      unfold enV at hc
      have HE := Lib.hid hc
      clear hc hg he1 he2 H1 H2
      have i1 : (k : Int) < (L.length : Int) := by omega
      have hs := hnx.size
      have HN := Lib.hid hnx; clear hnx
      go_wp2_with fail
      go_region_with (go_at_call 19; refine (HE.out _).mono ?_; rintro e' w1 ⟨rfl, hbx⟩; have hbz := HN.out.trans (below_drew_left (hbx.mono hs)))
      all_goals go_wp2
      all_goals go_roundw
      all_goals first
        | (case rel => exact ⟨k + 1, by omega, by go_num, hbz⟩)
        | (simp [intOf]; omega)
    · have hkn : k = L.length := by omega
      subst hkn
      go_wp2
      go_ret
      exact ⟨rfl, hnx⟩

set_option maxRecDepth 100000 in
set_option maxHeartbeats 1600000 in
theorem sz_entries (v : Value) (L : List En) (w : World) (hR : ERow w v L) (hok : EnsOk maxLen L) :
    Calls Try.prog 9 #[v, .int .i64 1048576] w fun e w' => (∃ r : Int, e = .returned (.int .i64 r) ∧ (r < 0 ∨ (0 ≤ r ∧ EnsOk 1048576 L ∧ L.length ≤ 1048576))) ∧ Below w.heap.size w w' := by
  obtain ⟨a, c, rfl, h1, h2, h3⟩ := hR
  unfold maxLen at h2
  have H3 := Lib.hid h3; have HOK := Lib.hid hok
  clear h3 hok
  by_cases hbig : 1048576 < L.length
  · go_enter Try.func9, Try.ntmps9
    go_wp2
    go_ret
    exact ⟨⟨-1, rfl, .inl (by omega)⟩, Below.refl _ _⟩
  · go_enter Try.func9, Try.ntmps9
    go_wp2
    go_loopw [1, 5] (fun x i wr => ∃ (k : Nat) (r : Int), k ≤ L.length ∧ i = .int .i64 k ∧ x = .int .i64 r ∧ 0 ≤ r ∧ r ≤ 1048576 ∧ Hid (∀ (j : Nat) (f : En), j < k → L[j]? = some f → EnOk 1048576 f) ∧ Below w.heap.size w wr) (fun _ i _ => L.length - (intOf i).toNat)
    case atStart => exact ⟨0, _, Nat.zero_le _, rfl, rfl, by omega, by omega, Lib.hid (fun j f hj => by omega), Below.refl _ _⟩
    case round =>
      obtain ⟨k, r, hk, rfl, rfl, hr0, hr1, hall, hnx⟩ := hrel
      by_cases hlt : k < L.length
      · obtain ⟨e, hg⟩ : ∃ e, L[k]? = some e := ⟨_, List.getElem?_eq_getElem hlt⟩
        obtain ⟨b1, o1, rfl, hb1, he⟩ := H3.out k e hg
        obtain ⟨k0, k1, k2, k3, k4, k5, k6, k7, k8⟩ := he.keep (hnx.block b1 hb1)
        have hc := sz_entry e r hr0 hr1 (HOK.out e (List.mem_of_getElem? hg))
        unfold enV at hc
        have HK := Lib.hid hg; have HC := Lib.hid hc
        clear hc hg he
        go_wp2_with fail
        refine (HC.out _).mono ?_
        rintro e' w1 ⟨⟨q, rfl, hz⟩, hb1'⟩
        have hnx1 := hnx.trans (hb1'.mono hnx.size)
        rcases hz with hq | ⟨q1, q2, q3⟩
        · go_wp2
          go_ret
          exact ⟨⟨-1, rfl, .inl (by omega)⟩, hnx1⟩
        · have HQ := Lib.hid q3
          clear q3
          have i1 : ¬ q < 0 := by omega
          go_wp2
          go_roundw
          case rel =>
            refine ⟨k + 1, q, by omega, by go_num, rfl, q1, by omega, Lib.hid (fun j f hj hjf => ?_), hnx1⟩
            rcases Nat.lt_or_ge j k with h | h
            · exact hall.out j f h hjf
            · have : j = k := by omega
              subst this
              rw [HK.out] at hjf
              cases hjf
              exact HQ.out
          case measure => simp [intOf]; omega
      · have hkn : k = L.length := by omega
        subst hkn
        go_wp2
        go_ret
        refine ⟨⟨r, rfl, .inr ⟨hr0, fun f hf => ?_, by omega⟩⟩, hnx⟩
        obtain ⟨j, hj, hjf⟩ := List.getElem_of_mem hf
        exact hall.out j f hj (by rw [List.getElem?_eq_getElem hj, hjf])
end Go.Proofs.Ytbhnjnoblkfckaa
