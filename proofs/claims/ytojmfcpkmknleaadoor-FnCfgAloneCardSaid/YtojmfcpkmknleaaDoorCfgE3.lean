/- The laws' own helpers over houses: a copy of houses, in blocks of its own. -/
import Derived.Test.YtojmfcpkmknleaaDoorCfgE2
namespace Go.Proofs.YtojmfcpkmknleaaDoor
open Go.RowKit Go.Maps

/-- Block g has room for n houses, the first k of them are there, the names of the i-th in block G i; all these blocks lie from B on, and no two are one. -/
def HOwn (w : World) (B g n k : Nat) (hs : List Hs) (G : Nat → Nat) : Prop :=
  B ≤ g ∧ (∃ cur t, w.heap[g]? = some (.cells cur t (0, 0)) ∧ cur.size = n * 4 ∧ (∀ i, i < n → ∃ a l c, cur[i * 4]? = some (.slice a l c)) ∧ ∀ i h, i < k → hs[i]? = some h → cur[i * 4]? = some (.slice (some ⟨G i, 0, none⟩) h.names.length h.names.length) ∧
    cur[i * 4 + 1]? = some (.int .i64 h.key) ∧ cur[i * 4 + 2]? = some (.int .i64 h.maxN) ∧ cur[i * 4 + 3]? = some (.int .i64 h.maxB)) ∧
  (∀ i h, i < k → hs[i]? = some h → B ≤ G i ∧ G i ≠ g ∧ SC w (G i) h.names.length (sget h.names)) ∧ ∀ i j, i < j → j < k → G i ≠ G j

theorem HOwn.lt {w : World} {B g n k : Nat} {hs : List Hs} {G : Nat → Nat} (h : HOwn w B g n k hs G) : g < w.heap.size := by
  obtain ⟨_, ⟨cur, t, hh, _⟩, _⟩ := h
  exact (Array.getElem?_eq_some_iff.1 hh).1
theorem HOwn.keep {w w' : World} {B g n k : Nat} {hs : List Hs} {G : Nat → Nat} (h : HOwn w B g n k hs G) (hk : ∀ b, b < w.heap.size → B ≤ b → w'.heap[b]? = w.heap[b]?) : HOwn w' B g n k hs G := by
  have hlt := h.lt
  obtain ⟨h0, ⟨cur, t, hh, hc⟩, hg, hd⟩ := h
  refine ⟨h0, ⟨cur, t, (hk g hlt h0).trans hh, hc⟩, fun i x hi hx => ?_, hd⟩
  obtain ⟨q1, q2, q3⟩ := hg i x hi hx
  exact ⟨q1, q2, q3.keep (hk _ q3.lt q1)⟩
theorem HOwn.below {w w' : World} {B g n k : Nat} {hs : List Hs} {G : Nat → Nat} (h : HOwn w B g n k hs G) {C : Nat} (hC : w.heap.size ≤ C) (hb : Below C w w') : HOwn w' B g n k hs G :=
  h.keep fun b hlt _ => hb.block b (by omega)
theorem HOwn.cells {w : World} {B g n k : Nat} {hs : List Hs} {G : Nat → Nat} (h : HOwn w B g n k hs G) {i : Nat} {x : Hs} (hi : i < k) (hx : hs[i]? = some x) :
    w.cell? ⟨g, i * 4, none⟩ = some (.slice (some ⟨G i, 0, none⟩) x.names.length x.names.length) ∧ w.cell? ⟨g, i * 4 + 1, none⟩ = some (.int .i64 x.key) ∧ w.cell? ⟨g, i * 4 + 2, none⟩ = some (.int .i64 x.maxN) ∧ w.cell? ⟨g, i * 4 + 3, none⟩ = some (.int .i64 x.maxB) := by
  obtain ⟨_, ⟨cur, t, hh, _, _, hc⟩, _⟩ := h
  obtain ⟨c0, c1, c2, c3⟩ := hc i x hi hx
  simp [World.cell?, hh, c0, c1, c2, c3]
theorem HOwn.frozen {w : World} {B g n k : Nat} {hs : List Hs} {G : Nat → Nat} (h : HOwn w B g n k hs G) (j : Nat) : w.frozen? ⟨g, j, none⟩ = false := by
  obtain ⟨_, ⟨cur, t, hh, _⟩, _⟩ := h
  simp [World.frozen?, hh]
theorem HOwn.there {w : World} {B g n k : Nat} {hs : List Hs} {G : Nat → Nat} (h : HOwn w B g n k hs G) {i : Nat} (hi : i < n) : (∃ x, w.cell? ⟨g, i * 4, none⟩ = some x) ∧ (∃ x, w.cell? ⟨g, i * 4 + 1, none⟩ = some x) ∧ (∃ x, w.cell? ⟨g, i * 4 + 2, none⟩ = some x) ∧ ∃ x, w.cell? ⟨g, i * 4 + 3, none⟩ = some x := by
  obtain ⟨_, ⟨cur, t, hh, hs, _⟩, _⟩ := h
  have : ∀ j, j < n * 4 → ∃ x, w.cell? ⟨g, j, none⟩ = some x := fun j hj => ⟨cur[j]'(by omega), by simp [World.cell?, hh, Array.getElem?_eq_getElem (show j < cur.size by omega)]⟩
  exact ⟨this _ (by omega), this _ (by omega), this _ (by omega), this _ (by omega)⟩
theorem HOwn.row {w : World} {B g : Nat} {hs : List Hs} {G : Nat → Nat} (h : HOwn w B g hs.length hs.length hs G) (hn : hs.length ≤ 1048576) (hm : ∀ x ∈ hs, x.names.length ≤ 1048576) : HRow w (.slice (some ⟨g, 0, none⟩) hs.length hs.length) hs := by
  refine ⟨_, _, rfl, Nat.le_refl _, by unfold maxLen; omega, fun j x hj => ?_⟩
  have hjl := (List.getElem?_eq_some_iff.1 hj).1
  obtain ⟨c0, c1, c2, c3⟩ := h.cells hjl hj
  have hlt := h.lt
  obtain ⟨_, _, hg, _⟩ := h
  obtain ⟨_, _, hsc⟩ := hg j x hjl hj
  refine ⟨g, 0, _, rfl, hlt, ?_, hsc.row (by unfold maxLen; have := hm x (List.mem_of_getElem? hj); omega), ?_, ?_, ?_⟩
  all_goals rw [Nat.zero_add]; assumption

def set4 (w : World) (g k : Nat) (a b c d : Value) : World := (((w.setCell ⟨g, k * 4, none⟩ a).setCell ⟨g, k * 4 + 1, none⟩ b).setCell ⟨g, k * 4 + 2, none⟩ c).setCell ⟨g, k * 4 + 3, none⟩ d
def updG (G : Nat → Nat) (k x : Nat) : Nat → Nat := fun i => if i = k then x else G i
theorem set4_other (w : World) (g k : Nat) (a b c d : Value) {j : Nat} (h : j ≠ g) : (set4 w g k a b c d).heap[j]? = w.heap[j]? := by
  unfold set4
  rw [heap_setCell_other _ ⟨g, k * 4 + 3, none⟩ j _ (by simpa using h), heap_setCell_other _ ⟨g, k * 4 + 2, none⟩ j _ (by simpa using h), heap_setCell_other _ ⟨g, k * 4 + 1, none⟩ j _ (by simpa using h), heap_setCell_other _ ⟨g, k * 4, none⟩ j _ (by simpa using h)]
theorem HOwn.step {w : World} {B g n k gk : Nat} {hs : List Hs} {G : Nat → Nat} {x : Hs} (h : HOwn w B g n k hs G) (hx : hs[k]? = some x) (hkn : k < n) (hB : B ≤ gk) (hne : gk ≠ g) (hnew : ∀ i, i < k → G i ≠ gk) (hsc : SC w gk x.names.length (sget x.names)) :
    HOwn (set4 w g k (.slice (some ⟨gk, 0, none⟩) x.names.length x.names.length) (.int .i64 x.key) (.int .i64 x.maxN) (.int .i64 x.maxB)) B g n (k + 1) hs (updG G k gk) := by
  obtain ⟨h0, ⟨cur, t, hh, hsz, hsl, hc⟩, hg, hd⟩ := h
  have s1 := heap_setCell_same w g (k * 4) cur t (.slice (some ⟨gk, 0, none⟩) x.names.length x.names.length) hh
  have s2 := heap_setCell_same _ g (k * 4 + 1) _ t (.int .i64 x.key) s1
  have s3 := heap_setCell_same _ g (k * 4 + 2) _ t (.int .i64 x.maxN) s2
  have s4 := heap_setCell_same _ g (k * 4 + 3) _ t (.int .i64 x.maxB) s3
  refine ⟨h0, ⟨_, t, s4, by simpa using hsz, fun i hi => ?_, fun i y hi hy => ?_⟩, fun i y hi hy => ?_, fun i j hij hj => ?_⟩
  · by_cases e : i = k
    · subst e
      exact ⟨some ⟨gk, 0, none⟩, x.names.length, x.names.length, by
        rw [Array.getElem?_setIfInBounds_ne (by omega), Array.getElem?_setIfInBounds_ne (by omega), Array.getElem?_setIfInBounds_ne (by omega), Array.getElem?_setIfInBounds_self_of_lt (by omega)]⟩
    · obtain ⟨a, l, c, q⟩ := hsl i hi
      exact ⟨a, l, c, by
        rw [Array.getElem?_setIfInBounds_ne (by omega), Array.getElem?_setIfInBounds_ne (by omega), Array.getElem?_setIfInBounds_ne (by omega), Array.getElem?_setIfInBounds_ne (by omega)]; exact q⟩
  · by_cases e : i = k
    · subst e
      rw [hx] at hy; cases hy
      simp only [updG, if_true]
      refine ⟨?_, ?_, ?_, ?_⟩
      · rw [Array.getElem?_setIfInBounds_ne (by omega), Array.getElem?_setIfInBounds_ne (by omega), Array.getElem?_setIfInBounds_ne (by omega), Array.getElem?_setIfInBounds_self_of_lt (by omega)]
      · rw [Array.getElem?_setIfInBounds_ne (by omega), Array.getElem?_setIfInBounds_ne (by omega), Array.getElem?_setIfInBounds_self_of_lt (by simp; omega)]
      · rw [Array.getElem?_setIfInBounds_ne (by omega), Array.getElem?_setIfInBounds_self_of_lt (by simp; omega)]
      · rw [Array.getElem?_setIfInBounds_self_of_lt (by simp; omega)]
    · obtain ⟨c0, c1, c2, c3⟩ := hc i y (by omega) hy
      simp only [updG, if_neg e]
      refine ⟨?_, ?_, ?_, ?_⟩
      all_goals
        rw [Array.getElem?_setIfInBounds_ne (by omega), Array.getElem?_setIfInBounds_ne (by omega), Array.getElem?_setIfInBounds_ne (by omega), Array.getElem?_setIfInBounds_ne (by omega)]
        assumption
  · by_cases e : i = k
    · subst e
      rw [hx] at hy; cases hy
      simp only [updG, if_true]
      exact ⟨hB, hne, hsc.keep (set4_other w g _ _ _ _ _ hne)⟩
    · obtain ⟨q1, q2, q3⟩ := hg i y (by omega) hy
      simp only [updG, if_neg e]
      exact ⟨q1, q2, q3.keep (set4_other w g _ _ _ _ _ q2)⟩
  · unfold updG
    by_cases e : j = k
    · rw [if_pos e, if_neg (by omega)]; exact hnew i (by omega)
    · rw [if_neg (by omega), if_neg e]; exact hd i j hij (by omega)
theorem below_set4 {b : Nat} {w w3 : World} {k : Nat} {x y z u : Value} (h : Below b w w3) : Below b w (set4 w3 b k x y z u) := by
  have q : ∀ (W : World) (j : Nat) (v : Value), Below b w W → Below b w (W.setCell ⟨b, j, none⟩ v) := fun W j v hW => hW.setCell (p := ⟨b, j, none⟩) (Nat.le_refl _) _
  exact q _ _ _ (q _ _ _ (q _ _ _ (q _ _ _ h)))

theorem Tryd.infoHs : (Tryd.prog.info? 33).map (fun i => (i.zero, i.size, i.bytes)) = some (some (.agg #[.slice none 0 0, .int .i64 0, .int .i64 0, .int .i64 0]), 4, 48) := by kernel_rfl
theorem made_hs (n : Nat) : (madeCells (Value.agg #[.slice none 0 0, .int .i64 0, .int .i64 0, .int .i64 0]).cells (n * 4)).size = n * 4 ∧ ∀ i, i < n → (madeCells (Value.agg #[.slice none 0 0, .int .i64 0, .int .i64 0, .int .i64 0]).cells (n * 4))[i * 4]? = some (.slice none 0 0) := by
  refine ⟨size_madeCells _ _, fun i hi => ?_⟩
  have hc : (Value.agg #[.slice none 0 0, .int .i64 0, .int .i64 0, .int .i64 0]).cells = #[.slice none 0 0, .int .i64 0, .int .i64 0, .int .i64 0] := by rfl
  unfold madeCells
  rw [hc]
  rw [Array.getElem?_map, Array.getElem?_range, if_pos (by omega)]
  simp

theorem three_new (w : World) (a b c : Obj) : (((w.alloc a).alloc b).alloc c).heap[w.heap.size]? = some a ∧ (((w.alloc a).alloc b).alloc c).heap[w.heap.size + 1]? = some b ∧ (((w.alloc a).alloc b).alloc c).heap[w.heap.size + 1 + 1]? = some c := by
  refine ⟨?_, ?_, ?_⟩
  · exact (Below.heap_alloc _ _ _ (by simp; omega)).trans ((Below.heap_alloc _ _ _ (by simp)).trans (World.alloc_heap_new w a))
  · have := World.alloc_heap_new (w.alloc a) b
    rw [World.size_alloc] at this
    exact (Below.heap_alloc _ _ _ (by simp)).trans this
  · have := World.alloc_heap_new ((w.alloc a).alloc b) c
    rw [World.size_alloc, World.size_alloc] at this
    exact this

theorem four_set {w' : World} {g : Nat} {x0 x1 x2 x3 : Value} {T : TypeId} (h : w'.heap[g]? = some (.cells #[x0, x1, x2, x3] T (0, 0))) (a b c d : Value) :
    ((((w'.setCell ⟨g, 0, none⟩ a).setCell ⟨g, 1, none⟩ b).setCell ⟨g, 2, none⟩ c).setCell ⟨g, 3, none⟩ d).heap[g]? = some (.cells #[a, b, c, d] T (0, 0)) := by
  have h1 := heap_setCell_same w' g 0 _ _ a h
  have h2 := heap_setCell_same _ g 1 _ _ b h1
  have h3 := heap_setCell_same _ g 2 _ _ c h2
  have h4 := heap_setCell_same _ g 3 _ _ d h3
  rw [h4]; rfl
theorem four_other (w' : World) {g j : Nat} (a b c d : Value) (h : j ≠ g) : ((((w'.setCell ⟨g, 0, none⟩ a).setCell ⟨g, 1, none⟩ b).setCell ⟨g, 2, none⟩ c).setCell ⟨g, 3, none⟩ d).heap[j]? = w'.heap[j]? := by
  rw [heap_setCell_other _ ⟨g, 3, none⟩ j _ (by simpa using h), heap_setCell_other _ ⟨g, 2, none⟩ j _ (by simpa using h), heap_setCell_other _ ⟨g, 1, none⟩ j _ (by simpa using h), heap_setCell_other _ ⟨g, 0, none⟩ j _ (by simpa using h)]
theorem four_below {B : Nat} {w w' : World} {g : Nat} (a b c d : Value) (h : Below B w w') (hg : B ≤ g) : Below B w ((((w'.setCell ⟨g, 0, none⟩ a).setCell ⟨g, 1, none⟩ b).setCell ⟨g, 2, none⟩ c).setCell ⟨g, 3, none⟩ d) := by
  have q : ∀ (W : World) (j : Nat) (v : Value), Below B w W → Below B w (W.setCell ⟨g, j, none⟩ v) := fun W j v hW => hW.setCell (p := ⟨g, j, none⟩) hg _
  exact q _ _ _ (q _ _ _ (q _ _ _ (q _ _ _ h)))

set_option maxHeartbeats 1600000 in
theorem to_house (h : Hs) (u : Value) (w : World) (hS : SRow w u h.names) (hn : h.names.length ≤ 1048576) :
    Calls Tryd.prog 53 #[.agg #[u, .int .i64 h.key, .int .i64 h.maxN, .int .i64 h.maxB]] w fun e w' => ∃ g, e = .returned (.agg #[.slice (some ⟨g, 0, none⟩) h.names.length h.names.length, .int .i64 h.key, .int .i64 h.maxN, .int .i64 h.maxB]) ∧ w.heap.size ≤ g ∧ SC w' g h.names.length (sget h.names) ∧ Below w.heap.size w w' := by
  obtain ⟨sa, sc, rfl, _⟩ := srow_get hS
  obtain ⟨wA, hwA⟩ : ∃ wA, wA = ((w.alloc (.cells #[.slice sa h.names.length sc, .int .i64 h.key, .int .i64 h.maxN, .int .i64 h.maxB] 88)).alloc (.cells #[.slice none 0 0, .int .i64 0, .int .i64 0, .int .i64 0] 33)).alloc (.cells #[.slice none 0 0, .int .i64 0, .int .i64 0, .int .i64 0] 33) := ⟨_, rfl⟩
  have hsA : wA.heap.size = w.heap.size + 3 := by rw [hwA]; simp
  have hbA : Below w.heap.size w wA := by rw [hwA]; exact (((Below.refl _ _).alloc (Nat.le_refl _) _).alloc (by simp) _).alloc (by simp; omega) _
  have hC := to_strs _ h.names wA (hS.below (Nat.le_refl _) hbA) hn
  obtain ⟨hx0, hx1, hx2⟩ := three_new w (.cells #[.slice sa h.names.length sc, .int .i64 h.key, .int .i64 h.maxN, .int .i64 h.maxB] 88) (.cells #[.slice none 0 0, .int .i64 0, .int .i64 0, .int .i64 0] 33) (.cells #[.slice none 0 0, .int .i64 0, .int .i64 0, .int .i64 0] 33)
  rw [← hwA] at hx0 hx1 hx2
  obtain ⟨t0, t1, t2, t3, _⟩ := four_facts hx0
  rw [hwA] at t0 t1 t2 t3
  have HwA := Lib.hid hwA
  have HBA := Lib.hid hbA
  clear hwA hbA
  go_enter Tryd.func53, Tryd.ntmps53
  go_wp2_with fail
  rw [← HwA.out]
  refine hC.mono ?_
  rintro e w1 ⟨rfl, hsc, hb1⟩
  have hy0 := (hb1.block w.heap.size (by omega)).trans hx0
  have hy1 := (hb1.block (w.heap.size + 1) (by omega)).trans hx1
  have hy2 := (hb1.block (w.heap.size + 1 + 1) (by omega)).trans hx2
  have HB := Lib.hid (HBA.out.trans (hb1.mono (by omega)))
  have HSC := Lib.hid hsc
  clear t0 t1 t2 t3 hx0 hx1 hx2 hC hb1 hsc
  obtain ⟨t0, t1, t2, t3, _⟩ := four_facts hy0
  obtain ⟨p0, p1, p2, p3, f0, f1, f2, f3⟩ := four_facts hy1
  obtain ⟨r0, r1, r2, r3, e0, e1, e2, e3⟩ := four_facts hy2
  have hz1 := (four_other w1 (g := w.heap.size + 1 + 1) (j := w.heap.size + 1) (.slice (some ⟨w.heap.size + 3, 0, none⟩) h.names.length h.names.length) (.int .i64 h.key) (.int .i64 h.maxN) (.int .i64 h.maxB) (by omega)).trans hy1
  have hz2 := four_set hz1 (.slice (some ⟨w.heap.size + 3, 0, none⟩) h.names.length h.names.length) (.int .i64 h.key) (.int .i64 h.maxN) (.int .i64 h.maxB)
  have hfin := four_below (g := w.heap.size + 1) (.slice (some ⟨w.heap.size + 3, 0, none⟩) h.names.length h.names.length) (.int .i64 h.key) (.int .i64 h.maxN) (.int .i64 h.maxB) (four_below (g := w.heap.size + 1 + 1) (.slice (some ⟨w.heap.size + 3, 0, none⟩) h.names.length h.names.length) (.int .i64 h.key) (.int .i64 h.maxN) (.int .i64 h.maxB) HB.out (by omega)) (by omega)
  have hk := (four_other _ (g := w.heap.size + 1) (j := w.heap.size + 3) (.slice (some ⟨w.heap.size + 3, 0, none⟩) h.names.length h.names.length) (.int .i64 h.key) (.int .i64 h.maxN) (.int .i64 h.maxB) (by omega)).trans (four_other w1 (g := w.heap.size + 1 + 1) (j := w.heap.size + 3) (.slice (some ⟨w.heap.size + 3, 0, none⟩) h.names.length h.names.length) (.int .i64 h.key) (.int .i64 h.maxN) (.int .i64 h.maxB) (by omega))
  have hsc := HSC.out
  rw [hsA] at hsc
  have HF := Lib.hid (And.intro hz2 (And.intro hfin (hsc.keep hk)))
  clear hy0 hy1 hy2 hz1 hz2 hfin hk hsc
  go_wp2
  obtain ⟨hz2, hfin, hsc⟩ := HF.out
  obtain ⟨k0, k1, k2, k3, _⟩ := four_facts hz2
  exact bodyPost_ret (v := .agg #[.slice (some ⟨w.heap.size + 3, 0, none⟩) h.names.length h.names.length, .int .i64 h.key, .int .i64 h.maxN, .int .i64 h.maxB]) (by simp [results, Tryd.results53, go_sem, k0, k1, k2, k3]) rfl ⟨w.heap.size + 3, rfl, by omega, hsc, hfin⟩

set_option maxRecDepth 100000 in
set_option maxHeartbeats 1600000 in
theorem to_houses (v : Value) (hs : List Hs) (w : World) (hH : HRow w v hs) (hn : hs.length ≤ 1048576) (hm : ∀ x ∈ hs, x.names.length ≤ 1048576) :
    Calls Tryd.prog 38 #[v] w fun e w' => ∃ G, e = .returned (.slice (some ⟨w.heap.size, 0, none⟩) hs.length hs.length) ∧ HOwn w' w.heap.size w.heap.size hs.length hs.length hs G ∧ Below w.heap.size w w' := by
  obtain ⟨i0, hi, hz0, hz1, hz2⟩ := info_parts Tryd.infoHs
  have hH0 := hH
  obtain ⟨a, c, rfl, h1, h2, _⟩ := hH0
  unfold maxLen at h2
  have HH := Lib.hid hH; have HM := Lib.hid hm
  clear hH hm
  have hmk := fun W => run_make (P := Tryd.prog) W 23 33 i0 _ Tryd.underlying23 hi hz0 .i64 .i64 (hs.length : Int) (hs.length : Int) (by omega) (by omega) (by rw [hz2]; omega) (by omega)
  rw [hz1, Int.toNat_natCast] at hmk
  obtain ⟨m1, m2⟩ := made_hs hs.length
  generalize madeCells (Value.agg #[.slice none 0 0, .int .i64 0, .int .i64 0, .int .i64 0]).cells (hs.length * 4) = M at hmk m1 m2
  have HM1 := Lib.hid m1; have HM2 := Lib.hid m2; clear m1 m2
  go_enter Tryd.func38, Tryd.ntmps38
  go_wp2
  go_loopw [4] (fun i wr => ∃ (k : Nat) (G : Nat → Nat), k ≤ hs.length ∧ i = .int .i64 k ∧ HOwn wr w.heap.size w.heap.size hs.length k hs G ∧ Below w.heap.size w wr) (fun i _ => hs.length - (intOf i).toNat)
  case atStart => exact ⟨0, fun _ => 0, Nat.zero_le _, rfl, ⟨Nat.le_refl _, ⟨M, _, heap_alloc_new w _, HM1.out, fun i hi => ⟨none, 0, 0, HM2.out i hi⟩, fun i h hi => absurd hi (Nat.not_lt_zero i)⟩, fun i h hi => absurd hi (Nat.not_lt_zero i), fun i j _ hj => absurd hj (Nat.not_lt_zero j)⟩, (Below.refl _ _).alloc (Nat.le_refl _) _⟩
  case round =>
    obtain ⟨k, G, hk, rfl, hown, hnx⟩ := hrel
    by_cases hlt : k < hs.length
    · obtain ⟨h, hg⟩ : ∃ h, hs[k]? = some h := ⟨_, List.getElem?_eq_getElem hlt⟩
      obtain ⟨_, _, e1, _, _, hh⟩ := HH.out.below (Nat.le_refl _) hnx
      obtain ⟨b, o, u, ea, hb, c1, hS, c2, c3, c4⟩ := hh k h hg
      have ha : a = some ⟨b, o, none⟩ := by injection e1 with e1 _ _; rw [e1, ea]
      subst ha
      have hC := to_house h u wr hS (HM.out h (List.mem_of_getElem? hg))
      have HG := Lib.hid hg
      have HOw := Lib.hid hown
      have HNx := Lib.hid hnx
      have hl0 := hown.lt
      clear hS hh e1 hg ea hnx hown
      go_wp2_with fail
      refine hC.mono ?_
      rintro e w2 ⟨gk, rfl, hgk, hsc, hb2⟩
      have hown2 := HOw.out.below (Nat.le_refl _) hb2
      have hstep := hown2.step HG.out hlt (by omega) (by omega) (fun i hi => by
        obtain ⟨y, hy⟩ : ∃ y, hs[i]? = some y := ⟨_, List.getElem?_eq_getElem (by omega)⟩
        have := (HOw.out.2.2.1 i y hi hy).2.2.lt
        omega) hsc
      obtain ⟨⟨y0, q0⟩, ⟨y1, q1⟩, ⟨y2, q2⟩, ⟨y3, q3⟩⟩ := hown2.there hlt
      have f0 := hown2.frozen (k * 4)
      have f1 := hown2.frozen (k * 4 + 1)
      have f2 := hown2.frozen (k * 4 + 2)
      have f3 := hown2.frozen (k * 4 + 3)
      have HS := Lib.hid hstep
      have HB := Lib.hid (HNx.out.trans (hb2.mono HNx.out.size))
      clear hC hb2 c1 c2 c3 c4 hown2 hstep hsc
      go_wp2
      exact ⟨⟨k + 1, updG G k gk, by omega, by simp, HS.out, below_set4 HB.out⟩, by simp [intOf]; omega⟩
    · have hkn : k = hs.length := by omega
      subst hkn
      go_wp2
      go_ret
      exact ⟨G, rfl, hown, hnx⟩
end Go.Proofs.YtojmfcpkmknleaaDoor
