import Derived.Test.YtbhnjnoblkfckaaGreatDoorGZ05
import Derived.Test.YtbhnjnoblkfckaaGreatDoorGZ11
import Derived.BigQuiet
import Derived.Deep.RegionWith
import Derived.Test.YtbhnjnoblkfckaaGreatDoorGZ20
-- from XCfgE
/- The laws' own helpers over houses: sizes, copies, equality. -/
namespace Go.Proofs.YtbhnjnoblkfckaaGreatDoor
open Go.RowKit Go.Maps

set_option maxHeartbeats 800000 in
theorem sz_strs (v : Value) (L : List ByteArray) (r : Int) (hr0 : 0 ≤ r) (hr1 : r ≤ 1048576) (w : World) (hS : NRow w v L) (hN : NOk L maxLen) :
    Calls Tryz.prog 36 #[v, .int .i64 r] w fun e w' => (∃ q : Int, e = .returned (.int .i64 q) ∧ (q < 0 ∨ (0 ≤ q ∧ q ≤ 1048576 ∧ NOk L 1048576 ∧ L.length ≤ 1048576))) ∧ w = w' := by
  obtain ⟨a, c, rfl, h1, h2, h3⟩ := hS
  unfold maxLen at h2 hN
  have H3 := Lib.hid h3; have HN := Lib.hid hN
  clear h3 hN
  by_cases hbig : r < L.length
  · go_enter Tryz.func36, Tryz.ntmps36
    go_wp2
    go_ret
    exact ⟨⟨-1, rfl, .inl (by omega)⟩, rfl⟩
  · go_enter Tryz.func36, Tryz.ntmps36
    go_wp2
    go_loopw [1, 5] (fun x i wr => ∃ (k : Nat) (q : Int), k ≤ L.length ∧ i = .int .i64 k ∧ x = .int .i64 q ∧ 0 ≤ q ∧ q ≤ 1048576 ∧ Hid (∀ (j : Nat) (s : ByteArray), j < k → L[j]? = some s → s.size ≤ 1048576) ∧ wr = w) (fun _ i _ => L.length - (intOf i).toNat)
    case atStart => exact ⟨0, _, Nat.zero_le _, rfl, rfl, by omega, by omega, Lib.hid (fun j f hj => by omega), rfl⟩
    case round =>
      obtain ⟨k, q, hk, rfl, rfl, hq0, hq1, hall, rfl⟩ := hrel
      by_cases hlt : k < L.length
      · obtain ⟨s, hg⟩ : ∃ s, L[k]? = some s := ⟨_, List.getElem?_eq_getElem hlt⟩
        obtain ⟨b, o, ea, _, c1⟩ := H3.out k s hg
        subst ea
        have hs := HN.out s (List.mem_of_getElem? hg)
        have HG := Lib.hid hg
        clear hg
        by_cases hle : (s.size : Int) ≤ q
        · have i1 : ¬ (q - (s.size : Int) < 0) := by omega
          go_wp2
          go_roundw
          case rel =>
            refine ⟨k + 1, q - (s.size : Int), by omega, by go_num, by go_num, by omega, by omega, Lib.hid (fun j t hj ht => ?_), trivial⟩
            by_cases e : j = k
            · subst e; rw [HG.out] at ht; cases ht; omega
            · exact hall.out j t (by omega) ht
          case measure => simp [intOf]; omega
        · have i1 : q - (s.size : Int) < 0 := by omega
          go_wp2
          go_ret
          exact ⟨⟨-1, rfl, .inl (by omega)⟩, rfl⟩
      · have hkl : k = L.length := by omega
        go_wp2
        go_ret
        exact ⟨⟨q, rfl, .inr ⟨hq0, hq1, fun s hs => by
          obtain ⟨j, hj, rfl⟩ := List.mem_iff_getElem.1 hs
          exact hall.out j _ (by omega) (List.getElem?_eq_getElem hj), by omega⟩⟩, rfl⟩

set_option maxHeartbeats 800000 in
theorem sz_house (h : Hs) (u : Value) (r : Int) (hr0 : 0 ≤ r) (hr1 : r ≤ 1048576) (w : World) (hS : NRow w u h.names) (hN : NOk h.names maxLen) :
    Calls Tryz.prog 10 #[.agg #[u, .int .i64 h.key, .int .i64 h.maxN, .int .i64 h.maxB], .int .i64 r] w fun e w' => (∃ q : Int, e = .returned (.int .i64 q) ∧ (q < 0 ∨ (0 ≤ q ∧ q ≤ 1048576 ∧ NOk h.names 1048576 ∧ h.names.length ≤ 1048576))) ∧ Below w.heap.size w w' := by
  have hbA : Below w.heap.size w (w.alloc (.cells #[u, .int .i64 h.key, .int .i64 h.maxN, .int .i64 h.maxB] 24)) := (Below.refl _ _).alloc (Nat.le_refl _) _
  have hC := sz_strs u h.names r hr0 hr1 _ (hS.below (Nat.le_refl _) hbA) hN
  obtain ⟨sa, sc, rfl, _⟩ := nrow_get hS
  have HB := Lib.hid hbA
  clear hbA hN
  go_enter Tryz.func10, Tryz.ntmps10
  go_wp2_with fail
  refine hC.mono ?_
  rintro e w1 ⟨⟨q, rfl, hq⟩, rfl⟩
  clear hC
  rcases hq with hq | ⟨q0, q1, q2, q3⟩
  · go_wp2
    go_ret
    exact ⟨⟨-1, rfl, .inl (by omega)⟩, HB.out⟩
  · have i1 : ¬ q < 0 := by omega
    go_wp2
    go_ret
    exact ⟨⟨q, rfl, .inr ⟨q0, q1, q2, q3⟩⟩, HB.out⟩

end Go.Proofs.YtbhnjnoblkfckaaGreatDoor

-- from XCfgE2
/- The laws' own helpers over houses: copies, each list in a block of its own. -/
namespace Go.Proofs.YtbhnjnoblkfckaaGreatDoor
open Go.RowKit Go.Maps

def sget (L : List ByteArray) (i : Nat) : ByteArray := (L[i]?).getD ⟨#[]⟩
theorem sget_at {L : List ByteArray} {i : Nat} {s : ByteArray} (h : L[i]? = some s) : sget L i = s := by simp [sget, h]
/-- Block g holds n texts; none is frozen. -/
def SC (w : World) (g n : Nat) (F : Nat → ByteArray) : Prop :=
  ∃ cur, w.heap[g]? = some (.cells cur 9 (0, 0)) ∧ cur.size = n ∧ ∀ i, i < n → cur[i]? = some (.string (F i))
theorem SC.lt {w : World} {g n : Nat} {F : Nat → ByteArray} (h : SC w g n F) : g < w.heap.size := by
  obtain ⟨cur, hh, _⟩ := h
  exact (Array.getElem?_eq_some_iff.1 hh).1
theorem SC.keep {w w' : World} {g n : Nat} {F : Nat → ByteArray} (h : SC w g n F) (hk : w'.heap[g]? = w.heap[g]?) : SC w' g n F := by
  obtain ⟨cur, hh, r⟩ := h
  exact ⟨cur, hk.trans hh, r⟩
theorem SC.congr {w : World} {g n : Nat} {F F' : Nat → ByteArray} (h : SC w g n F) (he : ∀ i, i < n → F i = F' i) : SC w g n F' := by
  obtain ⟨cur, hh, hs, hc⟩ := h
  exact ⟨cur, hh, hs, fun i hi => by rw [← he i hi]; exact hc i hi⟩
theorem SC.cell {w : World} {g n : Nat} {F : Nat → ByteArray} (h : SC w g n F) {i : Nat} (hi : i < n) : w.cell? ⟨g, i, none⟩ = some (.string (F i)) := by
  obtain ⟨cur, hh, hs, hc⟩ := h
  simp [World.cell?, hh, hc i hi]
theorem SC.frozen {w : World} {g n : Nat} {F : Nat → ByteArray} (h : SC w g n F) (j : Nat) : w.frozen? ⟨g, j, none⟩ = false := by
  obtain ⟨cur, hh, hs, hc⟩ := h
  simp [World.frozen?, hh]
def updS (F : Nat → ByteArray) (i : Nat) (s : ByteArray) : Nat → ByteArray := fun j => if j = i then s else F j
theorem SC.set {w : World} {g n : Nat} {F : Nat → ByteArray} (h : SC w g n F) {i : Nat} (_hi : i < n) (s : ByteArray) : SC (w.setCell ⟨g, i, none⟩ (.string s)) g n (updS F i s) := by
  obtain ⟨cur, hh, hs, hc⟩ := h
  refine ⟨_, heap_setCell_same w g i cur _ _ hh, by simpa using hs, fun j hj => ?_⟩
  rw [Array.getElem?_setIfInBounds]
  unfold updS
  by_cases e : j = i
  · subst e
    simp only [if_true, show j < cur.size from by omega]
  · rw [if_neg (fun k => e k.symm), if_neg e]
    exact hc j hj
theorem SC.row {w : World} {g : Nat} {L : List ByteArray} (h : SC w g L.length (sget L)) (hn : L.length ≤ maxLen) : NRow w (.slice (some ⟨g, 0, none⟩) L.length L.length) L := by
  refine ⟨_, _, rfl, Nat.le_refl _, hn, fun j s hj => ⟨g, 0, rfl, h.lt, ?_⟩⟩
  have := h.cell (i := j) (List.getElem?_eq_some_iff.1 hj).1
  rw [sget_at hj] at this
  rw [Nat.zero_add]; exact this

def uptoS (L : List ByteArray) (k : Nat) : Nat → ByteArray := fun i => if i < k then sget L i else ⟨#[]⟩
theorem uptoS_step {L : List ByteArray} {k : Nat} {a : ByteArray} (h : L[k]? = some a) : updS (uptoS L k) k a = uptoS L (k + 1) := by
  funext i
  unfold updS uptoS
  by_cases e : i = k
  · subst e; simp [sget_at h]
  · rw [if_neg e]
    by_cases hi : i < k
    · rw [if_pos hi, if_pos (by omega)]
    · rw [if_neg hi, if_neg (by omega)]
theorem made_str (n : Nat) : (madeCells (Value.string ⟨#[]⟩).cells (n * 1)).size = n ∧ ∀ i, i < n → (madeCells (Value.string ⟨#[]⟩).cells (n * 1))[i]? = some (.string ⟨#[]⟩) := by
  have h1 : (madeCells (Value.string ⟨#[]⟩).cells (n * 1)).size = n * 1 := size_madeCells _ _
  refine ⟨by omega, fun i hi => ?_⟩
  have hc : (Value.string ⟨#[]⟩).cells = #[.string ⟨#[]⟩] := by rfl
  unfold madeCells
  rw [hc]
  rw [Array.getElem?_map, Array.getElem?_range, if_pos (by omega)]
  simp [Nat.mod_one]

set_option maxHeartbeats 800000 in
theorem to_strs (v : Value) (L : List ByteArray) (w : World) (hS : NRow w v L) (hn : L.length ≤ 1048576) :
    Calls Tryz.prog 41 #[v] w fun e w' => e = .returned (.slice (some ⟨w.heap.size, 0, none⟩) L.length L.length) ∧ SC w' w.heap.size L.length (sget L) ∧ Below w.heap.size w w' := by
  obtain ⟨i0, hi, hz0, hz1, hz2⟩ := info_parts Tryz.infoStrC
  obtain ⟨a, c, rfl, h1, h2, h3⟩ := hS
  unfold maxLen at h2
  have H3 := Lib.hid h3; clear h3
  have hmk := fun W => run_make (P := Tryz.prog) W 22 9 i0 _ Tryz.underlying22 hi hz0 .i64 .i64 (L.length : Int) (L.length : Int) (by omega) (by omega) (by rw [hz2]; omega) (by omega)
  rw [hz1, Int.toNat_natCast] at hmk
  obtain ⟨m1, m2⟩ := made_str L.length
  generalize madeCells (Value.string ⟨#[]⟩).cells (L.length * 1) = M at hmk m1 m2
  have HM1 := Lib.hid m1; have HM2 := Lib.hid m2; clear m1 m2
  go_enter Tryz.func41, Tryz.ntmps41
  go_wp2
  go_loopw [4] (fun i wr => ∃ k : Nat, k ≤ L.length ∧ i = .int .i64 k ∧ SC wr w.heap.size L.length (uptoS L k) ∧ Below w.heap.size w wr) (fun i _ => L.length - (intOf i).toNat)
  case atStart => exact ⟨0, Nat.zero_le _, rfl, ⟨M, heap_alloc_new w _, HM1.out, fun i hi => by simpa [uptoS] using HM2.out i hi⟩, (Below.refl _ _).alloc (Nat.le_refl _) _⟩
  case round =>
    obtain ⟨k, hk, rfl, hown, hnx⟩ := hrel
    by_cases hlt : k < L.length
    · obtain ⟨s, hg⟩ : ∃ s, L[k]? = some s := ⟨_, List.getElem?_eq_getElem hlt⟩
      obtain ⟨b1, o1, ea, hb1, c1⟩ := H3.out k s hg
      subst ea
      have k1 := (hnx.cell (p := ⟨b1, o1 + k, none⟩) hb1).trans c1
      have q0 := hown.cell hlt
      have f0 := hown.frozen k
      have hst := hown.set hlt s
      rw [uptoS_step hg] at hst
      have HS := Lib.hid hst; have HN := Lib.hid hnx
      clear hown hst hnx c1 hg
      go_wp2
      go_roundw
      case rel => exact ⟨k + 1, by omega, by go_num, HS.out, (HN.out).setCell (p := ⟨w.heap.size, k, none⟩) (Nat.le_refl _) _⟩
      case measure => simp [intOf]; omega
    · have hkn : k = L.length := by omega
      subst hkn
      go_wp2
      go_ret
      exact ⟨rfl, hown.congr (fun i hi => by simp [uptoS, hi]), hnx⟩

set_option maxHeartbeats 800000 in
theorem eq_strs (v1 v2 : Value) (L : List ByteArray) (w : World) (h1 : NRow w v1 L) (h2 : NRow w v2 L) :
    Calls Tryz.prog 46 #[v1, v2] w fun e w' => e = .returned (.bool true) ∧ Below w.heap.size w w' := by
  have hr : ∀ v, NRow w v L → 0 < L.length → Rd1 w v ((L.map fun s => s.data.toList).map strV) := fun v hv hp => by
    obtain ⟨b, o, c, rfl, m1, m2, _, hcs⟩ := nrow_cells hv hp
    refine .inr ⟨b, o, c, by simp, by simpa using m1, m2, fun j u hu => ?_⟩
    have e : (L.map fun s => s.data.toList).map strV = L.map Value.string := by
      rw [List.map_map]
      refine List.map_congr_left fun s _ => ?_
      simp [strV]
    rw [e] at hu
    have := hcs j u hu
    have ea : (⟨b, o, none⟩ : Addr).add j = ⟨b, o + j, none⟩ := by unfold Addr.add; split <;> simp_all
    rwa [ea] at this
  by_cases hp : 0 < L.length
  · refine (eq_strings v1 v2 (L.map fun s => s.data.toList) w (hr v1 h1 hp) (hr v2 h2 hp)).mono ?_
    rintro e w' ⟨rfl, n, rfl⟩
    exact ⟨rfl, below_drewN (Below.refl _ _)⟩
  · have hl : L = [] := List.eq_nil_of_length_eq_zero (by omega)
    subst hl
    obtain ⟨a1, c1, rfl, _⟩ := nrow_get h1
    obtain ⟨a2, c2, rfl, _⟩ := nrow_get h2
    clear h1 h2 hr hp
    go_enter Tryz.func46, Tryz.ntmps46
    go_wp2
    go_loopw [5] (fun i wr => i = .int .i64 0 ∧ wr = w) (fun _ _ => 0)
    case atStart => exact ⟨rfl, rfl⟩
    case round =>
      obtain ⟨rfl, rfl⟩ := hrel
      go_wp2
      go_ret
      exact ⟨rfl, Below.refl _ _⟩
end Go.Proofs.YtbhnjnoblkfckaaGreatDoor

-- from XCfgE3
/- The laws' own helpers over houses: a copy of houses, in blocks of its own. -/
namespace Go.Proofs.YtbhnjnoblkfckaaGreatDoor
open Go.RowKit Go.Maps

/-- Block g has room for n houses, the first k of them are there, the names of the i-th in block G i; all these blocks lie from B on, and no two are one. -/
def HOwn (w : World) (B g n k : Nat) (hs : List Hs) (G : Nat → Nat) : Prop :=
  B ≤ g ∧ (∃ cur t, w.heap[g]? = some (.cells cur t (0, 0)) ∧ cur.size = n * 4 ∧ (∀ i, i < n → ∃ a l c, cur[i * 4]? = some (.slice a l c)) ∧ ∀ i h, i < k → hs[i]? = some h → cur[i * 4]? = some (.slice (some ⟨G i, 0, none⟩) h.names.length h.names.length) ∧
    cur[i * 4 + 1]? = some (.int .i64 h.key) ∧ cur[i * 4 + 2]? = some (.int .i64 h.maxN) ∧ cur[i * 4 + 3]? = some (.int .i64 h.maxB)) ∧
  (∀ i h, i < k → hs[i]? = some h → B ≤ G i ∧ G i ≠ g ∧ SC w (G i) h.names.length (sget h.names)) ∧ ∀ i j, i < j → j < k → G i ≠ G j

theorem HOwn.lt {w : World} {B g n k : Nat} {hs : List Hs} {G : Nat → Nat} (h : HOwn w B g n k hs G) : g < w.heap.size := by
  obtain ⟨_, ⟨cur, t, hh, _⟩, _⟩ := h
  exact (Array.getElem?_eq_some_iff.1 hh).1
theorem HOwn.keep {w w' : World} {B g n k : Nat} {hs : List Hs} {G : Nat → Nat} (h : HOwn w B g n k hs G) (hk : ∀ b, b < w.heap.size → B ≤ b → w'.heap[b]? = w.heap[b]?) : HOwn w' B g n k hs G := by
  have hlt := h.lt
  obtain ⟨h0, ⟨cur, t, hh, hc⟩, hg, hd⟩ := h
  refine ⟨h0, ⟨cur, t, (hk g hlt h0).trans hh, hc⟩, fun i x hi hx => ?_, hd⟩
  obtain ⟨q1, q2, q3⟩ := hg i x hi hx
  exact ⟨q1, q2, q3.keep (hk _ q3.lt q1)⟩
theorem HOwn.below {w w' : World} {B g n k : Nat} {hs : List Hs} {G : Nat → Nat} (h : HOwn w B g n k hs G) {C : Nat} (hC : w.heap.size ≤ C) (hb : Below C w w') : HOwn w' B g n k hs G :=
  h.keep fun b hlt _ => hb.block b (by omega)
theorem HOwn.cells {w : World} {B g n k : Nat} {hs : List Hs} {G : Nat → Nat} (h : HOwn w B g n k hs G) {i : Nat} {x : Hs} (hi : i < k) (hx : hs[i]? = some x) :
    w.cell? ⟨g, i * 4, none⟩ = some (.slice (some ⟨G i, 0, none⟩) x.names.length x.names.length) ∧ w.cell? ⟨g, i * 4 + 1, none⟩ = some (.int .i64 x.key) ∧ w.cell? ⟨g, i * 4 + 2, none⟩ = some (.int .i64 x.maxN) ∧ w.cell? ⟨g, i * 4 + 3, none⟩ = some (.int .i64 x.maxB) := by
  obtain ⟨_, ⟨cur, t, hh, _, _, hc⟩, _⟩ := h
  obtain ⟨c0, c1, c2, c3⟩ := hc i x hi hx
  simp [World.cell?, hh, c0, c1, c2, c3]
theorem HOwn.frozen {w : World} {B g n k : Nat} {hs : List Hs} {G : Nat → Nat} (h : HOwn w B g n k hs G) (j : Nat) : w.frozen? ⟨g, j, none⟩ = false := by
  obtain ⟨_, ⟨cur, t, hh, _⟩, _⟩ := h
  simp [World.frozen?, hh]
theorem HOwn.there {w : World} {B g n k : Nat} {hs : List Hs} {G : Nat → Nat} (h : HOwn w B g n k hs G) {i : Nat} (hi : i < n) : (∃ x, w.cell? ⟨g, i * 4, none⟩ = some x) ∧ (∃ x, w.cell? ⟨g, i * 4 + 1, none⟩ = some x) ∧ (∃ x, w.cell? ⟨g, i * 4 + 2, none⟩ = some x) ∧ ∃ x, w.cell? ⟨g, i * 4 + 3, none⟩ = some x := by
  obtain ⟨_, ⟨cur, t, hh, hs, _⟩, _⟩ := h
  have : ∀ j, j < n * 4 → ∃ x, w.cell? ⟨g, j, none⟩ = some x := fun j hj => ⟨cur[j]'(by omega), by simp [World.cell?, hh, Array.getElem?_eq_getElem (show j < cur.size by omega)]⟩
  exact ⟨this _ (by omega), this _ (by omega), this _ (by omega), this _ (by omega)⟩
theorem HOwn.row {w : World} {B g : Nat} {hs : List Hs} {G : Nat → Nat} (h : HOwn w B g hs.length hs.length hs G) (hn : hs.length ≤ 1048576) (hm : ∀ x ∈ hs, x.names.length ≤ 1048576) : HRow w (.slice (some ⟨g, 0, none⟩) hs.length hs.length) hs := by
  refine ⟨_, _, rfl, Nat.le_refl _, by unfold maxLen; omega, fun j x hj => ?_⟩
  have hjl := (List.getElem?_eq_some_iff.1 hj).1
  obtain ⟨c0, c1, c2, c3⟩ := h.cells hjl hj
  have hlt := h.lt
  obtain ⟨_, _, hg, _⟩ := h
  obtain ⟨_, _, hsc⟩ := hg j x hjl hj
  refine ⟨g, 0, _, rfl, hlt, ?_, hsc.row (by unfold maxLen; have := hm x (List.mem_of_getElem? hj); omega), ?_, ?_, ?_⟩
  all_goals rw [Nat.zero_add]; assumption

def set4 (w : World) (g k : Nat) (a b c d : Value) : World := (((w.setCell ⟨g, k * 4, none⟩ a).setCell ⟨g, k * 4 + 1, none⟩ b).setCell ⟨g, k * 4 + 2, none⟩ c).setCell ⟨g, k * 4 + 3, none⟩ d
def updG (G : Nat → Nat) (k x : Nat) : Nat → Nat := fun i => if i = k then x else G i
theorem set4_other (w : World) (g k : Nat) (a b c d : Value) {j : Nat} (h : j ≠ g) : (set4 w g k a b c d).heap[j]? = w.heap[j]? := by
  unfold set4
  rw [heap_setCell_other _ ⟨g, k * 4 + 3, none⟩ j _ (by simpa using h), heap_setCell_other _ ⟨g, k * 4 + 2, none⟩ j _ (by simpa using h), heap_setCell_other _ ⟨g, k * 4 + 1, none⟩ j _ (by simpa using h), heap_setCell_other _ ⟨g, k * 4, none⟩ j _ (by simpa using h)]
theorem HOwn.step {w : World} {B g n k gk : Nat} {hs : List Hs} {G : Nat → Nat} {x : Hs} (h : HOwn w B g n k hs G) (hx : hs[k]? = some x) (hkn : k < n) (hB : B ≤ gk) (hne : gk ≠ g) (hnew : ∀ i, i < k → G i ≠ gk) (hsc : SC w gk x.names.length (sget x.names)) :
    HOwn (set4 w g k (.slice (some ⟨gk, 0, none⟩) x.names.length x.names.length) (.int .i64 x.key) (.int .i64 x.maxN) (.int .i64 x.maxB)) B g n (k + 1) hs (updG G k gk) := by
  obtain ⟨h0, ⟨cur, t, hh, hsz, hsl, hc⟩, hg, hd⟩ := h
  have s1 := heap_setCell_same w g (k * 4) cur t (.slice (some ⟨gk, 0, none⟩) x.names.length x.names.length) hh
  have s2 := heap_setCell_same _ g (k * 4 + 1) _ t (.int .i64 x.key) s1
  have s3 := heap_setCell_same _ g (k * 4 + 2) _ t (.int .i64 x.maxN) s2
  have s4 := heap_setCell_same _ g (k * 4 + 3) _ t (.int .i64 x.maxB) s3
  refine ⟨h0, ⟨_, t, s4, by simpa using hsz, fun i hi => ?_, fun i y hi hy => ?_⟩, fun i y hi hy => ?_, fun i j hij hj => ?_⟩
  · by_cases e : i = k
    · subst e
      exact ⟨some ⟨gk, 0, none⟩, x.names.length, x.names.length, by
        rw [Array.getElem?_setIfInBounds_ne (by omega), Array.getElem?_setIfInBounds_ne (by omega), Array.getElem?_setIfInBounds_ne (by omega), Array.getElem?_setIfInBounds_self_of_lt (by omega)]⟩
    · obtain ⟨a, l, c, q⟩ := hsl i hi
      exact ⟨a, l, c, by
        rw [Array.getElem?_setIfInBounds_ne (by omega), Array.getElem?_setIfInBounds_ne (by omega), Array.getElem?_setIfInBounds_ne (by omega), Array.getElem?_setIfInBounds_ne (by omega)]; exact q⟩
  · by_cases e : i = k
    · subst e
      rw [hx] at hy; cases hy
      simp only [updG, if_true]
      refine ⟨?_, ?_, ?_, ?_⟩
      · rw [Array.getElem?_setIfInBounds_ne (by omega), Array.getElem?_setIfInBounds_ne (by omega), Array.getElem?_setIfInBounds_ne (by omega), Array.getElem?_setIfInBounds_self_of_lt (by omega)]
      · rw [Array.getElem?_setIfInBounds_ne (by omega), Array.getElem?_setIfInBounds_ne (by omega), Array.getElem?_setIfInBounds_self_of_lt (by simp; omega)]
      · rw [Array.getElem?_setIfInBounds_ne (by omega), Array.getElem?_setIfInBounds_self_of_lt (by simp; omega)]
      · rw [Array.getElem?_setIfInBounds_self_of_lt (by simp; omega)]
    · obtain ⟨c0, c1, c2, c3⟩ := hc i y (by omega) hy
      simp only [updG, if_neg e]
      refine ⟨?_, ?_, ?_, ?_⟩
      all_goals
        rw [Array.getElem?_setIfInBounds_ne (by omega), Array.getElem?_setIfInBounds_ne (by omega), Array.getElem?_setIfInBounds_ne (by omega), Array.getElem?_setIfInBounds_ne (by omega)]
        assumption
  · by_cases e : i = k
    · subst e
      rw [hx] at hy; cases hy
      simp only [updG, if_true]
      exact ⟨hB, hne, hsc.keep (set4_other w g _ _ _ _ _ hne)⟩
    · obtain ⟨q1, q2, q3⟩ := hg i y (by omega) hy
      simp only [updG, if_neg e]
      exact ⟨q1, q2, q3.keep (set4_other w g _ _ _ _ _ q2)⟩
  · unfold updG
    by_cases e : j = k
    · rw [if_pos e, if_neg (by omega)]; exact hnew i (by omega)
    · rw [if_neg (by omega), if_neg e]; exact hd i j hij (by omega)
theorem below_set4 {b : Nat} {w w3 : World} {k : Nat} {x y z u : Value} (h : Below b w w3) : Below b w (set4 w3 b k x y z u) := by
  have q : ∀ (W : World) (j : Nat) (v : Value), Below b w W → Below b w (W.setCell ⟨b, j, none⟩ v) := fun W j v hW => hW.setCell (p := ⟨b, j, none⟩) (Nat.le_refl _) _
  exact q _ _ _ (q _ _ _ (q _ _ _ (q _ _ _ h)))

theorem Tryz.infoHs : (Tryz.prog.info? 31).map (fun i => (i.zero, i.size, i.bytes)) = some (some (.agg #[.slice none 0 0, .int .i64 0, .int .i64 0, .int .i64 0]), 4, 48) := by kernel_rfl
theorem made_hs (n : Nat) : (madeCells (Value.agg #[.slice none 0 0, .int .i64 0, .int .i64 0, .int .i64 0]).cells (n * 4)).size = n * 4 ∧ ∀ i, i < n → (madeCells (Value.agg #[.slice none 0 0, .int .i64 0, .int .i64 0, .int .i64 0]).cells (n * 4))[i * 4]? = some (.slice none 0 0) := by
  refine ⟨size_madeCells _ _, fun i hi => ?_⟩
  have hc : (Value.agg #[.slice none 0 0, .int .i64 0, .int .i64 0, .int .i64 0]).cells = #[.slice none 0 0, .int .i64 0, .int .i64 0, .int .i64 0] := by rfl
  unfold madeCells
  rw [hc]
  rw [Array.getElem?_map, Array.getElem?_range, if_pos (by omega)]
  simp

theorem three_new (w : World) (a b c : Obj) : (((w.alloc a).alloc b).alloc c).heap[w.heap.size]? = some a ∧ (((w.alloc a).alloc b).alloc c).heap[w.heap.size + 1]? = some b ∧ (((w.alloc a).alloc b).alloc c).heap[w.heap.size + 1 + 1]? = some c := by
  refine ⟨?_, ?_, ?_⟩
  · exact (Below.heap_alloc _ _ _ (by simp; omega)).trans ((Below.heap_alloc _ _ _ (by simp)).trans (World.alloc_heap_new w a))
  · have := World.alloc_heap_new (w.alloc a) b
    rw [World.size_alloc] at this
    exact (Below.heap_alloc _ _ _ (by simp)).trans this
  · have := World.alloc_heap_new ((w.alloc a).alloc b) c
    rw [World.size_alloc, World.size_alloc] at this
    exact this

theorem four_set {w' : World} {g : Nat} {x0 x1 x2 x3 : Value} {T : TypeId} (h : w'.heap[g]? = some (.cells #[x0, x1, x2, x3] T (0, 0))) (a b c d : Value) :
    ((((w'.setCell ⟨g, 0, none⟩ a).setCell ⟨g, 1, none⟩ b).setCell ⟨g, 2, none⟩ c).setCell ⟨g, 3, none⟩ d).heap[g]? = some (.cells #[a, b, c, d] T (0, 0)) := by
  have h1 := heap_setCell_same w' g 0 _ _ a h
  have h2 := heap_setCell_same _ g 1 _ _ b h1
  have h3 := heap_setCell_same _ g 2 _ _ c h2
  have h4 := heap_setCell_same _ g 3 _ _ d h3
  rw [h4]; rfl
theorem four_other (w' : World) {g j : Nat} (a b c d : Value) (h : j ≠ g) : ((((w'.setCell ⟨g, 0, none⟩ a).setCell ⟨g, 1, none⟩ b).setCell ⟨g, 2, none⟩ c).setCell ⟨g, 3, none⟩ d).heap[j]? = w'.heap[j]? := by
  rw [heap_setCell_other _ ⟨g, 3, none⟩ j _ (by simpa using h), heap_setCell_other _ ⟨g, 2, none⟩ j _ (by simpa using h), heap_setCell_other _ ⟨g, 1, none⟩ j _ (by simpa using h), heap_setCell_other _ ⟨g, 0, none⟩ j _ (by simpa using h)]
theorem four_below {B : Nat} {w w' : World} {g : Nat} (a b c d : Value) (h : Below B w w') (hg : B ≤ g) : Below B w ((((w'.setCell ⟨g, 0, none⟩ a).setCell ⟨g, 1, none⟩ b).setCell ⟨g, 2, none⟩ c).setCell ⟨g, 3, none⟩ d) := by
  have q : ∀ (W : World) (j : Nat) (v : Value), Below B w W → Below B w (W.setCell ⟨g, j, none⟩ v) := fun W j v hW => hW.setCell (p := ⟨g, j, none⟩) hg _
  exact q _ _ _ (q _ _ _ (q _ _ _ (q _ _ _ h)))

set_option maxHeartbeats 1600000 in
theorem to_house (h : Hs) (u : Value) (w : World) (hS : NRow w u h.names) (hn : h.names.length ≤ 1048576) :
    Calls Tryz.prog 13 #[.agg #[u, .int .i64 h.key, .int .i64 h.maxN, .int .i64 h.maxB]] w fun e w' => ∃ g, e = .returned (.agg #[.slice (some ⟨g, 0, none⟩) h.names.length h.names.length, .int .i64 h.key, .int .i64 h.maxN, .int .i64 h.maxB]) ∧ w.heap.size ≤ g ∧ SC w' g h.names.length (sget h.names) ∧ Below w.heap.size w w' := by
  obtain ⟨sa, sc, rfl, _⟩ := nrow_get hS
  obtain ⟨wA, hwA⟩ : ∃ wA, wA = ((w.alloc (.cells #[.slice sa h.names.length sc, .int .i64 h.key, .int .i64 h.maxN, .int .i64 h.maxB] 24)).alloc (.cells #[.slice none 0 0, .int .i64 0, .int .i64 0, .int .i64 0] 31)).alloc (.cells #[.slice none 0 0, .int .i64 0, .int .i64 0, .int .i64 0] 31) := ⟨_, rfl⟩
  have hsA : wA.heap.size = w.heap.size + 3 := by rw [hwA]; simp
  have hbA : Below w.heap.size w wA := by rw [hwA]; exact (((Below.refl _ _).alloc (Nat.le_refl _) _).alloc (by simp) _).alloc (by simp; omega) _
  have hC := to_strs _ h.names wA (hS.below (Nat.le_refl _) hbA) hn
  obtain ⟨hx0, hx1, hx2⟩ := three_new w (.cells #[.slice sa h.names.length sc, .int .i64 h.key, .int .i64 h.maxN, .int .i64 h.maxB] 24) (.cells #[.slice none 0 0, .int .i64 0, .int .i64 0, .int .i64 0] 31) (.cells #[.slice none 0 0, .int .i64 0, .int .i64 0, .int .i64 0] 31)
  rw [← hwA] at hx0 hx1 hx2
  obtain ⟨t0, t1, t2, t3, _⟩ := four_facts hx0
  rw [hwA] at t0 t1 t2 t3
  have HwA := Lib.hid hwA
  have HBA := Lib.hid hbA
  clear hwA hbA
  go_enter Tryz.func13, Tryz.ntmps13
  go_wp2_with fail
  rw [← HwA.out]
  refine hC.mono ?_
  rintro e w1 ⟨rfl, hsc, hb1⟩
  have hy0 := (hb1.block w.heap.size (by omega)).trans hx0
  have hy1 := (hb1.block (w.heap.size + 1) (by omega)).trans hx1
  have hy2 := (hb1.block (w.heap.size + 1 + 1) (by omega)).trans hx2
  have HB := Lib.hid (HBA.out.trans (hb1.mono (by omega)))
  have HSC := Lib.hid hsc
  clear t0 t1 t2 t3 hx0 hx1 hx2 hC hb1 hsc
  obtain ⟨t0, t1, t2, t3, _⟩ := four_facts hy0
  obtain ⟨p0, p1, p2, p3, f0, f1, f2, f3⟩ := four_facts hy1
  obtain ⟨r0, r1, r2, r3, e0, e1, e2, e3⟩ := four_facts hy2
  have hz1 := (four_other w1 (g := w.heap.size + 1 + 1) (j := w.heap.size + 1) (.slice (some ⟨w.heap.size + 3, 0, none⟩) h.names.length h.names.length) (.int .i64 h.key) (.int .i64 h.maxN) (.int .i64 h.maxB) (by omega)).trans hy1
  have hz2 := four_set hz1 (.slice (some ⟨w.heap.size + 3, 0, none⟩) h.names.length h.names.length) (.int .i64 h.key) (.int .i64 h.maxN) (.int .i64 h.maxB)
  have hfin := four_below (g := w.heap.size + 1) (.slice (some ⟨w.heap.size + 3, 0, none⟩) h.names.length h.names.length) (.int .i64 h.key) (.int .i64 h.maxN) (.int .i64 h.maxB) (four_below (g := w.heap.size + 1 + 1) (.slice (some ⟨w.heap.size + 3, 0, none⟩) h.names.length h.names.length) (.int .i64 h.key) (.int .i64 h.maxN) (.int .i64 h.maxB) HB.out (by omega)) (by omega)
  have hk := (four_other _ (g := w.heap.size + 1) (j := w.heap.size + 3) (.slice (some ⟨w.heap.size + 3, 0, none⟩) h.names.length h.names.length) (.int .i64 h.key) (.int .i64 h.maxN) (.int .i64 h.maxB) (by omega)).trans (four_other w1 (g := w.heap.size + 1 + 1) (j := w.heap.size + 3) (.slice (some ⟨w.heap.size + 3, 0, none⟩) h.names.length h.names.length) (.int .i64 h.key) (.int .i64 h.maxN) (.int .i64 h.maxB) (by omega))
  have hsc := HSC.out
  rw [hsA] at hsc
  have HF := Lib.hid (And.intro hz2 (And.intro hfin (hsc.keep hk)))
  clear hy0 hy1 hy2 hz1 hz2 hfin hk hsc
  go_wp2
  obtain ⟨hz2, hfin, hsc⟩ := HF.out
  obtain ⟨k0, k1, k2, k3, _⟩ := four_facts hz2
  exact bodyPost_ret (v := .agg #[.slice (some ⟨w.heap.size + 3, 0, none⟩) h.names.length h.names.length, .int .i64 h.key, .int .i64 h.maxN, .int .i64 h.maxB]) (by simp [results, Tryz.results13, go_sem, k0, k1, k2, k3]) rfl ⟨w.heap.size + 3, rfl, by omega, hsc, hfin⟩

end Go.Proofs.YtbhnjnoblkfckaaGreatDoor

-- from XCfgE4
/- The laws' own helpers over houses: a copy of all, equality. -/
namespace Go.Proofs.YtbhnjnoblkfckaaGreatDoor
open Go.RowKit Go.Maps

set_option maxHeartbeats 1600000 in
theorem eq_house (h : Hs) (u1 u2 : Value) (w : World) (h1 : NRow w u1 h.names) (h2 : NRow w u2 h.names) :
    Calls Tryz.prog 16 #[.agg #[u1, .int .i64 h.key, .int .i64 h.maxN, .int .i64 h.maxB], .agg #[u2, .int .i64 h.key, .int .i64 h.maxN, .int .i64 h.maxB]] w fun e w' => e = .returned (.bool true) ∧ Below w.heap.size w w' := by
  obtain ⟨wA, hwA⟩ : ∃ wA, wA = (w.alloc (.cells #[u1, .int .i64 h.key, .int .i64 h.maxN, .int .i64 h.maxB] 31)).alloc (.cells #[u2, .int .i64 h.key, .int .i64 h.maxN, .int .i64 h.maxB] 31) := ⟨_, rfl⟩
  have hsA : wA.heap.size = w.heap.size + 2 := by rw [hwA]; simp
  have hbA : Below w.heap.size w wA := by rw [hwA]; exact ((Below.refl _ _).alloc (Nat.le_refl _) _).alloc (by simp) _
  have hC := eq_strs _ _ h.names wA (h1.below (Nat.le_refl _) hbA) (h2.below (Nat.le_refl _) hbA)
  have hx0 : wA.heap[w.heap.size]? = some (.cells #[u1, .int .i64 h.key, .int .i64 h.maxN, .int .i64 h.maxB] 31 (0, 0)) := by rw [hwA]; exact (Below.heap_alloc _ _ _ (by simp)).trans (World.alloc_heap_new w _)
  have hx1 : wA.heap[w.heap.size + 1]? = some (.cells #[u2, .int .i64 h.key, .int .i64 h.maxN, .int .i64 h.maxB] 31 (0, 0)) := by
    rw [hwA]
    have := World.alloc_heap_new (w.alloc (.cells #[u1, .int .i64 h.key, .int .i64 h.maxN, .int .i64 h.maxB] 31)) (.cells #[u2, .int .i64 h.key, .int .i64 h.maxN, .int .i64 h.maxB] 31)
    rw [World.size_alloc] at this
    exact this
  obtain ⟨a1, c1, rfl, _⟩ := nrow_get h1
  obtain ⟨a2, c2, rfl, _⟩ := nrow_get h2
  obtain ⟨t0, t1, t2, t3, _⟩ := four_facts hx0
  obtain ⟨s0, s1, s2, s3, _⟩ := four_facts hx1
  rw [hwA] at t0 t1 t2 t3 s0 s1 s2 s3
  have HwA := Lib.hid hwA
  have HBA := Lib.hid hbA
  clear hwA hbA h1 h2
  go_enter Tryz.func16, Tryz.ntmps16
  go_wp2_with fail
  rw [← HwA.out]
  refine hC.mono ?_
  rintro e w1 ⟨rfl, hb1⟩
  clear t0 t1 t2 t3 s0 s1 s2 s3
  obtain ⟨t0, t1, t2, t3, _⟩ := four_facts ((hb1.block w.heap.size (by omega)).trans hx0)
  obtain ⟨s0, s1, s2, s3, _⟩ := four_facts ((hb1.block (w.heap.size + 1) (by omega)).trans hx1)
  have HB := Lib.hid (HBA.out.trans (hb1.mono (by omega)))
  clear hb1 hC hx0 hx1
  go_wp2
  go_ret
  exact ⟨rfl, HB.out⟩

end Go.Proofs.YtbhnjnoblkfckaaGreatDoor

