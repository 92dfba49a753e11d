/- Lists of what somebody would take: in memory; the laws' own helpers over them: sized, copied, equal, marked, held. -/
import Derived.Test.YtlfcamapjeldjaaGreatDoorMaskP
import Derived.Test.YtlfcamapjeldjaaGreatDoorGrp
import Derived.Test.YtlfcamapjeldjaaGreatDoorEq
import Derived.Laws.MakeOwn
namespace Go.Proofs.YtlfcamapjeldjaaGreatDoor
open Go.RowKit Go.Maps

def WRow (w : World) (v : Value) (fs : List Wt) : Prop :=
  ∃ a c, v = .slice a fs.length c ∧ fs.length ≤ c ∧ c ≤ maxLen ∧ ∀ j f, fs[j]? = some f → ∃ b o, a = some ⟨b, o, none⟩ ∧ b < w.heap.size ∧ w.cell? ⟨b, o + j * 2, none⟩ = some (.int .i64 f.1) ∧ w.cell? ⟨b, o + j * 2 + 1, none⟩ = some (.int .i64 f.2)

theorem WRow.below {w w' : World} {v : Value} {fs : List Wt} (h : WRow w v fs) {B : Nat} (hB : w.heap.size ≤ B) (hb : Below B w w') : WRow w' v fs := by
  obtain ⟨a, c, rfl, h1, h2, h3⟩ := h
  refine ⟨a, c, rfl, h1, h2, fun j f hj => ?_⟩
  obtain ⟨b, o, rfl, hlt, c1, c2⟩ := h3 j f hj
  exact ⟨b, o, rfl, Nat.lt_of_lt_of_le hlt hb.size, (hb.cell (p := ⟨b, o + j * 2, none⟩) (Nat.lt_of_lt_of_le hlt hB)).trans c1, (hb.cell (p := ⟨b, o + j * 2 + 1, none⟩) (Nat.lt_of_lt_of_le hlt hB)).trans c2⟩
theorem WRow.drewN {w : World} {v : Value} {fs : List Wt} (h : WRow w v fs) (n : Nat) : WRow (w.drewN n) v fs := h
def noWt : Wt := (0, 0)
/-- Block g holds n fields, the i-th one F i; none is frozen. -/
def WCells (w : World) (g n : Nat) (F : Nat → Wt) : Prop :=
  ∃ cur t, w.heap[g]? = some (.cells cur t (0, 0)) ∧ n * 2 ≤ cur.size ∧ ∀ i, i < n → cur[i * 2]? = some (.int .i64 (F i).1) ∧ cur[i * 2 + 1]? = some (.int .i64 (F i).2)

theorem WCells.lt {w : World} {g n : Nat} {F : Nat → Wt} (h : WCells w g n F) : g < w.heap.size := by
  obtain ⟨cur, t, hh, _⟩ := h
  exact (Array.getElem?_eq_some_iff.1 hh).1
theorem WCells.keep {w w' : World} {g n : Nat} {F : Nat → Wt} (h : WCells w g n F) (hk : w'.heap[g]? = w.heap[g]?) : WCells w' g n F := by
  obtain ⟨cur, t, hh, r⟩ := h
  exact ⟨cur, t, hk.trans hh, r⟩
theorem WCells.congr {w : World} {g n : Nat} {F F' : Nat → Wt} (h : WCells w g n F) (he : ∀ i, i < n → F i = F' i) : WCells w g n F' := by
  obtain ⟨cur, t, hh, hs, hc⟩ := h
  exact ⟨cur, t, hh, hs, fun i hi => by rw [← he i hi]; exact hc i hi⟩
theorem WCells.cell0 {w : World} {g n : Nat} {F : Nat → Wt} (h : WCells w g n F) {i : Nat} (hi : i < n) : w.cell? ⟨g, i * 2, none⟩ = some (.int .i64 (F i).1) := by
  obtain ⟨cur, t, hh, hs, hc⟩ := h
  simp [World.cell?, hh, (hc i hi).1]
theorem WCells.cell1 {w : World} {g n : Nat} {F : Nat → Wt} (h : WCells w g n F) {i : Nat} (hi : i < n) : w.cell? ⟨g, i * 2 + 1, none⟩ = some (.int .i64 (F i).2) := by
  obtain ⟨cur, t, hh, hs, hc⟩ := h
  simp [World.cell?, hh, (hc i hi).2]
theorem WCells.frozen {w : World} {g n : Nat} {F : Nat → Wt} (h : WCells w g n F) (j : Nat) : w.frozen? ⟨g, j, none⟩ = false := by
  obtain ⟨cur, t, hh, hs, hc⟩ := h
  simp [World.frozen?, hh]
def wupd0 (F : Nat → Wt) (i : Nat) (s : Int) : Nat → Wt := fun j => if j = i then (s, (F j).2) else F j
def wupd1 (F : Nat → Wt) (i : Nat) (s : Int) : Nat → Wt := fun j => if j = i then ((F j).1, s) else F j
theorem WCells.set0 {w : World} {g n : Nat} {F : Nat → Wt} (h : WCells w g n F) {i : Nat} (_hi : i < n) (s : Int) : WCells (w.setCell ⟨g, i * 2, none⟩ (.int .i64 s)) g n (wupd0 F i s) := by
  obtain ⟨cur, t, hh, hs, hc⟩ := h
  refine ⟨_, t, heap_setCell_same w g (i * 2) cur t _ hh, by simpa using hs, fun j hj => ?_⟩
  obtain ⟨h0, h1⟩ := hc j hj
  rw [Array.getElem?_setIfInBounds, Array.getElem?_setIfInBounds]
  unfold wupd0
  by_cases e : j = i
  · subst e
    simp only [if_true, show ¬ (j * 2 = j * 2 + 1) from by omega, show j * 2 < cur.size from by omega, if_false]
    exact ⟨trivial, h1⟩
  · simp only [show ¬ (i * 2 = j * 2 + 1) from by omega, show ¬ (i * 2 = j * 2) from by omega, if_neg e, if_false]
    exact ⟨h0, h1⟩
theorem WCells.set1 {w : World} {g n : Nat} {F : Nat → Wt} (h : WCells w g n F) {i : Nat} (_hi : i < n) (s : Int) : WCells (w.setCell ⟨g, i * 2 + 1, none⟩ (.int .i64 s)) g n (wupd1 F i s) := by
  obtain ⟨cur, t, hh, hs, hc⟩ := h
  refine ⟨_, t, heap_setCell_same w g (i * 2 + 1) cur t _ hh, by simpa using hs, fun j hj => ?_⟩
  obtain ⟨h0, h1⟩ := hc j hj
  rw [Array.getElem?_setIfInBounds, Array.getElem?_setIfInBounds]
  unfold wupd1
  by_cases e : j = i
  · subst e
    simp only [if_true, show ¬ (j * 2 + 1 = j * 2) from by omega, show j * 2 + 1 < cur.size from by omega, if_false]
    exact ⟨h0, trivial⟩
  · simp only [show ¬ (i * 2 + 1 = j * 2 + 1) from by omega, show ¬ (i * 2 + 1 = j * 2) from by omega, if_neg e, if_false]
    exact ⟨h0, h1⟩
def wget (fs : List Wt) (i : Nat) : Wt := (fs[i]?).getD noWt
theorem wget_at {fs : List Wt} {i : Nat} {f : Wt} (h : fs[i]? = some f) : wget fs i = f := by simp [wget, h]
theorem WCells.row {w : World} {g : Nat} {fs : List Wt} (h : WCells w g fs.length (wget fs)) (hn : fs.length ≤ maxLen) : WRow w (.slice (some ⟨g, 0, none⟩) fs.length fs.length) fs := by
  refine ⟨_, _, rfl, Nat.le_refl _, hn, fun j f hj => ⟨g, 0, rfl, h.lt, ?_, ?_⟩⟩
  · have := h.cell0 (i := j) (List.getElem?_eq_some_iff.1 hj).1
    rw [wget_at hj] at this
    rw [Nat.zero_add]; exact this
  · have := h.cell1 (i := j) (List.getElem?_eq_some_iff.1 hj).1
    rw [wget_at hj] at this
    rw [Nat.zero_add]; exact this

theorem Tryz.infoWt : (Tryz.prog.info? 52).map (fun i => (i.zero, i.size, i.bytes)) = some (some (.agg #[.int .i64 0, .int .i64 0]), 2, 16) := by kernel_rfl

theorem made_wt (n : Nat) : (madeCells (Value.agg #[.int .i64 0, .int .i64 0]).cells (n * 2)).size = n * 2 ∧ ∀ i, i < n → (madeCells (Value.agg #[.int .i64 0, .int .i64 0]).cells (n * 2))[i * 2]? = some (.int .i64 noWt.1) ∧ (madeCells (Value.agg #[.int .i64 0, .int .i64 0]).cells (n * 2))[i * 2 + 1]? = some (.int .i64 noWt.2) := by
  refine ⟨size_madeCells _ _, fun i hi => ?_⟩
  have hc : (Value.agg #[.int .i64 0, .int .i64 0]).cells = #[.int .i64 0, .int .i64 0] := by rfl
  unfold madeCells
  rw [hc]
  constructor
  · rw [Array.getElem?_map, Array.getElem?_range, if_pos (by omega)]
    simp [noWt]
  · rw [Array.getElem?_map, Array.getElem?_range, if_pos (by omega)]
    have : (i * 2 + 1) % 2 = 1 := by omega
    simp [noWt, this]

def wupto (fs : List Wt) (k : Nat) : Nat → Wt := fun i => if i < k then wget fs i else noWt
theorem wupto_step {fs : List Wt} {k : Nat} {a b : Int} (h : fs[k]? = some (a, b)) : wupd1 (wupd0 (wupto fs k) k a) k b = wupto fs (k + 1) := by
  funext i
  unfold wupd1 wupd0 wupto
  by_cases e : i = k
  · subst e
    simp [wget_at h]
  · rw [if_neg e, if_neg e]
    by_cases hi : i < k
    · rw [if_pos hi, if_pos (by omega)]
    · rw [if_neg hi, if_neg (by omega)]

def wcells (fs : List Wt) : List Value := fs.flatMap fun f => [.int .i64 f.1, .int .i64 f.2]
theorem wcells_len (fs : List Wt) : (wcells fs).length = fs.length * 2 := by
  induction fs with
  | nil => rfl
  | cons f fs ih => simp only [wcells, List.flatMap_cons, List.length_append, List.length_cons, List.length_nil] at ih ⊢; omega
theorem wcells_app (fs : List Wt) (f : Wt) : wcells (fs ++ [f]) = wcells fs ++ [.int .i64 f.1, .int .i64 f.2] := by simp [wcells]
theorem wcells_at : ∀ {fs : List Wt} {j : Nat} {f : Wt}, fs[j]? = some f → (wcells fs)[j * 2]? = some (.int .i64 f.1) ∧ (wcells fs)[j * 2 + 1]? = some (.int .i64 f.2)
  | [], j, f, h => by simp at h
  | a :: fs, 0, f, h => by
    have : a = f := by simpa using h
    subst this
    simp [wcells]
  | a :: fs, j + 1, f, h => by
    have h' : fs[j]? = some f := by simpa using h
    have ih := wcells_at h'
    have e : wcells (a :: fs) = [.int .i64 a.1, .int .i64 a.2] ++ wcells fs := rfl
    rw [e, List.getElem?_append_right (by simp; omega), List.getElem?_append_right (by simp; omega)]
    simpa [show (j + 1) * 2 - 2 = j * 2 from by omega, show (j + 1) * 2 + 1 - 2 = j * 2 + 1 from by omega] using ih
/-- A row of the call's own: nothing, or a block of pairs. -/
theorem own_wants {w : World} {B : Nat} {T : TypeId} {v : Value} {fs : List Wt} (h : w.ownsRow B T 2 v fs.length (wcells fs)) :
    (v = .slice none 0 0 ∧ fs = []) ∨ ∃ g cap, v = .slice (some ⟨g, 0, none⟩) fs.length cap ∧ B ≤ g ∧ fs.length ≤ cap ∧ cap ≤ maxLen ∧ WCells w g fs.length (wget fs) := by
  rcases h.2 with ⟨rfl, h0⟩ | ⟨g, cap, cur, rfl, hb, hh, hn, hm, hs, ht⟩
  · exact .inl ⟨rfl, List.eq_nil_of_length_eq_zero h0⟩
  · refine .inr ⟨g, cap, rfl, hb, hn, hm, cur, T, hh, by omega, fun i hi => ?_⟩
    have hat := wcells_at (List.getElem?_eq_getElem hi)
    rw [← ht] at hat
    rw [List.getElem?_take_of_lt (by omega), List.getElem?_take_of_lt (by omega)] at hat
    rw [wget_at (List.getElem?_eq_getElem hi)]
    simpa using hat
theorem wrow_of_own {w : World} {B : Nat} {T : TypeId} {v : Value} {fs : List Wt} (h : w.ownsRow B T 2 v fs.length (wcells fs)) : WRow w v fs := by
  rcases own_wants h with ⟨rfl, rfl⟩ | ⟨g, cap, rfl, _, h1, h2, h3⟩
  · exact ⟨none, 0, rfl, Nat.le_refl _, Nat.zero_le _, fun j f hj => by simp at hj⟩
  · refine ⟨_, cap, rfl, h1, h2, fun j f hj => ⟨g, 0, rfl, h3.lt, ?_, ?_⟩⟩
    · have := h3.cell0 (i := j) (List.getElem?_eq_some_iff.1 hj).1
      rw [wget_at hj] at this
      rw [Nat.zero_add]; exact this
    · have := h3.cell1 (i := j) (List.getElem?_eq_some_iff.1 hj).1
      rw [wget_at hj] at this
      rw [Nat.zero_add]; exact this

/-- The marks: two a thing. -/
def mk2 (F : Nat → Wt) (k j : Nat) : Nat → Wt := fun i => if i < j then ((k + 2 * i : Nat), (k + 2 * i + 1 : Nat)) else F i
theorem mk2_step (F : Nat → Wt) (k j : Nat) : wupd1 (wupd0 (mk2 F k j) j ((k + 2 * j : Nat) : Int)) j ((k + 2 * j + 1 : Nat) : Int) = mk2 F k (j + 1) := by
  funext i
  unfold wupd1 wupd0 mk2
  by_cases e : i = j
  · subst e
    simp
  · rw [if_neg e, if_neg e]
    by_cases hi : i < j
    · rw [if_pos hi, if_pos (by omega)]
    · rw [if_neg hi, if_neg (by omega)]

end Go.Proofs.YtlfcamapjeldjaaGreatDoor
