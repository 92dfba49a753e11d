/- The laws' own helpers over lists of fields: sized, copied, equal, marked, held. -/
import Derived.Test.YtncegikmpapldaaGreatDoorVals
import Derived.Test.YtncegikmpapldaaGreatDoorEq
import Derived.Test.YtncegikmpapldaaGreatDoorDrawL
import Derived.Test.YtncegikmpapldaaGreatDoorRegR
import Derived.Test.YtncegikmpapldaaGreatDoorBln
import Derived.Laws.MakeOwn
namespace Go.Proofs.YtncegikmpapldaaGreatDoor
open Go.RowKit Go.Maps

/-- How much is left behind a field. -/
def szF (f : Fd) (left : Int) : Int := if left - (f.1.size : Int) < 0 then -1 else if left - (f.1.size : Int) - (f.2.size : Int) < 0 then -1 else left - (f.1.size : Int) - (f.2.size : Int)

theorem szF_cases (f : Fd) (left : Int) : (szF f left < 0 ∧ szF f left = -1) ∨ (0 ≤ szF f left ∧ szF f left ≤ left ∧ (f.1.size : Int) ≤ left ∧ (f.2.size : Int) ≤ left) := by
  unfold szF
  split
  · exact .inl ⟨by omega, rfl⟩
  · split
    · exact .inl ⟨by omega, rfl⟩
    · exact .inr ⟨by omega, by omega, by omega, by omega⟩

def noFd : Fd := (⟨#[]⟩, ⟨#[]⟩)
/-- Block g holds n fields, the i-th one F i; none is frozen. -/
def FCells (w : World) (g n : Nat) (F : Nat → Fd) : Prop :=
  ∃ cur t, w.heap[g]? = some (.cells cur t (0, 0)) ∧ n * 2 ≤ cur.size ∧ ∀ i, i < n → cur[i * 2]? = some (.string (F i).1) ∧ cur[i * 2 + 1]? = some (.string (F i).2)

theorem FCells.lt {w : World} {g n : Nat} {F : Nat → Fd} (h : FCells w g n F) : g < w.heap.size := by
  obtain ⟨cur, t, hh, _⟩ := h
  exact (Array.getElem?_eq_some_iff.1 hh).1
theorem FCells.keep {w w' : World} {g n : Nat} {F : Nat → Fd} (h : FCells w g n F) (hk : w'.heap[g]? = w.heap[g]?) : FCells w' g n F := by
  obtain ⟨cur, t, hh, r⟩ := h
  exact ⟨cur, t, hk.trans hh, r⟩
theorem FCells.congr {w : World} {g n : Nat} {F F' : Nat → Fd} (h : FCells w g n F) (he : ∀ i, i < n → F i = F' i) : FCells w g n F' := by
  obtain ⟨cur, t, hh, hs, hc⟩ := h
  exact ⟨cur, t, hh, hs, fun i hi => by rw [← he i hi]; exact hc i hi⟩
theorem FCells.cell0 {w : World} {g n : Nat} {F : Nat → Fd} (h : FCells w g n F) {i : Nat} (hi : i < n) : w.cell? ⟨g, i * 2, none⟩ = some (.string (F i).1) := by
  obtain ⟨cur, t, hh, hs, hc⟩ := h
  simp [World.cell?, hh, (hc i hi).1]
theorem FCells.cell1 {w : World} {g n : Nat} {F : Nat → Fd} (h : FCells w g n F) {i : Nat} (hi : i < n) : w.cell? ⟨g, i * 2 + 1, none⟩ = some (.string (F i).2) := by
  obtain ⟨cur, t, hh, hs, hc⟩ := h
  simp [World.cell?, hh, (hc i hi).2]
theorem FCells.frozen {w : World} {g n : Nat} {F : Nat → Fd} (h : FCells w g n F) (j : Nat) : w.frozen? ⟨g, j, none⟩ = false := by
  obtain ⟨cur, t, hh, hs, hc⟩ := h
  simp [World.frozen?, hh]
def upd0 (F : Nat → Fd) (i : Nat) (s : ByteArray) : Nat → Fd := fun j => if j = i then (s, (F j).2) else F j
def upd1 (F : Nat → Fd) (i : Nat) (s : ByteArray) : Nat → Fd := fun j => if j = i then ((F j).1, s) else F j
theorem FCells.set0 {w : World} {g n : Nat} {F : Nat → Fd} (h : FCells w g n F) {i : Nat} (_hi : i < n) (s : ByteArray) : FCells (w.setCell ⟨g, i * 2, none⟩ (.string s)) g n (upd0 F i s) := by
  obtain ⟨cur, t, hh, hs, hc⟩ := h
  refine ⟨_, t, heap_setCell_same w g (i * 2) cur t _ hh, by simpa using hs, fun j hj => ?_⟩
  obtain ⟨h0, h1⟩ := hc j hj
  rw [Array.getElem?_setIfInBounds, Array.getElem?_setIfInBounds]
  unfold upd0
  by_cases e : j = i
  · subst e
    simp only [if_true, show ¬ (j * 2 = j * 2 + 1) from by omega, show j * 2 < cur.size from by omega, if_false]
    exact ⟨trivial, h1⟩
  · simp only [show ¬ (i * 2 = j * 2 + 1) from by omega, show ¬ (i * 2 = j * 2) from by omega, if_neg e, if_false]
    exact ⟨h0, h1⟩
theorem FCells.set1 {w : World} {g n : Nat} {F : Nat → Fd} (h : FCells w g n F) {i : Nat} (_hi : i < n) (s : ByteArray) : FCells (w.setCell ⟨g, i * 2 + 1, none⟩ (.string s)) g n (upd1 F i s) := by
  obtain ⟨cur, t, hh, hs, hc⟩ := h
  refine ⟨_, t, heap_setCell_same w g (i * 2 + 1) cur t _ hh, by simpa using hs, fun j hj => ?_⟩
  obtain ⟨h0, h1⟩ := hc j hj
  rw [Array.getElem?_setIfInBounds, Array.getElem?_setIfInBounds]
  unfold upd1
  by_cases e : j = i
  · subst e
    simp only [if_true, show ¬ (j * 2 + 1 = j * 2) from by omega, show j * 2 + 1 < cur.size from by omega, if_false]
    exact ⟨h0, trivial⟩
  · simp only [show ¬ (i * 2 + 1 = j * 2 + 1) from by omega, show ¬ (i * 2 + 1 = j * 2) from by omega, if_neg e, if_false]
    exact ⟨h0, h1⟩
def fget (fs : List Fd) (i : Nat) : Fd := (fs[i]?).getD noFd
theorem fget_at {fs : List Fd} {i : Nat} {f : Fd} (h : fs[i]? = some f) : fget fs i = f := by simp [fget, h]
theorem FCells.row {w : World} {g : Nat} {fs : List Fd} (h : FCells w g fs.length (fget fs)) (hn : fs.length ≤ maxLen) : FRow w (.slice (some ⟨g, 0, none⟩) fs.length fs.length) fs := by
  refine ⟨_, _, rfl, Nat.le_refl _, hn, fun j f hj => ⟨g, 0, rfl, h.lt, ?_, ?_⟩⟩
  · have := h.cell0 (i := j) (List.getElem?_eq_some_iff.1 hj).1
    rw [fget_at hj] at this
    rw [Nat.zero_add]; exact this
  · have := h.cell1 (i := j) (List.getElem?_eq_some_iff.1 hj).1
    rw [fget_at hj] at this
    rw [Nat.zero_add]; exact this

theorem made_fd (n : Nat) : (madeCells (Value.agg #[.string ⟨#[]⟩, .string ⟨#[]⟩]).cells (n * 2)).size = n * 2 ∧ ∀ i, i < n → (madeCells (Value.agg #[.string ⟨#[]⟩, .string ⟨#[]⟩]).cells (n * 2))[i * 2]? = some (.string noFd.1) ∧ (madeCells (Value.agg #[.string ⟨#[]⟩, .string ⟨#[]⟩]).cells (n * 2))[i * 2 + 1]? = some (.string noFd.2) := by
  refine ⟨size_madeCells _ _, fun i hi => ?_⟩
  have hc : (Value.agg #[.string ⟨#[]⟩, .string ⟨#[]⟩]).cells = #[.string ⟨#[]⟩, .string ⟨#[]⟩] := by rfl
  unfold madeCells
  rw [hc]
  constructor
  · rw [Array.getElem?_map, Array.getElem?_range, if_pos (by omega)]
    simp [noFd]
  · rw [Array.getElem?_map, Array.getElem?_range, if_pos (by omega)]
    have : (i * 2 + 1) % 2 = 1 := by omega
    simp [noFd, this]

def upto (fs : List Fd) (k : Nat) : Nat → Fd := fun i => if i < k then fget fs i else noFd
theorem upto_step {fs : List Fd} {k : Nat} {a b : ByteArray} (h : fs[k]? = some (a, b)) : upd1 (upd0 (upto fs k) k a) k b = upto fs (k + 1) := by
  funext i
  unfold upd1 upd0 upto
  by_cases e : i = k
  · subst e
    simp [fget_at h]
  · rw [if_neg e, if_neg e]
    by_cases hi : i < k
    · rw [if_pos hi, if_pos (by omega)]
    · rw [if_neg hi, if_neg (by omega)]

theorem str_refl (a : ByteArray) : (a.toList != a.toList) = false := by simp

/-- The marks of a field, and a list whose first j fields are marked. -/
def mkFd (k i : Nat) : Fd := (⟨(markS (k + 2 * i)).toArray⟩, ⟨(markS (k + 2 * i + 1)).toArray⟩)
def mkUp (k : Nat) (F : Nat → Fd) (j : Nat) : Nat → Fd := fun i => if i < j then mkFd k i else F i
theorem mkUp_step (k : Nat) (F : Nat → Fd) (j : Nat) : upd1 (upd0 (mkUp k F j) j ⟨(markS (k + 2 * j)).toArray⟩) j ⟨(markS (k + 2 * j + 1)).toArray⟩ = mkUp k F (j + 1) := by
  funext i
  unfold upd1 upd0 mkUp
  by_cases e : i = j
  · subst e; simp [mkFd]
  · rw [if_neg e, if_neg e]
    by_cases hi : i < j
    · rw [if_pos hi, if_pos (by omega)]
    · rw [if_neg hi, if_neg (by omega)]

end Go.Proofs.YtncegikmpapldaaGreatDoor
