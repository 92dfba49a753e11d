/- Walks: small letters. -/
import Derived.Test.YtjhgibmeokghmaaDoorTok
import Derived.Lib.ConvBytes
import Derived.Lib.AtoiErrMem
import Derived.Laws.IdiomStrings
namespace Go.Proofs.YtjhgibmeokghmaaDoor
open Go.RowKit

def lowB (c : UInt8) : UInt8 := if isGreat c = true then c + 32 else c
def lowL (l : List UInt8) : List UInt8 := l.map lowB

/-- A row of bytes that a conversion made: the mark stands behind its end. -/
def BRow (w : World) (g cap : Nat) (l : List UInt8) : Prop :=
  ∃ cur, w.heap[g]? = some (.cells cur 5 (cur.size, cur.size + 1)) ∧ cur.size = cap ∧ l.length ≤ cap ∧ cur.toList.take l.length = l.map fun b => Value.int .u8 (b.toNat : Int)

theorem BRow.made (w : World) (s : ByteArray) : BRow (Lib.bytesWorld w 5 s) w.heap.size (grownCap w s.size 0 5) s.data.toList := by
  have hge := grownCap_ge w s.size 0 5
  refine ⟨_, Lib.bytesWorld_at_new w 5 s, ?_, ?_, ?_⟩
  · simp [Lib.bytesCells]
    have : s.data.size = s.size := rfl
    omega
  · rw [← size_len]; exact hge
  · simp [Lib.bytesCells]

theorem BRow.cell {w : World} {g cap : Nat} {l : List UInt8} (h : BRow w g cap l) {j : Nat} {b : UInt8} (hj : l[j]? = some b) : w.cell? ⟨g, j, none⟩ = some (.int .u8 (b.toNat : Int)) := by
  obtain ⟨cur, h1, h2, h3, h4⟩ := h
  rw [cell_of_row w g j cur 5 _ h1]
  have hjl : j < l.length := by
    rcases Nat.lt_or_ge j l.length with h | h
    · exact h
    · rw [List.getElem?_eq_none h] at hj; cases hj
  have := congrArg (·[j]?) h4
  simp only [List.getElem?_take, if_pos hjl, List.getElem?_map, hj, Option.map_some] at this
  simpa using this

theorem BRow.frozen {w : World} {g cap : Nat} {l : List UInt8} (h : BRow w g cap l) {j : Nat} (hj : j < l.length) : w.frozen? ⟨g, j, none⟩ = false := by
  obtain ⟨cur, h1, h2, h3, h4⟩ := h
  simp [World.frozen?, h1]
  omega

theorem BRow.lt {w : World} {g cap : Nat} {l : List UInt8} (h : BRow w g cap l) : g < w.heap.size := by
  obtain ⟨cur, h1, _⟩ := h
  rcases Nat.lt_or_ge g w.heap.size with hlt | hge
  · exact hlt
  · rw [Array.getElem?_eq_none hge] at h1; cases h1

theorem BRow.set {w : World} {g cap : Nat} {l : List UInt8} (h : BRow w g cap l) {j : Nat} (b : UInt8) (__hj : j < l.length) : BRow (w.setCell ⟨g, j, none⟩ (.int .u8 (b.toNat : Int))) g cap (l.set j b) := by
  obtain ⟨cur, h1, h2, h3, h4⟩ := h
  refine ⟨cur.setIfInBounds j (.int .u8 (b.toNat : Int)), ?_, by simpa using h2, by simpa using h3, ?_⟩
  · have : (w.setCell ⟨g, j, none⟩ (.int .u8 (b.toNat : Int))).heap[g]? = some (.cells (cur.setIfInBounds j (.int .u8 (b.toNat : Int))) 5 (cur.size, cur.size + 1)) := by
      simp [World.setCell, Array.getElem?_modify, h1]
    rw [this]; simp
  · rw [Array.toList_setIfInBounds, List.length_set, List.take_set, h4, List.map_set]

theorem BRow.keep {w w' : World} {g cap : Nat} {l : List UInt8} (h : BRow w g cap l) (hk : w'.heap[g]? = w.heap[g]?) : BRow w' g cap l := by
  obtain ⟨cur, h1, h2⟩ := h
  exact ⟨cur, hk.trans h1, h2⟩

theorem low_set (l : List UInt8) (k : Nat) (b : UInt8) (h : l[k]? = some b) : ((lowL (l.take k)) ++ l.drop k).set k (lowB b) = lowL (l.take (k + 1)) ++ l.drop (k + 1) := by
  have hk : k < l.length := by
    rcases Nat.lt_or_ge k l.length with h' | h'
    · exact h'
    · rw [List.getElem?_eq_none h'] at h; cases h
  have hl : (lowL (l.take k)).length = k := by simp [lowL]; omega
  rw [List.set_append_right _ _ (by omega), hl, Nat.sub_self, take_succ_at h]
  have hd : (l.drop k).set 0 (lowB b) = lowB b :: l.drop (k + 1) := by rw [List.drop_eq_getElem_cons hk]; rfl
  rw [hd]
  simp [lowL]
theorem low_same (l : List UInt8) (k : Nat) (b : UInt8) (h : l[k]? = some b) (hb : lowB b = b) : lowL (l.take k) ++ l.drop k = lowL (l.take (k + 1)) ++ l.drop (k + 1) := by
  rw [← low_set l k b h, hb]
  have hk : k < l.length := by
    rcases Nat.lt_or_ge k l.length with h' | h'
    · exact h'
    · rw [List.getElem?_eq_none h'] at h; cases h
  have hl : (lowL (l.take k)).length = k := by simp [lowL]; omega
  rw [List.set_append_right _ _ (by omega), hl, Nat.sub_self, List.drop_eq_getElem_cons hk]
  have : l[k] = b := by rw [List.getElem?_eq_getElem hk] at h; exact Option.some.inj h
  simp [this]
theorem low_at (l : List UInt8) (k : Nat) (b : UInt8) (h : l[k]? = some b) : (lowL (l.take k) ++ l.drop k)[k]? = some b := by
  have hk : k < l.length := by
    rcases Nat.lt_or_ge k l.length with h' | h'
    · exact h'
    · rw [List.getElem?_eq_none h'] at h; cases h
  have hl : (lowL (l.take k)).length = k := by simp [lowL]; omega
  rw [List.getElem?_append_right (by omega), hl, Nat.sub_self, List.getElem?_drop]
  simpa using h

theorem lowL_snoc {s : ByteArray} {k : Nat} (hk : k < s.size) : lowL (s.data.toList.take (k + 1)) = lowL (s.data.toList.take k) ++ [lowB s[k]] := by
  rw [take_succ_at (at_get s k hk)]; simp [lowL]
theorem ext_one (s : ByteArray) (k : Nat) (hk : k < s.size) : s.extract k (k + 1) = ⟨#[s[k]]⟩ := by
  apply ByteArray.ext
  apply Array.toList_inj.mp
  rw [ByteArray.data_extract, Array.toList_extract, List.extract_eq_take_drop]
  have := at_get s k hk
  rw [show k + 1 - k = 1 from by omega, List.take_one, List.head?_drop, this]; rfl

end Go.Proofs.YtjhgibmeokghmaaDoor
