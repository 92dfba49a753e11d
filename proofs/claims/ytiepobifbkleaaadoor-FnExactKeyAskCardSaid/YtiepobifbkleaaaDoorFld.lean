/- Fields: the lists of fields, the map of places that the program makes of one, and the values of a name. -/
import Derived.Test.YtiepobifbkleaaaDoorGrp
import Derived.Test.YtiepobifbkleaaaDoorRows
import Derived.Test.YtiepobifbkleaaaDoorShelf
import Derived.WalkKit
import Derived.WalkSpells
import Derived.WalkLawsBesides
import Derived.BigQuiet
import Derived.Deep.RegionLaw
import Derived.Deep.AppendLies
import Derived.Lib.Hide
namespace Go.Proofs.YtiepobifbkleaaaDoor
open Go.RowKit Go.Maps

abbrev Fd := ByteArray × ByteArray

/-- A slice that reads as a list of fields. -/
def FRow (w : World) (v : Value) (fs : List Fd) : Prop :=
  ∃ a c, v = .slice a fs.length c ∧ fs.length ≤ c ∧ c ≤ maxLen ∧ ∀ j f, fs[j]? = some f → ∃ b o, a = some ⟨b, o, none⟩ ∧ b < w.heap.size ∧ w.cell? ⟨b, o + j * 2, none⟩ = some (.string f.1) ∧ w.cell? ⟨b, o + j * 2 + 1, none⟩ = some (.string f.2)

theorem FRow.below {w w' : World} {v : Value} {fs : List Fd} (h : FRow w v fs) {B : Nat} (hB : w.heap.size ≤ B) (hb : Below B w w') : FRow w' v fs := by
  obtain ⟨a, c, rfl, h1, h2, h3⟩ := h
  refine ⟨a, c, rfl, h1, h2, fun j f hj => ?_⟩
  obtain ⟨b, o, rfl, hlt, c1, c2⟩ := h3 j f hj
  exact ⟨b, o, rfl, Nat.lt_of_lt_of_le hlt hb.size, (hb.cell (p := ⟨b, o + j * 2, none⟩) (Nat.lt_of_lt_of_le hlt hB)).trans c1, (hb.cell (p := ⟨b, o + j * 2 + 1, none⟩) (Nat.lt_of_lt_of_le hlt hB)).trans c2⟩
theorem FRow.drewN {w : World} {v : Value} {fs : List Fd} (h : FRow w v fs) (n : Nat) : FRow (w.drewN n) v fs := h

/-- All texts of the fields are of a text's length. -/
def FOk (fs : List Fd) (K : Nat) : Prop := ∀ f ∈ fs, f.1.size ≤ K ∧ f.2.size ≤ K

/-- The places of a name among the first k fields. -/
def idxTo (fs : List Fd) (s : ByteArray) : Nat → List Int
  | 0 => []
  | k + 1 => match fs[k]? with
    | some f => if f.1 = s then idxTo fs s k ++ [(k : Int)] else idxTo fs s k
    | none => idxTo fs s k
/-- The values of a name among the first k fields. -/
def allTo (fs : List Fd) (s : ByteArray) : Nat → List ByteArray
  | 0 => []
  | k + 1 => match fs[k]? with
    | some f => if f.1 = s then allTo fs s k ++ [f.2] else allTo fs s k
    | none => allTo fs s k
def valAt (fs : List Fd) (j : Int) : ByteArray := ((fs[j.toNat]?).map (·.2)).getD ByteArray.empty

theorem idx_vals (fs : List Fd) (s : ByteArray) (k : Nat) : (idxTo fs s k).map (valAt fs) = allTo fs s k := by
  induction k with
  | zero => rfl
  | succ k ih =>
    unfold idxTo allTo
    cases hf : fs[k]? with
    | none => exact ih
    | some f =>
      dsimp only
      split
      · rw [List.map_append, ih]; simp [valAt, hf]
      · exact ih
theorem idx_lt (fs : List Fd) (s : ByteArray) (k : Nat) : ∀ j ∈ idxTo fs s k, 0 ≤ j ∧ j < k ∧ j < fs.length := by
  induction k with
  | zero => simp [idxTo]
  | succ k ih =>
    intro j hj
    unfold idxTo at hj
    have old : j ∈ idxTo fs s k → 0 ≤ j ∧ j < (k + 1 : Nat) ∧ j < fs.length := fun h => by have := ih j h; omega
    cases hf : fs[k]? with
    | none => rw [hf] at hj; exact old hj
    | some f =>
      have hk : k < fs.length := (List.getElem?_eq_some_iff.1 hf).1
      rw [hf] at hj
      dsimp only at hj
      split at hj
      · rcases List.mem_append.1 hj with h | h
        · exact old h
        · have : j = k := by simpa using h
          omega
      · exact old hj
theorem idx_len (fs : List Fd) (s : ByteArray) (k : Nat) : (idxTo fs s k).length ≤ k := by
  induction k with
  | zero => simp [idxTo]
  | succ k ih =>
    unfold idxTo
    cases fs[k]? with
    | none => exact Nat.le_succ_of_le ih
    | some f =>
      dsimp only
      split
      · simp; omega
      · exact Nat.le_succ_of_le ih

/-- What the map holds behind k rounds. -/
def Holds (D : DataW Unit) (fs : List Fd) (k : Nat) : Prop := IsMap D ∧ ∀ s : ByteArray, D.atKey (.string s.data.toList) .nil = rowD (idxTo fs s k)

theorem holds_start (fs : List Fd) : Holds (.map []) fs 0 := ⟨isMap_empty, fun __s => rfl⟩
theorem isMap_put {D : DataW Unit} (h : IsMap D) (k : Lit) (d : DataW Unit) : IsMap (D.put k d) := by
  obtain ⟨es, rfl⟩ := h
  exact ⟨_, rfl⟩
theorem str_inj {a b : ByteArray} (h : a.data.toList = b.data.toList) : a = b := by
  cases a; cases b; simpa [Array.toList_inj] using h
theorem idxTo_at {fs : List Fd} {k : Nat} {f : Fd} (s : ByteArray) (hf : fs[k]? = some f) : idxTo fs s (k + 1) = if f.1 = s then idxTo fs s k ++ [(k : Int)] else idxTo fs s k := by simp [idxTo, hf]
theorem allTo_at {fs : List Fd} {k : Nat} {f : Fd} (s : ByteArray) (hf : fs[k]? = some f) : allTo fs s (k + 1) = if f.1 = s then allTo fs s k ++ [f.2] else allTo fs s k := by simp [allTo, hf]
theorem holds_step {D : DataW Unit} {fs : List Fd} {k : Nat} {f : Fd} (h : Holds D fs k) (hf : fs[k]? = some f) : Holds (D.put (.string f.1.data.toList) (rowD (idxTo fs f.1 k ++ [(k : Int)]))) fs (k + 1) := by
  refine ⟨isMap_put h.1 _ _, fun s => ?_⟩
  rw [idxTo_at s hf]
  by_cases hs : f.1 = s
  · rw [if_pos hs, ← hs, atKey_put_same h.1 (by exact trivial)]
  · rw [if_neg hs, atKey_put_other (fun e => hs (str_inj (by injection e with e; exact e.symm)))]
    exact h.2 s

theorem law9 : Keyed Tryd.prog 9 := string_keyed Tryd.underlying9
theorem zeroInts (w : World) : (zeroValue 107).run Tryd.prog w = .ok (.slice none 0 0) w := by kernel_rfl
theorem Tryd.infoInt : (Tryd.prog.info? 3).map (fun i => (i.zero, i.size, i.bytes)) = some (some (.int .i64 0), 1, 8) := by kernel_rfl

end Go.Proofs.YtiepobifbkleaaaDoor
