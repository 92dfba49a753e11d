/- Plain functions on lists of bytes; no program. -/
import Derived.Lib.Bytealg
import Derived.Below
import Derived.Deep.Draws
namespace Go.Proofs.YtbhnjnoblkfckabDoor

def cutL : List UInt8 → UInt8 → List UInt8 × List UInt8 × Bool
  | [], _ => ([], [], false)
  | b :: l, c => if b = c then ([], l, true) else (b :: (cutL l c).1, (cutL l c).2.1, (cutL l c).2.2)

theorem cutL_no (l : List UInt8) (c : UInt8) (h : c ∉ l) : cutL l c = (l, [], false) := by
  induction l with
  | nil => rfl
  | cons b l ih =>
    have h1 : b ≠ c := fun e => h (by rw [e]; exact List.mem_cons_self ..)
    have h2 : c ∉ l := fun e => h (List.mem_cons_of_mem _ e)
    unfold cutL; rw [if_neg h1, ih h2]

theorem cutL_yes (l r : List UInt8) (c : UInt8) (h : c ∉ l) : cutL (l ++ c :: r) c = (l, r, true) := by
  induction l with
  | nil => simp [cutL]
  | cons b l ih =>
    have h1 : b ≠ c := fun e => h (by rw [e]; exact List.mem_cons_self ..)
    have h2 : c ∉ l := fun e => h (List.mem_cons_of_mem _ e)
    rw [List.cons_append]; unfold cutL; rw [if_neg h1, ih h2]

theorem indexByte_no {l : List UInt8} {c : UInt8} (h : Go.Lib.indexByte l c < 0) : c ∉ l := by
  induction l with
  | nil => simp
  | cons b l ih =>
    unfold Go.Lib.indexByte at h
    by_cases hb : (b == c) = true
    · simp [hb] at h
    · rw [if_neg hb] at h
      have hge := Go.Lib.indexByte_ge l c
      by_cases h2 : (Go.Lib.indexByte l c == -1) = true
      · have h3 : Go.Lib.indexByte l c = -1 := by simpa using h2
        have := ih (by omega)
        simp only [List.mem_cons, not_or]
        exact ⟨fun e => hb (by simp [e]), this⟩
      · rw [if_neg h2] at h
        have : Go.Lib.indexByte l c ≠ -1 := by simpa using h2
        omega

theorem indexByte_yes {l : List UInt8} {c : UInt8} (k : Nat) (h : Go.Lib.indexByte l c = k) : k < l.length ∧ l[k]? = some c ∧ c ∉ l.take k := by
  induction l generalizing k with
  | nil => simp [Go.Lib.indexByte] at h
  | cons b l ih =>
    unfold Go.Lib.indexByte at h
    by_cases hb : (b == c) = true
    · rw [if_pos hb] at h
      have : k = 0 := by omega
      subst this
      have : b = c := by simpa using hb
      simp [this]
    · rw [if_neg hb] at h
      have hge := Go.Lib.indexByte_ge l c
      by_cases h2 : (Go.Lib.indexByte l c == -1) = true
      · rw [if_pos h2] at h; omega
      · rw [if_neg h2] at h
        have h3 : Go.Lib.indexByte l c ≠ -1 := by simpa using h2
        have := ih (Go.Lib.indexByte l c).toNat (by omega)
        obtain ⟨e1, e2, e3⟩ := this
        have ek : k = (Go.Lib.indexByte l c).toNat + 1 := by omega
        rw [ek]
        refine ⟨by simp; omega, by simpa using e2, ?_⟩
        rw [List.take_succ_cons, List.mem_cons, not_or]
        exact ⟨fun e => hb (by simp [e]), e3⟩

theorem cutL_at {l : List UInt8} {c : UInt8} {k : Nat} (h1 : l[k]? = some c) (h2 : c ∉ l.take k) : cutL l c = (l.take k, l.drop (k + 1), true) := by
  have hk : k < l.length := by
    rcases Nat.lt_or_ge k l.length with h | h
    · exact h
    · rw [List.getElem?_eq_none h] at h1; cases h1
  have e : l = l.take k ++ c :: l.drop (k + 1) := by
    conv => lhs; rw [← List.take_append_drop k l]
    rw [List.drop_eq_getElem_cons hk]
    rw [List.getElem?_eq_getElem hk] at h1
    injection h1 with h1
    rw [h1]
  conv => lhs; rw [e]
  exact cutL_yes _ _ _ h2

theorem ext_take (s : ByteArray) (k : Nat) : s.extract 0 k = ⟨(s.data.toList.take k).toArray⟩ := by
  apply ByteArray.ext
  apply Array.toList_inj.mp
  simp [ByteArray.data_extract]

theorem size_len (s : ByteArray) : s.size = s.data.toList.length := Go.Lib.size_eq s
theorem ext_drop (s : ByteArray) (k : Nat) : s.extract k s.size = ⟨(s.data.toList.drop k).toArray⟩ := by
  apply ByteArray.ext
  apply Array.toList_inj.mp
  rw [ByteArray.data_extract, Array.toList_extract, List.extract_eq_take_drop, size_len, List.take_of_length_le]
  rw [List.length_drop]; exact Nat.le_refl _
theorem mk_toList (s : ByteArray) : (⟨s.data.toList.toArray⟩ : ByteArray) = s := by simp

theorem at_get (s : ByteArray) (k : Nat) (hk : k < s.size) : s.data.toList[k]? = some s[k] := by
  have h : k < s.data.toList.length := by rw [← size_len]; exact hk
  rw [List.getElem?_eq_getElem h]; rfl
theorem u8_of_int {a b : UInt8} (h : ((a.toNat : Int) == (b.toNat : Int)) = true) : a = b := by
  have : (a.toNat : Int) = b.toNat := by simpa using h
  exact UInt8.toNat_inj.mp (by omega)
theorem u8_ne_int {a b : UInt8} (h : ((a.toNat : Int) == (b.toNat : Int)) = false) : a ≠ b := by
  rintro rfl; simp at h
theorem take_succ_at {l : List UInt8} {k : Nat} {b : UInt8} (h : l[k]? = some b) : l.take (k + 1) = l.take k ++ [b] := by
  rw [List.take_add_one, h]; rfl
theorem notin_succ {s : ByteArray} {k : Nat} {c : UInt8} (hk : k < s.size) (h : c ∉ s.data.toList.take k) (h2 : s[k] ≠ c) : c ∉ s.data.toList.take (k + 1) := by
  rw [take_succ_at (at_get s k hk)]
  simp only [List.mem_append, List.mem_singleton, not_or]
  exact ⟨h, fun e => h2 e.symm⟩

theorem cutL_len (l : List UInt8) (c : UInt8) : (cutL l c).1.length ≤ l.length ∧ (cutL l c).2.1.length ≤ l.length := by
  induction l with
  | nil => simp [cutL]
  | cons b l ih =>
    unfold cutL
    split
    · simp
    · simp only [List.length_cons]; omega

open Go.RowKit in
theorem below_drewN_left {B n : Nat} {w w' : World} (h : Below B (w.drewN n) w') : Below B w w' := ⟨h.os, h.tape, h.output, h.size, h.block⟩
open Go.RowKit in
theorem below_drew_left {B : Nat} {w w' : World} (h : Below B w.drew w') : Below B w w' := ⟨h.os, h.tape, h.output, h.size, h.block⟩
open Go.RowKit in
theorem below_drewN {B n : Nat} {w w' : World} (h : Below B w w') : Below B w (w'.drewN n) := ⟨h.os, h.tape, h.output, h.size, h.block⟩

theorem cat_mk (a b : List UInt8) : (⟨a.toArray⟩ ++ ⟨b.toArray⟩ : ByteArray) = ⟨(a ++ b).toArray⟩ := by
  apply ByteArray.ext
  simp
/-- A text as a value. -/
abbrev strV (l : List UInt8) : Value := .string ⟨l.toArray⟩

theorem u8_of_wf {c : Int} (h : (Lit.int .u8 c).wf = true) : ∃ u : UInt8, c = (u.toNat : Int) := by
  have hx : 0 ≤ c ∧ c ≤ 255 := by simpa [Lit.wf, IntKind.min, IntKind.max, IntKind.signed, IntKind.bits] using h
  obtain ⟨n, rfl⟩ := Int.eq_ofNat_of_zero_le hx.1
  exact ⟨UInt8.ofNat n, by simp; omega⟩

/-- A slice of integers that came in: nil, or a row of cells. -/
def IsRow (k : IntKind) (w : World) (a : Option Addr) (len cap : Nat) (zs : List Int) : Prop :=
  (a = none ∧ len = 0 ∧ cap = 0 ∧ zs = []) ∨
  ∃ x, a = some x ∧ len ≤ cap ∧ cap ≤ maxLen ∧ zs.length = cap ∧ (∀ i, i < zs.length → w.cell? (x.add i) = some (.int k (zs.getD i 0))) ∧ ∀ n ∈ zs, (Lit.int k n).wf = true

end Go.Proofs.YtbhnjnoblkfckabDoor
