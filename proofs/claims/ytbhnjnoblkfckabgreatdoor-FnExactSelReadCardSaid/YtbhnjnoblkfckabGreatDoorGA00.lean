import Derived.Lib.Bytealg
import Derived.Below
import Derived.Deep.Draws
import Derived.Test.YtbhnjnoblkfckabGreatDoorRows
import Derived.Test.YtbhnjnoblkfckabGreatDoorShelf
import Derived.WalkKit
import Derived.WalkSpells
import Derived.WalkLawsBesides
import Derived.BigQuiet
import Derived.Lib.Hide
import Derived.Laws.IdiomStrings
import Derived.Lib.LaidTab
import Derived.Lib.ConvBytes
import Derived.Lib.AtoiErrMem
-- from XPure
/- Plain functions on lists of bytes; no program. -/
namespace Go.Proofs.YtbhnjnoblkfckabGreatDoor

def cutL : List UInt8 → UInt8 → List UInt8 × List UInt8 × Bool
  | [], _ => ([], [], false)
  | b :: l, c => if b = c then ([], l, true) else (b :: (cutL l c).1, (cutL l c).2.1, (cutL l c).2.2)

theorem cutL_no (l : List UInt8) (c : UInt8) (h : c ∉ l) : cutL l c = (l, [], false) := by
  induction l with
  | nil => rfl
  | cons b l ih =>
    have h1 : b ≠ c := fun e => h (by rw [e]; exact List.mem_cons_self ..)
    have h2 : c ∉ l := fun e => h (List.mem_cons_of_mem _ e)
    unfold cutL; rw [if_neg h1, ih h2]

theorem cutL_yes (l r : List UInt8) (c : UInt8) (h : c ∉ l) : cutL (l ++ c :: r) c = (l, r, true) := by
  induction l with
  | nil => simp [cutL]
  | cons b l ih =>
    have h1 : b ≠ c := fun e => h (by rw [e]; exact List.mem_cons_self ..)
    have h2 : c ∉ l := fun e => h (List.mem_cons_of_mem _ e)
    rw [List.cons_append]; unfold cutL; rw [if_neg h1, ih h2]

theorem indexByte_no {l : List UInt8} {c : UInt8} (h : Go.Lib.indexByte l c < 0) : c ∉ l := by
  induction l with
  | nil => simp
  | cons b l ih =>
    unfold Go.Lib.indexByte at h
    by_cases hb : (b == c) = true
    · simp [hb] at h
    · rw [if_neg hb] at h
      have hge := Go.Lib.indexByte_ge l c
      by_cases h2 : (Go.Lib.indexByte l c == -1) = true
      · have h3 : Go.Lib.indexByte l c = -1 := by simpa using h2
        have := ih (by omega)
        simp only [List.mem_cons, not_or]
        exact ⟨fun e => hb (by simp [e]), this⟩
      · rw [if_neg h2] at h
        have : Go.Lib.indexByte l c ≠ -1 := by simpa using h2
        omega

theorem indexByte_yes {l : List UInt8} {c : UInt8} (k : Nat) (h : Go.Lib.indexByte l c = k) : k < l.length ∧ l[k]? = some c ∧ c ∉ l.take k := by
  induction l generalizing k with
  | nil => simp [Go.Lib.indexByte] at h
  | cons b l ih =>
    unfold Go.Lib.indexByte at h
    by_cases hb : (b == c) = true
    · rw [if_pos hb] at h
      have : k = 0 := by omega
      subst this
      have : b = c := by simpa using hb
      simp [this]
    · rw [if_neg hb] at h
      have hge := Go.Lib.indexByte_ge l c
      by_cases h2 : (Go.Lib.indexByte l c == -1) = true
      · rw [if_pos h2] at h; omega
      · rw [if_neg h2] at h
        have h3 : Go.Lib.indexByte l c ≠ -1 := by simpa using h2
        have := ih (Go.Lib.indexByte l c).toNat (by omega)
        obtain ⟨e1, e2, e3⟩ := this
        have ek : k = (Go.Lib.indexByte l c).toNat + 1 := by omega
        rw [ek]
        refine ⟨by simp; omega, by simpa using e2, ?_⟩
        rw [List.take_succ_cons, List.mem_cons, not_or]
        exact ⟨fun e => hb (by simp [e]), e3⟩

theorem cutL_at {l : List UInt8} {c : UInt8} {k : Nat} (h1 : l[k]? = some c) (h2 : c ∉ l.take k) : cutL l c = (l.take k, l.drop (k + 1), true) := by
  have hk : k < l.length := by
    rcases Nat.lt_or_ge k l.length with h | h
    · exact h
    · rw [List.getElem?_eq_none h] at h1; cases h1
  have e : l = l.take k ++ c :: l.drop (k + 1) := by
    conv => lhs; rw [← List.take_append_drop k l]
    rw [List.drop_eq_getElem_cons hk]
    rw [List.getElem?_eq_getElem hk] at h1
    injection h1 with h1
    rw [h1]
  conv => lhs; rw [e]
  exact cutL_yes _ _ _ h2

theorem ext_take (s : ByteArray) (k : Nat) : s.extract 0 k = ⟨(s.data.toList.take k).toArray⟩ := by
  apply ByteArray.ext
  apply Array.toList_inj.mp
  simp [ByteArray.data_extract]

theorem size_len (s : ByteArray) : s.size = s.data.toList.length := Go.Lib.size_eq s
theorem ext_drop (s : ByteArray) (k : Nat) : s.extract k s.size = ⟨(s.data.toList.drop k).toArray⟩ := by
  apply ByteArray.ext
  apply Array.toList_inj.mp
  rw [ByteArray.data_extract, Array.toList_extract, List.extract_eq_take_drop, size_len, List.take_of_length_le]
  rw [List.length_drop]; exact Nat.le_refl _
theorem mk_toList (s : ByteArray) : (⟨s.data.toList.toArray⟩ : ByteArray) = s := by simp

theorem at_get (s : ByteArray) (k : Nat) (hk : k < s.size) : s.data.toList[k]? = some s[k] := by
  have h : k < s.data.toList.length := by rw [← size_len]; exact hk
  rw [List.getElem?_eq_getElem h]; rfl
theorem u8_of_int {a b : UInt8} (h : ((a.toNat : Int) == (b.toNat : Int)) = true) : a = b := by
  have : (a.toNat : Int) = b.toNat := by simpa using h
  exact UInt8.toNat_inj.mp (by omega)
theorem u8_ne_int {a b : UInt8} (h : ((a.toNat : Int) == (b.toNat : Int)) = false) : a ≠ b := by
  rintro rfl; simp at h
theorem take_succ_at {l : List UInt8} {k : Nat} {b : UInt8} (h : l[k]? = some b) : l.take (k + 1) = l.take k ++ [b] := by
  rw [List.take_add_one, h]; rfl
theorem notin_succ {s : ByteArray} {k : Nat} {c : UInt8} (hk : k < s.size) (h : c ∉ s.data.toList.take k) (h2 : s[k] ≠ c) : c ∉ s.data.toList.take (k + 1) := by
  rw [take_succ_at (at_get s k hk)]
  simp only [List.mem_append, List.mem_singleton, not_or]
  exact ⟨h, fun e => h2 e.symm⟩

theorem cutL_len (l : List UInt8) (c : UInt8) : (cutL l c).1.length ≤ l.length ∧ (cutL l c).2.1.length ≤ l.length := by
  induction l with
  | nil => simp [cutL]
  | cons b l ih =>
    unfold cutL
    split
    · simp
    · simp only [List.length_cons]; omega

open Go.RowKit in
theorem below_drewN_left {B n : Nat} {w w' : World} (h : Below B (w.drewN n) w') : Below B w w' := ⟨h.os, h.tape, h.output, h.size, h.block⟩
open Go.RowKit in
theorem below_drew_left {B : Nat} {w w' : World} (h : Below B w.drew w') : Below B w w' := ⟨h.os, h.tape, h.output, h.size, h.block⟩
open Go.RowKit in
theorem below_drewN {B n : Nat} {w w' : World} (h : Below B w w') : Below B w (w'.drewN n) := ⟨h.os, h.tape, h.output, h.size, h.block⟩

theorem cat_mk (a b : List UInt8) : (⟨a.toArray⟩ ++ ⟨b.toArray⟩ : ByteArray) = ⟨(a ++ b).toArray⟩ := by
  apply ByteArray.ext
  simp
/-- A text as a value. -/
abbrev strV (l : List UInt8) : Value := .string ⟨l.toArray⟩

theorem u8_of_wf {c : Int} (h : (Lit.int .u8 c).wf = true) : ∃ u : UInt8, c = (u.toNat : Int) := by
  have hx : 0 ≤ c ∧ c ≤ 255 := by simpa [Lit.wf, IntKind.min, IntKind.max, IntKind.signed, IntKind.bits] using h
  obtain ⟨n, rfl⟩ := Int.eq_ofNat_of_zero_le hx.1
  exact ⟨UInt8.ofNat n, by simp; omega⟩

/-- A slice of integers that came in: nil, or a row of cells. -/
def IsRow (k : IntKind) (w : World) (a : Option Addr) (len cap : Nat) (zs : List Int) : Prop :=
  (a = none ∧ len = 0 ∧ cap = 0 ∧ zs = []) ∨
  ∃ x, a = some x ∧ len ≤ cap ∧ cap ≤ maxLen ∧ zs.length = cap ∧ (∀ i, i < zs.length → w.cell? (x.add i) = some (.int k (zs.getD i 0))) ∧ ∀ n ∈ zs, (Lit.int k n).wf = true

end Go.Proofs.YtbhnjnoblkfckabGreatDoor

-- from XCutB
/- Walks: cutting a text at a byte. -/
namespace Go.Proofs.YtbhnjnoblkfckabGreatDoor
open Go.RowKit

theorem idx (s : ByteArray) (c : UInt8) (w : World) : Calls Tryz.prog 140 #[.string s, .int .u8 c.toNat] w fun e w' => e = .returned (.int .i64 (Lib.indexByte s.data.toList c)) ∧ w = w' := by
  have h := Tryz.strings_IndexByte s c.toNat w
  rw [show (c.toNat : Int).toNat.toUInt8 = c from by simp] at h
  exact h.mono fun e w' ⟨a, b⟩ => ⟨a, b.symm⟩

set_option maxHeartbeats 400000 in
theorem textcut_no (s : ByteArray) (c : UInt8) (w : World) (h : Lib.indexByte s.data.toList c < 0) :
    Calls Tryz.prog 108 #[.string s, .int .u8 c.toNat] w fun e w' => e = .returned (.tuple #[.string s, .string ⟨#[]⟩, .bool false]) ∧ w = w' := by
  go_enter Tryz.func108, Tryz.ntmps108
  go_wp2_with fail
  refine (idx _ _ _).mono ?_
  rintro e w' ⟨rfl, rfl⟩
  go_wp2_with fail
  go_ret3
  exact ⟨rfl, rfl⟩

set_option maxHeartbeats 400000 in
theorem textcut_yes (s : ByteArray) (c : UInt8) (k : Nat) (w : World) (h : Lib.indexByte s.data.toList c = k) (hs : s.size ≤ maxLen) (hk : k < s.size) :
    Calls Tryz.prog 108 #[.string s, .int .u8 c.toNat] w fun e w' => e = .returned (.tuple #[.string (s.extract 0 k), .string (s.extract (k+1) s.size), .bool true]) ∧ ∃ n, w' = w.drewN n := by
  unfold maxLen at hs
  have H := Lib.hid h; clear h
  go_enter Tryz.func108, Tryz.ntmps108
  go_wp2_with fail
  refine (idx _ _ _).mono ?_
  rintro e w' ⟨rfl, rfl⟩
  rw [H.out]
  go_wp2_with fail
  go_quiet (fail)
  go_wp2
  go_ret3
  exact ⟨rfl, _, rfl⟩

theorem textcut (s : ByteArray) (c : UInt8) (w : World) (hs : s.size ≤ maxLen) :
    Calls Tryz.prog 108 #[.string s, .int .u8 c.toNat] w fun e w' => e = .returned (.tuple #[.string ⟨(cutL s.data.toList c).1.toArray⟩, .string ⟨(cutL s.data.toList c).2.1.toArray⟩, .bool (cutL s.data.toList c).2.2]) ∧ ∃ n, w' = w.drewN n := by
  by_cases h : Lib.indexByte s.data.toList c < 0
  · refine (textcut_no s c w h).mono fun e w' ⟨he, hw⟩ => ⟨?_, 0, hw.symm⟩
    rw [he, cutL_no _ _ (indexByte_no h), mk_toList]
  · obtain ⟨k, hk⟩ := Int.eq_ofNat_of_zero_le (by omega : 0 ≤ Lib.indexByte s.data.toList c)
    obtain ⟨h1, h2, h3⟩ := indexByte_yes k hk
    refine (textcut_yes s c k w hk hs (by rw [size_len]; exact h1)).mono fun e w' ⟨he, hw⟩ => ⟨?_, hw⟩
    rw [he, cutL_at h2 h3, ext_take, ext_drop]

set_option maxHeartbeats 400000 in
theorem spec_cut (s : ByteArray) (c : UInt8) (w : World) (hs : s.size ≤ maxLen) :
    Calls Tryz.prog 92 #[.string s, .int .u8 c.toNat] w fun e w' => e = .returned (.tuple #[.string ⟨(cutL s.data.toList c).1.toArray⟩, .string ⟨(cutL s.data.toList c).2.1.toArray⟩, .bool (cutL s.data.toList c).2.2]) ∧ ∃ n, w' = w.drewN n := by
  unfold maxLen at hs
  go_enter Tryz.func92, Tryz.ntmps92
  go_wp2_with fail
  go_loop [7] (fun i => ∃ k : Nat, k ≤ s.size ∧ i = .int .i64 k ∧ c ∉ s.data.toList.take k) (fun i => s.size - (intOf i).toNat)
  case atStart => exact ⟨0, Nat.zero_le _, rfl, by simp⟩
  case round =>
    obtain ⟨k, hk, rfl, hno⟩ := hrel
    by_cases hlt : k < s.size
    · go_wp2
      · have he : ((s[k].toNat : Int) == (c.toNat : Int)) = true := by assumption
        go_quiet (fail)
        go_wp2
        go_ret3
        refine ⟨?_, _, rfl⟩
        have e : s.data.toList[k]? = some c := by rw [at_get s k hlt, u8_of_int he]
        rw [cutL_at e hno, ← ext_take, ← ext_drop]; rfl
      · have he : ((s[k].toNat : Int) == (c.toNat : Int)) = false := by assumption
        go_round
        case rel => exact ⟨k + 1, by omega, by go_num, notin_succ hlt hno (u8_ne_int he)⟩
        case measure => simp [intOf]; omega
    · go_wp2
      go_ret3
      have e : k = s.data.toList.length := by rw [← size_len]; omega
      rw [e, List.take_length] at hno
      refine ⟨?_, 0, rfl⟩
      rw [cutL_no _ _ hno, mk_toList]; rfl

set_option maxHeartbeats 400000 in
theorem fresh (s : ByteArray) (w : World) (hs : s.size ≤ 281474976710656) :
    Calls Tryz.prog 43 #[.string s] w fun e w' => e = .returned (.string s) ∧ Below w.heap.size w w' := by
  go_enter Tryz.func43, Tryz.ntmps43
  go_wp2_with (first | (go_at_call 134; refine (Tryz.stringslite_Clone _ _ hs).mono ?_; rintro e w' ⟨rfl, hb⟩) | go_in)
  go_ret
  exact ⟨rfl, hb⟩

end Go.Proofs.YtbhnjnoblkfckabGreatDoor

-- from XOwn
/- Small laws on slices that the call itself makes; no function of the program. -/
namespace Go.Proofs.YtbhnjnoblkfckabGreatDoor
open Go.RowKit

theorem grown_of_below {a w : World} (h : Below a.heap.size a w) (row : Option Nat) : a.grownBy w row := ⟨h.os, h.tape, h.output, h.size, fun i hi _ => h.block i hi⟩

theorem own_below {w w' : World} {base : Nat} {e : TypeId} {size : Nat} {v : Value} {n : Nat} {xs : List Value} (h : w.ownsRow base e size v n xs) (hb : Below w.heap.size w w') : w'.ownsRow base e size v n xs := by
  rcases hv : v.ownBlock with _ | k
  · exact h.kept (grown_of_below hb none) (.inl hv)
  · exact h.kept (grown_of_below hb none) (.inr (by rw [hv]; exact fun e => by cases e))

theorem own_drewN {w : World} {base : Nat} {e : TypeId} {size : Nat} {v : Value} {n : Nat} {xs : List Value} (h : w.ownsRow base e size v n xs) (k : Nat) : (w.drewN k).ownsRow base e size v n xs := h

/-- 'append(out, x)' of one element of one cell. -/
theorem wpList_append1 {P : Program} (w : World) {ops : Array Oper} {rest : List Oper} {o : Oper} {a : Act} {Q : Exit → Act → World → Prop} (hgd : o.guard = none) (s x : Operand) (t : TypeId)
    (ho : o.op = .call { callee := .builtin .append, args := #[s, x], argTypes := #[t, t] })
    (base : Nat) (e : TypeId) (i : TypeInfo) (z : Value) (bytes : Nat) (ht : P.underlying t = some (.slice e)) (hi : P.info? e = some i) (hz : i.zero = some z)
    (hsize : i.size = 1) (hby : i.bytes = bytes) (hzs : z.cells.size = 1)
    (v : Value) (n : Nat) (xs : List Value) (hs : a.eval s = v) (hown : w.ownsRow base e 1 v n xs) (u : Value) (h1 : u.oneCell' = true) (t' : TypeId)
    (hx : a.eval x = .slice (some ⟨w.heap.size, 0, none⟩) 1 1)
    (h63 : n + 1 ≤ maxLen) (hbytes : (n + 1) * bytes ≤ 140737488355328) (hbase : base ≤ w.heap.size)
    (h : ∀ v' w', w'.ownsRow base e 1 v' (n + 1) (xs ++ [u]) → Below base w w' → w.heap.size < w'.heap.size → wpList P ops Q rest (a.put o.dst v') w') : wpList P ops Q (o :: rest) a (w.alloc (.cells #[u] t')) := by
  refine wpList_append_own (w.alloc (.cells #[u] t')) hgd s x t ho base e i z 1 bytes ht hi hz hsize hby hzs (by decide) v n xs hs (hown.alloc _) ⟨w.heap.size, 0, none⟩ 1 1 [u] hx rfl ?_ ?_ h63 hbytes (by simp; omega) ?_
  · intro j y hy
    match j, hy with
    | 0, hy =>
      have : y = u := by simpa using hy.symm
      subst this
      rw [show ((⟨w.heap.size, 0, none⟩ : Addr).add 0) = ⟨w.heap.size, 0, none⟩ from rfl, World.cell?_alloc_at _ _ _ _ rfl]; rfl
    | j + 1, hy => simp at hy
  · intro y hy
    have : y = u := by simpa using hy
    subst this; exact h1
  · intro v' w' ho' hg _
    refine h v' w' ho' ?_ ?_
    · refine ((Below.refl base w).alloc hbase _).grown hg (by simp; omega) ?_
      intro k hk
      exact (hown.lt k hk).1
    · have := hg.size; simp at this; omega

/-- 'string([]byte{x})': the one new byte as a text. -/
theorem run_conv1 {P : Program} (src dst e e' : TypeId) (hs : P.underlying src = some (.slice e)) (he : P.underlying e = some (.int .u8)) (hd : P.underlying dst = some .string)
    (w : World) (x : Int) (h0 : 0 ≤ x) (h1 : x < 256) :
    (convert src dst (.slice (some ⟨w.heap.size, 0, none⟩) 1 1)).run P (w.alloc (.cells #[.int .u8 x] e')) = .ok (.string ⟨#[UInt8.ofNat x.toNat]⟩) (w.alloc (.cells #[.int .u8 x] e')) := by
  have := run_convert_bytes_back (P := P) (w.alloc (.cells #[.int .u8 x] e')) src dst e ⟨w.heap.size, 0, none⟩ 1 [UInt8.ofNat x.toNat] hs he hd (fun j hj => by
    have : j = 0 := by simp at hj; omega
    subst this
    rw [show ((⟨w.heap.size, 0, none⟩ : Addr).add 0) = ⟨w.heap.size, 0, none⟩ from rfl, World.cell?_alloc_at _ _ _ _ rfl]
    simp; omega)
  simpa using this

theorem run_conv1c {P : Program} (src dst e : TypeId) (hs : P.underlying src = some (.slice e)) (he : P.underlying e = some (.int .u8)) (hd : P.underlying dst = some .string)
    (w : World) (b : Nat) (c : UInt8) (hc : w.cell? ⟨b, 0, none⟩ = some (.int .u8 (c.toNat : Int))) :
    (convert src dst (.slice (some ⟨b, 0, none⟩) 1 1)).run P w = .ok (.string ⟨#[c]⟩) w := by
  have := run_convert_bytes_back (P := P) w src dst e ⟨b, 0, none⟩ 1 [c] hs he hd (fun j hj => by
    have : j = 0 := by simp at hj; omega
    subst this
    rw [show ((⟨b, 0, none⟩ : Addr).add 0) = ⟨b, 0, none⟩ from rfl, hc]; rfl)
  simpa using this

theorem grown_trans {a b c : World} {row : Option Nat} (h : a.grownBy b row) (k : b.grownBy c row) : a.grownBy c row :=
  ⟨k.os.trans h.os, k.tape.trans h.tape, k.output.trans h.output, Nat.le_trans h.size k.size, fun i hi hne => (k.block i (Nat.lt_of_lt_of_le hi h.size) hne).trans (h.block i hi hne)⟩

theorem grown_drewN {a b : World} {row : Option Nat} (h : a.grownBy b row) (n : Nat) : a.grownBy (b.drewN n) row := ⟨h.os, h.tape, h.output, h.size, h.block⟩

end Go.Proofs.YtbhnjnoblkfckabGreatDoor

-- from XParts
/- Walks: the parts of a text. -/
namespace Go.Proofs.YtbhnjnoblkfckabGreatDoor
open Go.RowKit

def partsL : List UInt8 → UInt8 → List (List UInt8)
  | [], _ => [[]]
  | b :: l, c => if b = c then [] :: partsL l c else match partsL l c with
    | [] => [[b]]
    | p :: ps => (b :: p) :: ps

theorem partsL_ne (l : List UInt8) (c : UInt8) : partsL l c ≠ [] := by
  cases l with
  | nil => simp [partsL]
  | cons b l =>
    unfold partsL
    split
    · simp
    · split <;> simp

theorem partsL_cut (l : List UInt8) (c : UInt8) : partsL l c = (cutL l c).1 :: (if (cutL l c).2.2 = true then partsL (cutL l c).2.1 c else []) := by
  induction l with
  | nil => simp [partsL, cutL]
  | cons b l ih =>
    have e1 : partsL (b :: l) c = if b = c then [] :: partsL l c else match partsL l c with
      | [] => [[b]]
      | p :: ps => (b :: p) :: ps := rfl
    have e2 : cutL (b :: l) c = if b = c then ([], l, true) else (b :: (cutL l c).1, (cutL l c).2.1, (cutL l c).2.2) := rfl
    rw [e1, e2]
    by_cases h : b = c
    · simp [h]
    · simp only [if_neg h]
      rw [ih]

theorem partsL_len (l : List UInt8) (c : UInt8) : (partsL l c).length ≤ l.length + 1 := by
  induction l with
  | nil => simp [partsL]
  | cons b l ih =>
    unfold partsL
    split
    · simp; omega
    · split
      · simp
      · rename_i h; rw [h] at ih; simpa using Nat.le_succ_of_le ih

theorem cutL_lt {l : List UInt8} {c : UInt8} (h : (cutL l c).2.2 = true) : (cutL l c).2.1.length < l.length := by
  induction l with
  | nil => simp [cutL] at h
  | cons b l ih =>
    unfold cutL at h ⊢
    by_cases hb : b = c
    · simp [hb]
    · simp only [if_neg hb] at h ⊢
      have := ih h
      simp only [List.length_cons]; omega

theorem Tryz.info9 : (Tryz.prog.info? 9).map (fun i => (i.zero, i.size, i.bytes)) = some (some (.string ⟨#[]⟩), 1, 16) := by kernel_rfl

/-- What a loop over the parts carries. -/
def PartsRel (B : Nat) (w : World) (s : List UInt8) (c : UInt8) (v r m : Value) (wr : World) : Prop :=
  ∃ (ps : List (List UInt8)) (rest : List UInt8) (more : Bool), r = .string ⟨rest.toArray⟩ ∧ m = .bool more ∧ rest.length ≤ s.length ∧ ps.length + (if more then rest.length + 1 else 0) ≤ s.length + 1 ∧
    partsL s c = ps ++ (if more then partsL rest c else []) ∧ wr.ownsRow B 9 1 v ps.length (ps.map strV) ∧ Below B w wr

theorem PartsRel.start {B : Nat} {w wr : World} {s : ByteArray} {c : UInt8} {v : Value} (hv : wr.ownsRow B 9 1 v 0 []) (hb : Below B w wr) : PartsRel B w s.data.toList c v (.string s) (.bool true) wr :=
  ⟨[], s.data.toList, true, by rw [mk_toList], rfl, Nat.le_refl _, by simp, by simp, hv, hb⟩

theorem PartsRel.step {B : Nat} {w w' : World} {s rest : List UInt8} {c : UInt8} {ps : List (List UInt8)} {v' : Value}
    (__h1 : rest.length ≤ s.length) (h2 : ps.length + (rest.length + 1) ≤ s.length + 1) (h3 : partsL s c = ps ++ partsL rest c)
    (ho : w'.ownsRow B 9 1 v' (ps.length + 1) (ps.map strV ++ [strV (cutL rest c).1])) (hb : Below B w w') :
    PartsRel B w s c v' (.string ⟨(cutL rest c).2.1.toArray⟩) (.bool (cutL rest c).2.2) w' := by
  refine ⟨ps ++ [(cutL rest c).1], (cutL rest c).2.1, (cutL rest c).2.2, rfl, rfl, ?_, ?_, ?_, ?_, hb⟩
  · have := (cutL_len rest c).2; omega
  · rw [List.length_append]
    split
    · rename_i h; have := cutL_lt h; simp; omega
    · simp; omega
  · rw [h3, partsL_cut rest c, List.append_assoc]; rfl
  · simpa using ho

def moreOf : Value → Bool | .bool b => b | _ => false
def lenOfV : Value → Nat | .string s => s.size | _ => 0

set_option maxHeartbeats 800000 in
theorem impl_parts (s : ByteArray) (c : UInt8) (w : World) (hs : s.size ≤ 1048576) :
    Calls Tryz.prog 152 #[.string s, .int .u8 c.toNat] w fun e w' => ∃ v, e = .returned v ∧
      w'.ownsRow w.heap.size 9 1 v (partsL s.data.toList c).length ((partsL s.data.toList c).map strV) ∧ Below w.heap.size w w' := by
  obtain ⟨i0, hi, hz0, hz1, hz2⟩ := info_parts Tryz.info9
  go_enter Tryz.func152, Tryz.ntmps152
  go_wp2_with fail
  go_loopw [5, 6, 7] (fun v r m wr => PartsRel w.heap.size w s.data.toList c v r m wr) (fun _ r m _ => if moreOf m then lenOfV r + 1 else 0)
  case atStart => exact PartsRel.start (World.ownsRow_nil _ _ _ _) (Below.refl _ _)
  case round =>
    obtain ⟨ps, rest, more, rfl, rfl, hle, hcount, hparts, hown, hbel⟩ := hrel
    cases more
    · go_wp2
      go_ret
      refine ⟨_, rfl, ?_, hbel⟩
      have e : partsL s.data.toList c = ps := by simpa using hparts
      rw [e]; exact hown
    · have hr : (ByteArray.mk rest.toArray).size ≤ 1048576 := by rw [size_len] at hs ⊢; simp only; omega
      have hcl := cutL_len rest c
      simp only [if_true] at hcount hparts
      have hstep := fun v' w' ho hb => PartsRel.step (B := w.heap.size) (w := w) (w' := w') (v' := v') hle hcount hparts ho hb
      have HP := Lib.hid hparts; clear hparts
      generalize hq : cutL rest c = q at *
      have HQ := Lib.hid hq; clear hq
      obtain ⟨q1, q2, q3⟩ := q
      simp only at hcl hstep
      go_wp2_with fail
      refine (textcut _ _ _ (by unfold maxLen; omega)).mono ?_
      rintro e w1 ⟨rfl, n1, rfl⟩
      simp only
      rw [HQ.out]
      go_wp2_with fail
      refine (fresh _ _ (by rw [size_len] at hr hs ⊢; simp only at hr ⊢; omega)).mono ?_
      rintro e w2 ⟨rfl, hb2⟩
      have hown2 := own_below (own_drewN hown n1) hb2
      have hbel2 : Below w.heap.size w w2 := hbel.trans (below_drewN_left (hb2.mono hbel.size))
      have hps : ps.length ≤ 1048577 := by rw [size_len] at hs; omega
      go_wp2_with (at_builtin; go_must (refine wpList_append1 w2 rfl _ _ 64 rfl w.heap.size 9 i0 _ 16 Tryz.underlying64 hi hz0 hz1 hz2 rfl _ _ _ (by rfl) hown2 _ rfl _ (by rfl) (by unfold maxLen; omega) (by omega) hbel2.size ?_); intro v' w3 ho3 hb3 hlt3)
      go_roundw
      case rel => exact hstep _ _ ho3 (hbel2.trans hb3)
      case measure =>
        have : q3 = true → q2.length < rest.length := fun h => by
          have e := HQ.out; subst h
          have := cutL_lt (l := rest) (c := c) (by rw [e]); rw [e] at this; exact this
        simp only [moreOf, lenOfV, size_len, if_true]
        cases q3
        · simp
        · have := this rfl; simp; omega
set_option maxHeartbeats 800000 in
theorem spec_parts (s : ByteArray) (c : UInt8) (w : World) (hs : s.size ≤ 1048576) :
    Calls Tryz.prog 61 #[.string s, .int .u8 c.toNat] w fun e w' => ∃ v, e = .returned v ∧
      w'.ownsRow w.heap.size 9 1 v (partsL s.data.toList c).length ((partsL s.data.toList c).map strV) ∧ Below w.heap.size w w' := by
  obtain ⟨i0, hi, hz0, hz1, hz2⟩ := info_parts Tryz.info9
  go_enter Tryz.func61, Tryz.ntmps61
  go_wp2_with fail
  go_loopw [5, 6, 7] (fun v r m wr => PartsRel w.heap.size w s.data.toList c v r m wr) (fun _ r m _ => if moreOf m then lenOfV r + 1 else 0)
  case atStart => exact PartsRel.start (World.ownsRow_made _ #[] 0 (Nat.le_refl _) (by decide) rfl) ((Below.refl _ _).alloc (Nat.le_refl _) _)
  case round =>
    obtain ⟨ps, rest, more, rfl, rfl, hle, hcount, hparts, hown, hbel⟩ := hrel
    cases more
    · go_wp2
      go_ret
      refine ⟨_, rfl, ?_, hbel⟩
      have e : partsL s.data.toList c = ps := by simpa using hparts
      rw [e]; exact hown
    · have hr : (ByteArray.mk rest.toArray).size ≤ 1048576 := by rw [size_len] at hs ⊢; simp only; omega
      have hcl := cutL_len rest c
      simp only [if_true] at hcount hparts
      have hstep := fun v' w' ho hb => PartsRel.step (B := w.heap.size) (w := w) (w' := w') (v' := v') hle hcount hparts ho hb
      have HP := Lib.hid hparts; clear hparts
      generalize hq : cutL rest c = q at *
      have HQ := Lib.hid hq; clear hq
      obtain ⟨q1, q2, q3⟩ := q
      simp only at hcl hstep
      go_wp2_with fail
      refine (spec_cut _ _ _ (by unfold maxLen; omega)).mono ?_
      rintro e w1 ⟨rfl, n1, rfl⟩
      simp only
      rw [HQ.out]
      have hown2 := own_drewN hown n1
      have hbel2 : Below w.heap.size w (wr.drewN n1) := below_drewN hbel
      have hps : ps.length ≤ 1048577 := by rw [size_len] at hs; omega
      go_wp2_with (at_builtin; go_must (refine wpList_append1 (wr.drewN n1) rfl _ _ 64 rfl w.heap.size 9 i0 _ 16 Tryz.underlying64 hi hz0 hz1 hz2 rfl _ _ _ (by rfl) hown2 _ rfl _ (by rfl) (by unfold maxLen; omega) (by omega) hbel2.size ?_); intro v' w3 ho3 hb3 hlt3)
      go_roundw
      case rel => exact hstep _ _ ho3 (hbel2.trans hb3)
      case measure =>
        have : q3 = true → q2.length < rest.length := fun h => by
          have e := HQ.out; subst h
          have := cutL_lt (l := rest) (c := c) (by rw [e]); rw [e] at this; exact this
        simp only [moreOf, lenOfV, size_len, if_true]
        cases q3
        · simp
        · have := this rfl; simp; omega
end Go.Proofs.YtbhnjnoblkfckabGreatDoor

-- from XTok
/- Walks: names; the classes of bytes. -/
namespace Go.Proofs.YtbhnjnoblkfckabGreatDoor
open Go.RowKit

def clsTab : List Int := (List.range 123).map fun i => if (97 ≤ i ∧ i ≤ 122) ∨ (48 ≤ i ∧ i ≤ 57) ∨ i = 45 then 1 else if 65 ≤ i ∧ i ≤ 90 then 2 else 0
def isSmall (c : UInt8) : Bool := (97 ≤ c.toNat && c.toNat ≤ 122) || (48 ≤ c.toNat && c.toNat ≤ 57) || c.toNat == 45
def isGreat (c : UInt8) : Bool := 65 ≤ c.toNat && c.toNat ≤ 90
def clsOf (n : Nat) : Int := clsTab.getD n 0

def smalls (l : List UInt8) : Bool := l.all isSmall

theorem clsOf_eq (c : UInt8) : clsOf c.toNat = if isSmall c = true then 1 else if isGreat c = true then 2 else 0 := by
  have h : ∀ n : Fin 256, clsOf n.val = if ((97 ≤ n.val && n.val ≤ 122) || (48 ≤ n.val && n.val ≤ 57) || n.val == 45) = true then 1 else if (65 ≤ n.val && n.val ≤ 90) = true then 2 else 0 := by decide +kernel
  exact h ⟨c.toNat, c.toNat_lt⟩

/-- The table of classes lies in its variable. -/
def Cls (w : World) : Prop := 1 < w.heap.size ∧ ∀ i, i < 123 → w.cell? ⟨1, i, none⟩ = some (.int .u8 (clsOf i))
theorem Cls.below {w w' : World} (h : Cls w) {B : Nat} (hb : Below B w w') (hB : w.heap.size ≤ B) : Cls w' :=
  ⟨Nat.lt_of_lt_of_le h.1 hb.size, fun i hi => (hb.cell (p := ⟨1, i, none⟩) (Nat.lt_of_lt_of_le h.1 hB)).trans (h.2 i hi)⟩
theorem Cls.drewN {w : World} (h : Cls w) (n : Nat) : Cls (w.drewN n) := h

set_option maxRecDepth 100000 in
set_option maxHeartbeats 400000 in
theorem class_of (c : UInt8) (w : World) (h : Cls w) :
    Calls Tryz.prog 138 #[.int .u8 c.toNat] w fun e w' => e = .returned (.int .u8 (clsOf c.toNat)) ∧ w = w' := by
  have hc := c.toNat_lt
  by_cases hlt : c.toNat < 123
  · have hcell := h.2 _ hlt
    clear h
    generalize clsOf c.toNat = k at hcell ⊢
    go_enter Tryz.func138, Tryz.ntmps138
    go_wp2
    go_ret
    exact ⟨rfl, rfl⟩
  · have e : clsOf c.toNat = 0 := by
      unfold clsOf
      rw [List.getD_eq_getElem?_getD, List.getElem?_eq_none (by simp [clsTab]; omega)]; rfl
    rw [e]
    clear h e
    generalize c.toNat = n at hc hlt
    go_enter Tryz.func138, Tryz.ntmps138
    go_wp2
    go_ret
    exact ⟨rfl, rfl⟩

set_option maxHeartbeats 400000 in
theorem l1_small (c : UInt8) (w : World) :
    Calls Tryz.prog 76 #[.int .u8 c.toNat] w fun e w' => e = .returned (.bool (isSmall c)) ∧ w = w' := by
  have hc := c.toNat_lt
  unfold isSmall
  generalize c.toNat = n at hc
  have hr : n < 45 ∨ n = 45 ∨ (46 ≤ n ∧ n ≤ 47) ∨ (48 ≤ n ∧ n ≤ 57) ∨ (58 ≤ n ∧ n ≤ 96) ∨ (97 ≤ n ∧ n ≤ 122) ∨ 123 ≤ n := by omega
  rcases hr with hr | rfl | ⟨h1, h2⟩ | ⟨h1, h2⟩ | ⟨h1, h2⟩ | ⟨h1, h2⟩ | hr
  all_goals go_enter Tryz.func76, Tryz.ntmps76
  all_goals go_wp2
  all_goals go_ret
  all_goals (refine ⟨congrArg (fun b => Ending.returned (Value.bool b)) ?_, rfl⟩)
  all_goals (show (_ : Bool) = _)
  all_goals first | rfl | (rw [Bool.eq_iff_iff]; done) | (rw [Bool.eq_iff_iff]; simp; done) | (rw [Bool.eq_iff_iff]; simp; omega)

theorem all_take_succ {s : ByteArray} {k : Nat} {p : UInt8 → Bool} (hk : k < s.size) (h : (s.data.toList.take k).all p = true) (h2 : p s[k] = true) : (s.data.toList.take (k + 1)).all p = true := by
  rw [take_succ_at (at_get s k hk), List.all_append, h]; simp [h2]
theorem all_false_at {s : ByteArray} {k : Nat} {p : UInt8 → Bool} (hk : k < s.size) (h : p s[k] = false) : s.data.toList.all p = false := by
  cases ha : s.data.toList.all p
  · rfl
  · rw [List.all_eq_true] at ha
    have := ha s[k] (List.mem_of_getElem? (at_get s k hk))
    rw [h] at this; cases this
theorem all_of_take {s : ByteArray} {k : Nat} {p : UInt8 → Bool} (hk : s.size ≤ k) (h : (s.data.toList.take k).all p = true) : s.data.toList.all p = true := by
  rw [List.take_of_length_le (by rw [← size_len]; exact hk)] at h; exact h

set_option maxHeartbeats 400000 in
theorem only_token (s : ByteArray) (w : World) (hs : s.size ≤ maxLen) (h : Cls w) :
    Calls Tryz.prog 103 #[.string s, .int .u8 1] w fun e w' => e = .returned (.bool (smalls s.data.toList)) ∧ w = w' := by
  unfold maxLen at hs
  go_enter Tryz.func103, Tryz.ntmps103
  go_wp2_with fail
  go_loop [8] (fun i => ∃ k : Nat, k ≤ s.size ∧ i = .int .i64 k ∧ (s.data.toList.take k).all isSmall = true) (fun i => s.size - (intOf i).toNat)
  case atStart => exact ⟨0, Nat.zero_le _, rfl, by simp⟩
  case round =>
    obtain ⟨k, hk, rfl, hall⟩ := hrel
    by_cases hlt : k < s.size
    · go_wp2_with fail
      refine (class_of s[k] _ h).mono ?_
      rintro e w' ⟨rfl, rfl⟩
      go_wp2_with fail
      · have hne : (clsOf s[k].toNat != 1) = true := by assumption
        go_ret
        refine ⟨?_, rfl⟩
        have hf : smalls s.data.toList = false := all_false_at hlt (by
          rw [clsOf_eq] at hne
          cases hb : isSmall s[k]
          · rfl
          · rw [hb] at hne; simp at hne)
        rw [hf]; rfl
      · have he : (clsOf s[k].toNat != 1) = false := by assumption
        go_round
        case rel =>
          refine ⟨k + 1, by omega, by go_num, all_take_succ hlt hall ?_⟩
          rw [clsOf_eq] at he
          cases hb : isSmall s[k]
          · rw [hb] at he
            cases hg : isGreat s[k] <;> rw [hg] at he <;> simp at he
          · rfl
        case measure => simp [intOf]; omega
    · go_wp2
      go_ret
      have hf : smalls s.data.toList = true := all_of_take (by omega) hall
      rw [hf]; exact ⟨rfl, rfl⟩

def tokB (l : List UInt8) : Bool := decide (1 ≤ l.length) && decide (l.length ≤ 12) && smalls l

set_option maxHeartbeats 400000 in
theorem impl_tok (s : ByteArray) (w : World) (hs : s.size ≤ maxLen) (h : Cls w) :
    Calls Tryz.prog 52 #[.string s] w fun e w' => e = .returned (.bool (tokB s.data.toList)) ∧ w = w' := by
  unfold tokB
  rw [← size_len]
  by_cases h1 : 1 ≤ s.size
  · by_cases h2 : s.size ≤ 12
    · generalize hb : smalls s.data.toList = b
      have HB := Lib.hid hb; clear hb
      go_enter Tryz.func52, Tryz.ntmps52
      go_wp2_with fail
      refine (only_token _ _ hs h).mono ?_
      rintro e w' ⟨rfl, rfl⟩
      rw [HB.out]
      go_wp2
      go_ret
      exact ⟨by simp [h1, h2], rfl⟩
    · unfold maxLen at hs
      clear h
      go_enter Tryz.func52, Tryz.ntmps52
      go_wp2
      go_ret
      exact ⟨by simp, rfl⟩
  · unfold maxLen at hs
    clear h
    go_enter Tryz.func52, Tryz.ntmps52
    go_wp2
    go_ret
    exact ⟨by simp, rfl⟩

set_option maxHeartbeats 400000 in
theorem spec_tok (s : ByteArray) (w : World) (hs : s.size ≤ maxLen) :
    Calls Tryz.prog 30 #[.string s] w fun e w' => e = .returned (.bool (tokB s.data.toList)) ∧ w = w' := by
  unfold maxLen at hs
  by_cases h1 : 1 ≤ s.size ∧ s.size ≤ 12
  · obtain ⟨h1, h2⟩ := h1
    have hz : ((s.size : Int) == 0) = false := beq_eq_false_iff_ne.2 (by omega)
    have e : tokB s.data.toList = smalls s.data.toList := by unfold tokB; rw [← size_len]; simp [h1, h2]
    rw [e]
    clear e
    go_enter Tryz.func30, Tryz.ntmps30
    go_wp2_with fail
    go_loop [3] (fun i => ∃ k : Nat, k ≤ s.size ∧ i = .int .i64 k ∧ (s.data.toList.take k).all isSmall = true) (fun i => s.size - (intOf i).toNat)
    case atStart => exact ⟨0, Nat.zero_le _, rfl, by simp⟩
    case round =>
      obtain ⟨k, hk, rfl, hall⟩ := hrel
      by_cases hlt : k < s.size
      · go_wp2_with fail
        refine (l1_small s[k] _).mono ?_
        rintro e w' ⟨rfl, rfl⟩
        generalize hb : isSmall s[k] = b
        cases b
        · have hf : smalls s.data.toList = false := all_false_at hlt hb
          have HF := Lib.hid hf; clear hf hb
          go_wp2
          go_ret
          rw [HF.out]; exact ⟨rfl, rfl⟩
        · have hst := all_take_succ hlt hall hb
          clear hb
          go_wp2
          go_round
          case rel => exact ⟨k + 1, by omega, by go_num, hst⟩
          case measure => simp [intOf]; omega
      · go_wp2
        go_ret
        have hf : smalls s.data.toList = true := all_of_take (by omega) hall
        rw [hf]; exact ⟨rfl, rfl⟩
  · have e : tokB s.data.toList = false := by
      unfold tokB; rw [← size_len]
      by_cases h0 : 1 ≤ s.size
      · have : ¬ s.size ≤ 12 := fun h2 => h1 ⟨h0, h2⟩
        simp [this]
      · simp [h0]
    rw [e]
    clear e
    by_cases h0 : s.size = 0
    · have hz : ((s.size : Int) == 0) = true := by simp [h0]
      go_enter Tryz.func30, Tryz.ntmps30
      go_wp2
      go_ret
      exact ⟨rfl, rfl⟩
    · have hz : ((s.size : Int) == 0) = false := beq_eq_false_iff_ne.2 (by omega)
      have h2 : 12 < (s.size : Int) := by omega
      clear h1
      go_enter Tryz.func30, Tryz.ntmps30
      go_wp2
      go_ret
      exact ⟨rfl, rfl⟩
end Go.Proofs.YtbhnjnoblkfckabGreatDoor

-- from XLower
/- Walks: small letters. -/
namespace Go.Proofs.YtbhnjnoblkfckabGreatDoor
open Go.RowKit

def lowB (c : UInt8) : UInt8 := if isGreat c = true then c + 32 else c
def lowL (l : List UInt8) : List UInt8 := l.map lowB

/-- A row of bytes that a conversion made: the mark stands behind its end. -/
def BRow (w : World) (g cap : Nat) (l : List UInt8) : Prop :=
  ∃ cur, w.heap[g]? = some (.cells cur 5 (cur.size, cur.size + 1)) ∧ cur.size = cap ∧ l.length ≤ cap ∧ cur.toList.take l.length = l.map fun b => Value.int .u8 (b.toNat : Int)

theorem BRow.made (w : World) (s : ByteArray) : BRow (Lib.bytesWorld w 5 s) w.heap.size (grownCap w s.size 0 5) s.data.toList := by
  have hge := grownCap_ge w s.size 0 5
  refine ⟨_, Lib.bytesWorld_at_new w 5 s, ?_, ?_, ?_⟩
  · simp [Lib.bytesCells]
    have : s.data.size = s.size := rfl
    omega
  · rw [← size_len]; exact hge
  · simp [Lib.bytesCells]

theorem BRow.cell {w : World} {g cap : Nat} {l : List UInt8} (h : BRow w g cap l) {j : Nat} {b : UInt8} (hj : l[j]? = some b) : w.cell? ⟨g, j, none⟩ = some (.int .u8 (b.toNat : Int)) := by
  obtain ⟨cur, h1, h2, h3, h4⟩ := h
  rw [cell_of_row w g j cur 5 _ h1]
  have hjl : j < l.length := by
    rcases Nat.lt_or_ge j l.length with h | h
    · exact h
    · rw [List.getElem?_eq_none h] at hj; cases hj
  have := congrArg (·[j]?) h4
  simp only [List.getElem?_take, if_pos hjl, List.getElem?_map, hj, Option.map_some] at this
  simpa using this

theorem BRow.frozen {w : World} {g cap : Nat} {l : List UInt8} (h : BRow w g cap l) {j : Nat} (hj : j < l.length) : w.frozen? ⟨g, j, none⟩ = false := by
  obtain ⟨cur, h1, h2, h3, h4⟩ := h
  simp [World.frozen?, h1]
  omega

theorem BRow.lt {w : World} {g cap : Nat} {l : List UInt8} (h : BRow w g cap l) : g < w.heap.size := by
  obtain ⟨cur, h1, _⟩ := h
  rcases Nat.lt_or_ge g w.heap.size with hlt | hge
  · exact hlt
  · rw [Array.getElem?_eq_none hge] at h1; cases h1

theorem BRow.set {w : World} {g cap : Nat} {l : List UInt8} (h : BRow w g cap l) {j : Nat} (b : UInt8) (__hj : j < l.length) : BRow (w.setCell ⟨g, j, none⟩ (.int .u8 (b.toNat : Int))) g cap (l.set j b) := by
  obtain ⟨cur, h1, h2, h3, h4⟩ := h
  refine ⟨cur.setIfInBounds j (.int .u8 (b.toNat : Int)), ?_, by simpa using h2, by simpa using h3, ?_⟩
  · have : (w.setCell ⟨g, j, none⟩ (.int .u8 (b.toNat : Int))).heap[g]? = some (.cells (cur.setIfInBounds j (.int .u8 (b.toNat : Int))) 5 (cur.size, cur.size + 1)) := by
      simp [World.setCell, Array.getElem?_modify, h1]
    rw [this]; simp
  · rw [Array.toList_setIfInBounds, List.length_set, List.take_set, h4, List.map_set]

theorem BRow.keep {w w' : World} {g cap : Nat} {l : List UInt8} (h : BRow w g cap l) (hk : w'.heap[g]? = w.heap[g]?) : BRow w' g cap l := by
  obtain ⟨cur, h1, h2⟩ := h
  exact ⟨cur, hk.trans h1, h2⟩

theorem low_set (l : List UInt8) (k : Nat) (b : UInt8) (h : l[k]? = some b) : ((lowL (l.take k)) ++ l.drop k).set k (lowB b) = lowL (l.take (k + 1)) ++ l.drop (k + 1) := by
  have hk : k < l.length := by
    rcases Nat.lt_or_ge k l.length with h' | h'
    · exact h'
    · rw [List.getElem?_eq_none h'] at h; cases h
  have hl : (lowL (l.take k)).length = k := by simp [lowL]; omega
  rw [List.set_append_right _ _ (by omega), hl, Nat.sub_self, take_succ_at h]
  have hd : (l.drop k).set 0 (lowB b) = lowB b :: l.drop (k + 1) := by rw [List.drop_eq_getElem_cons hk]; rfl
  rw [hd]
  simp [lowL]
theorem low_same (l : List UInt8) (k : Nat) (b : UInt8) (h : l[k]? = some b) (hb : lowB b = b) : lowL (l.take k) ++ l.drop k = lowL (l.take (k + 1)) ++ l.drop (k + 1) := by
  rw [← low_set l k b h, hb]
  have hk : k < l.length := by
    rcases Nat.lt_or_ge k l.length with h' | h'
    · exact h'
    · rw [List.getElem?_eq_none h'] at h; cases h
  have hl : (lowL (l.take k)).length = k := by simp [lowL]; omega
  rw [List.set_append_right _ _ (by omega), hl, Nat.sub_self, List.drop_eq_getElem_cons hk]
  have : l[k] = b := by rw [List.getElem?_eq_getElem hk] at h; exact Option.some.inj h
  simp [this]
theorem low_at (l : List UInt8) (k : Nat) (b : UInt8) (h : l[k]? = some b) : (lowL (l.take k) ++ l.drop k)[k]? = some b := by
  have hk : k < l.length := by
    rcases Nat.lt_or_ge k l.length with h' | h'
    · exact h'
    · rw [List.getElem?_eq_none h'] at h; cases h
  have hl : (lowL (l.take k)).length = k := by simp [lowL]; omega
  rw [List.getElem?_append_right (by omega), hl, Nat.sub_self, List.getElem?_drop]
  simpa using h

set_option maxHeartbeats 800000 in
theorem impl_lower0 (s : ByteArray) (w : World) (hs : s.size ≤ maxLen) (h : Cls w) :
    Calls Tryz.prog 190 #[.string s] w fun e w' => e = .returned (strV (lowL s.data.toList)) ∧ Below w.heap.size w w' := by
  have hbw := Lib.bytesWorld_below w 5 s
  have hrow := BRow.made w s
  have hcap := grownCap_le_maxLen w s.size 0 5 hs
  have hge := grownCap_ge w s.size 0 5
  have hcv := Lib.run_convert_string_bytes (P := Tryz.prog) w 76 37 5 s Tryz.underlying76 Tryz.underlying37 Tryz.underlying5
  generalize grownCap w s.size 0 5 = cap at hrow hcap hge hcv
  generalize Lib.bytesWorld w 5 s = w1 at hbw hrow hcv
  unfold maxLen at hs hcap
  have HCL := Lib.hid h
  have HROW := Lib.hid hrow; clear hrow
  clear h
  go_enter Tryz.func190, Tryz.ntmps190
  go_wp2_with fail
  go_loopw [10] (fun i wr => ∃ k : Nat, k ≤ s.size ∧ i = .int .i64 k ∧ BRow wr w.heap.size cap (lowL (s.data.toList.take k) ++ s.data.toList.drop k) ∧ Below w.heap.size w wr) (fun i _ => s.size - (intOf i).toNat)
  case atStart => exact ⟨0, Nat.zero_le _, rfl, by simpa [lowL] using HROW.out, hbw⟩
  case round =>
    obtain ⟨k, hk, rfl, hr, hb⟩ := hrel
    by_cases hlt : k < s.size
    · have hget := at_get s k hlt
      have hcell := hr.cell (low_at _ k _ hget)
      have hfr := hr.frozen (j := k) (by simp [lowL]; omega)
      have hset := hr.set (j := k) (lowB s[k]) (by simp [lowL]; omega)
      rw [low_set _ k _ hget] at hset
      have hsame := low_same s.data.toList k s[k] hget
      have hlow : lowB s[k] = if isGreat s[k] = true then s[k] + 32 else s[k] := rfl
      have hcls := clsOf_eq s[k]
      have hclr := HCL.out.below hb (Nat.le_refl _)
      generalize hc : s[k] = c at *
      have hc8 := c.toNat_lt
      have HC := Lib.hid hc; have HSET := Lib.hid hset; have HSAME := Lib.hid hsame; have HLOW := Lib.hid hlow; have HCLS := Lib.hid hcls; have HGET := Lib.hid hget
      clear hc hset hsame hlow hcls hget
      go_wp2_with fail
      refine (class_of c _ hclr).mono ?_
      rintro e w' ⟨rfl, rfl⟩
      by_cases hg : isGreat c = true
      · have e2 : clsOf c.toNat = 2 := by
          rw [HCLS.out, if_pos hg, if_neg]
          unfold isGreat at hg; unfold isSmall; simp at hg ⊢; omega
        rw [e2]
        have hr1 : 65 ≤ c.toNat ∧ c.toNat ≤ 90 := by unfold isGreat at hg; simpa using hg
        obtain ⟨hg1, hg2⟩ := hr1
        clear e2
        have hval : (c.toNat : Int) - 65 + 97 = ((lowB c).toNat : Int) := by
          rw [HLOW.out, if_pos hg, UInt8.toNat_add]
          have : (32 : UInt8).toNat = 32 := rfl
          rw [this]; omega
        have HV := Lib.hid hval; clear hval
        go_wp2_with fail
        go_roundw
        case rel =>
          refine ⟨k + 1, by omega, by go_num, ?_, ?_⟩
          · rw [HV.out]; exact HSET.out
          · exact hb.setCell (Nat.le_refl _) _
        case measure => simp [intOf]; omega
      · have e2 : ((clsOf c.toNat : Int) == 2) = false := by
          rw [HCLS.out]
          split
          · rfl
          · rfl
        have hlc := HSAME.out (by rw [HLOW.out, if_neg hg])
        rw [hlc] at hr
        clear hlc
        have HR := Lib.hid hr; clear hr
        go_wp2_with fail
        go_roundw
        case rel => exact ⟨k + 1, by omega, by go_num, HR.out, hb⟩
        case measure => simp [intOf]; omega
    · have hks : s.data.toList.length ≤ k := by rw [← size_len]; omega
      rw [List.take_of_length_le hks, List.drop_of_length_le hks, List.append_nil] at hr
      have hll : (lowL s.data.toList).length = s.size := by rw [size_len]; simp [lowL]
      have hcv2 := run_convert_bytes_back (P := Tryz.prog) wr 37 76 5 ⟨w.heap.size, 0, none⟩ cap (lowL s.data.toList) Tryz.underlying37 Tryz.underlying5 Tryz.underlying76 (fun j hj => by
        have := hr.cell (List.getElem?_eq_getElem hj)
        have ea : (⟨w.heap.size, 0, none⟩ : Addr).add j = ⟨w.heap.size, j, none⟩ := by unfold Addr.add; split <;> simp_all
        rw [ea]; exact this)
      rw [hll] at hcv2
      clear hll hr
      go_wp2_with fail
      go_ret
      exact ⟨rfl, hb⟩

set_option maxHeartbeats 400000 in
theorem impl_lower (s : ByteArray) (w : World) (hs : s.size ≤ maxLen) (h : Cls w) :
    Calls Tryz.prog 157 #[.string s] w fun e w' => e = .returned (strV (lowL s.data.toList)) ∧ Below w.heap.size w w' := by
  go_enter Tryz.func157, Tryz.ntmps157
  go_wp2_with fail
  refine (impl_lower0 _ _ hs h).mono ?_
  rintro e w1 ⟨rfl, hb⟩
  go_wp2
  go_ret
  exact ⟨rfl, hb⟩

theorem lowL_snoc {s : ByteArray} {k : Nat} (hk : k < s.size) : lowL (s.data.toList.take (k + 1)) = lowL (s.data.toList.take k) ++ [lowB s[k]] := by
  rw [take_succ_at (at_get s k hk)]; simp [lowL]
theorem ext_one (s : ByteArray) (k : Nat) (hk : k < s.size) : s.extract k (k + 1) = ⟨#[s[k]]⟩ := by
  apply ByteArray.ext
  apply Array.toList_inj.mp
  rw [ByteArray.data_extract, Array.toList_extract, List.extract_eq_take_drop]
  have := at_get s k hk
  rw [show k + 1 - k = 1 from by omega, List.take_one, List.head?_drop, this]; rfl

set_option maxHeartbeats 800000 in
theorem spec_lower (s : ByteArray) (w : World) (hs : s.size ≤ 1048576) :
    Calls Tryz.prog 131 #[.string s] w fun e w' => e = .returned (strV (lowL s.data.toList)) ∧ Below w.heap.size w w' := by
  go_enter Tryz.func131, Tryz.ntmps131
  go_wp2_with fail
  go_loopw [3, 4] (fun out i wr => ∃ k : Nat, k ≤ s.size ∧ i = .int .i64 k ∧ out = .string ⟨(lowL (s.data.toList.take k)).toArray⟩ ∧ Below w.heap.size w wr) (fun _ i _ => s.size - (intOf i).toNat)
  case atStart => exact ⟨0, Nat.zero_le _, rfl, by simp [lowL], Below.refl _ _⟩
  case round =>
    obtain ⟨k, hk, rfl, rfl, hb⟩ := hrel
    have hsz : (lowL (s.data.toList.take k)).length ≤ 1048576 := by simp [lowL]; omega
    by_cases hlt : k < s.size
    · have hsn := lowL_snoc hlt
      have hext := ext_one s k hlt
      generalize lowL (s.data.toList.take k) = acc at *
      have hlow : lowB s[k] = if isGreat s[k] = true then s[k] + 32 else s[k] := rfl
      have hgr : isGreat s[k] = (decide (65 ≤ s[k].toNat) && decide (s[k].toNat ≤ 90)) := rfl
      have hc8 := s[k].toNat_lt
      have HSN := Lib.hid hsn; have HEX := Lib.hid hext; have HL := Lib.hid hlow; have HG := Lib.hid hgr
      clear hsn hext hlow hgr
      by_cases hg : 65 ≤ s[k].toNat ∧ s[k].toNat ≤ 90
      · obtain ⟨h1, h2⟩ := hg
        have hcv := fun W => run_conv1 (P := Tryz.prog) 37 9 5 5 Tryz.underlying37 Tryz.underlying5 Tryz.underlying9 W ((s[k].toNat : Int) + 32) (by omega) (by omega)
        have hx : UInt8.ofNat ((s[k].toNat : Int) + 32).toNat = lowB s[k] := by
          rw [HL.out, HG.out]
          simp only [h1, h2, decide_true, Bool.and_self, if_true]
          apply UInt8.toNat_inj.mp
          rw [UInt8.toNat_add]
          simp
          omega
        rw [hx] at hcv
        clear hx
        go_wp2_with fail
        go_roundw
        case rel =>
          refine ⟨k + 1, by omega, by go_num, ?_, hb.alloc hb.size _⟩
          rw [HSN.out]
          exact congrArg Value.string (cat_mk acc [lowB s[k]])
        case measure => simp [intOf]; omega
      · have hx : lowB s[k] = s[k] := by
          rw [HL.out, HG.out, if_neg]
          intro h; apply hg; simpa using h
        have HX := Lib.hid hx; clear hx
        have hg2 : s[k].toNat < 65 ∨ (65 ≤ s[k].toNat ∧ 90 < s[k].toNat) := by omega
        have hes : (s.extract k (k + 1)).size ≤ 1 := by rw [ByteArray.size_extract]; omega
        rcases hg2 with hg2 | ⟨hg2, hg3⟩
        all_goals
          go_wp2_with fail
          go_roundw
          case rel =>
            refine ⟨k + 1, by omega, by go_num, ?_, hb⟩
            rw [HSN.out, HX.out, HEX.out]
            exact congrArg Value.string (cat_mk acc [s[k]])
          case measure => simp [intOf]; omega
    · go_wp2_with fail
      go_ret
      have hks : s.data.toList.length ≤ k := by rw [← size_len]; omega
      refine ⟨?_, hb⟩
      rw [List.take_of_length_le hks]; rfl
end Go.Proofs.YtbhnjnoblkfckabGreatDoor

-- from XHstP
/- Pure laws on hosts. -/
namespace Go.Proofs.YtbhnjnoblkfckabGreatDoor

/-- Without one ':80' at the end, if something stands ahead of it. -/
def stripL (l : List UInt8) : List UInt8 := if 3 < l.length ∧ l.drop (l.length - 3) = [58, 56, 48] then l.take (l.length - 3) else l
def hostB (l : List UInt8) : Bool := decide (l.length ≤ 20) && (partsL l 46).all tokB
def hostC (l : List UInt8) : List UInt8 := stripL (lowL l)
def hostR (l : List UInt8) : ByteArray × Bool := if hostB (hostC l) = true then (⟨(hostC l).toArray⟩, true) else (⟨#[]⟩, false)

theorem hsmall_lt (c : UInt8) (h : isSmall c = true) : c ≠ 58 ∧ c ≠ 32 ∧ c ≠ 10 ∧ c ≠ 47 ∧ c ≠ 46 ∧ isGreat c = false := by
  have hh : ∀ n : Fin 256, isSmall (UInt8.ofNat n.val) = true → UInt8.ofNat n.val ≠ 58 ∧ UInt8.ofNat n.val ≠ 32 ∧ UInt8.ofNat n.val ≠ 10 ∧ UInt8.ofNat n.val ≠ 47 ∧ UInt8.ofNat n.val ≠ 46 ∧ isGreat (UInt8.ofNat n.val) = false := by decide +kernel
  have e : UInt8.ofNat c.toNat = c := by simp
  have := hh ⟨c.toNat, c.toNat_lt⟩
  simp only [e] at this
  exact this h

/-- Each byte of a text is the sign between its parts, or in a part. -/
theorem parts_mem {c : UInt8} : ∀ {l : List UInt8} {b : UInt8}, b ∈ l → b = c ∨ ∃ p ∈ partsL l c, b ∈ p := by
  intro l
  induction l with
  | nil => intro b h; cases h
  | cons x l ih =>
    intro b h
    have e1 : partsL (x :: l) c = if x = c then [] :: partsL l c else match partsL l c with
      | [] => [[x]]
      | p :: ps => (x :: p) :: ps := rfl
    by_cases hx : x = c
    · rw [e1, if_pos hx]
      rcases List.mem_cons.1 h with rfl | h
      · exact .inl hx
      · rcases ih h with h | ⟨p, hp, hb⟩
        · exact .inl h
        · exact .inr ⟨p, List.mem_cons_of_mem _ hp, hb⟩
    · rw [e1, if_neg hx]
      have hne := partsL_ne l c
      cases hp : partsL l c with
      | nil => exact absurd hp hne
      | cons q qs =>
        dsimp only
        rcases List.mem_cons.1 h with rfl | h
        · exact .inr ⟨b :: q, List.mem_cons_self .., List.mem_cons_self ..⟩
        · rcases ih h with h | ⟨p, hpm, hb⟩
          · exact .inl h
          · rw [hp] at hpm
            rcases List.mem_cons.1 hpm with rfl | hpm
            · exact .inr ⟨x :: p, List.mem_cons_self .., List.mem_cons_of_mem _ hb⟩
            · exact .inr ⟨p, List.mem_cons_of_mem _ hpm, hb⟩

theorem host_bytes {l : List UInt8} (h : hostB l = true) {b : UInt8} (hb : b ∈ l) : b = 46 ∨ isSmall b = true := by
  unfold hostB at h
  rw [Bool.and_eq_true] at h
  rcases parts_mem (c := 46) hb with e | ⟨p, hp, hbp⟩
  · exact .inl e
  · have := List.all_eq_true.1 h.2 p hp
    simp only [tokB, Bool.and_eq_true] at this
    have hs := this.2
    unfold smalls at hs
    exact .inr (List.all_eq_true.1 hs b hbp)
theorem host_len {l : List UInt8} (h : hostB l = true) : 1 ≤ l.length ∧ l.length ≤ 20 := by
  unfold hostB at h
  rw [Bool.and_eq_true, decide_eq_true_eq] at h
  refine ⟨?_, h.1⟩
  cases l with
  | nil => exact absurd h.2 (by decide)
  | cons => simp
theorem host_not {l : List UInt8} (h : hostB l = true) : (58 : UInt8) ∉ l ∧ (32 : UInt8) ∉ l ∧ (10 : UInt8) ∉ l ∧ (47 : UInt8) ∉ l := by
  refine ⟨fun hb => ?_, fun hb => ?_, fun hb => ?_, fun hb => ?_⟩
  all_goals
    rcases host_bytes h hb with e | hs
    · exact absurd e (by decide)
    · exact absurd hs (by decide)
theorem host_low {l : List UInt8} (h : hostB l = true) : lowL l = l := by
  unfold lowL
  conv => rhs; rw [← List.map_id l]
  refine List.map_congr_left fun c hc => ?_
  unfold lowB
  rcases host_bytes h hc with rfl | hs
  · rfl
  · rw [if_neg (by rw [(hsmall_lt c hs).2.2.2.2.2]; decide)]; rfl
theorem strip_id {l : List UInt8} (h : (58 : UInt8) ∉ l) : stripL l = l := by
  unfold stripL
  rw [if_neg]
  rintro ⟨_, h2⟩
  exact h (List.mem_of_mem_drop (by rw [h2]; exact List.mem_cons_self ..))
theorem host_id {l : List UInt8} (h : hostB l = true) : hostC l = l := by
  unfold hostC
  rw [host_low h, strip_id (host_not h).1]
theorem host_again {l : List UInt8} (h : hostB l = true) : hostR l = (⟨l.toArray⟩, true) := by
  unfold hostR
  rw [host_id h, if_pos h]
theorem host_port {l : List UInt8} (h : hostB l = true) : hostR (l ++ [58, 56, 48]) = (⟨l.toArray⟩, true) := by
  have hl := host_len h
  have e1 : lowL (l ++ [58, 56, 48]) = l ++ [58, 56, 48] := by
    have : lowL (l ++ [58, 56, 48]) = lowL l ++ lowL [58, 56, 48] := by simp [lowL]
    rw [this, host_low h]; rfl
  have e2 : hostC (l ++ [58, 56, 48]) = l := by
    unfold hostC stripL
    rw [e1]
    have hn : (l ++ [58, 56, 48]).length - 3 = l.length := by simp
    rw [hn, if_pos ⟨by simp; omega, by rw [List.drop_left]⟩, List.take_left]
  unfold hostR
  rw [e2, if_pos h]
theorem hostR_yes {l : List UInt8} {x : ByteArray} (h : hostR l = (x, true)) : hostB x.data.toList = true ∧ hostC l = x.data.toList := by
  unfold hostR at h
  by_cases hb : hostB (hostC l) = true
  · rw [if_pos hb] at h
    injection h with h1 _
    rw [← h1]; exact ⟨hb, rfl⟩
  · rw [if_neg hb] at h
    injection h with _ h2
    cases h2
theorem hostR_no {l : List UInt8} {x : ByteArray} (h : hostR l = (x, false)) : x = ⟨#[]⟩ ∧ hostB (hostC l) = false := by
  unfold hostR at h
  by_cases hb : hostB (hostC l) = true
  · rw [if_pos hb] at h
    injection h with _ h2
    cases h2
  · rw [if_neg hb] at h
    injection h with h1 _
    exact ⟨h1.symm, by simpa using hb⟩
end Go.Proofs.YtbhnjnoblkfckabGreatDoor

