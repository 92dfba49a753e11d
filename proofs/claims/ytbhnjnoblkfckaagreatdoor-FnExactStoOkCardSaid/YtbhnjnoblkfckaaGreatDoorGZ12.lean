import Derived.Test.YtbhnjnoblkfckaaGreatDoorGZ09
import Derived.Test.YtbhnjnoblkfckaaGreatDoorGZ05
import Derived.Test.YtbhnjnoblkfckaaGreatDoorRows
import Derived.Maps.OwnSet
import Derived.Maps.OwnIn
import Derived.WideKeyEntry
import Derived.DeepKeys4
import Derived.Maps.Range
import Derived.LaidEqlPtr
import Derived.Test.YtbhnjnoblkfckaaGreatDoorGZ10
import Derived.RegionTactic
import Derived.ChangeAlike
-- from XStP
/- Storage: what is kept, and what is done with it, as lists; no function of the program. -/
namespace Go.Proofs.YtbhnjnoblkfckaaGreatDoor
open Go.RowKit

/-- What is kept: for which place and codings, what, and when it was got. -/
structure En where
  place : ByteArray
  mask : Int
  rsp : Rp
  tm : Int
def noEn : En := ⟨⟨#[]⟩, 0, noRp, 0⟩
def enL (e : En) : List Value := [.string e.place, .int .i64 e.mask, .int .i64 e.rsp.code, .int .i64 e.rsp.mx, .bool e.rsp.hide, .string e.rsp.tag, .int .i64 e.rsp.cod, .string e.rsp.body, .int .i64 e.tm]
def enV (e : En) : Value := .agg #[.string e.place, .int .i64 e.mask, .int .i64 e.rsp.code, .int .i64 e.rsp.mx, .bool e.rsp.hide, .string e.rsp.tag, .int .i64 e.rsp.cod, .string e.rsp.body, .int .i64 e.tm]
def keV (e : En) : Value := .agg #[.string e.place, .int .i64 e.mask]
/-- For such a place and codings. -/
def isK (p : ByteArray) (m : Int) (e : En) : Bool := decide (e.place = p) && decide (e.mask = m)
def sizeE (e : En) : Nat := e.place.size + e.rsp.tag.size + e.rsp.body.size
def bytesE (L : List En) : Nat := (L.map sizeE).sum
def findE (L : List En) (p : ByteArray) (m : Int) : Option Nat := L.findIdx? (isK p m)
def outE (L : List En) (p : ByteArray) (m : Int) : List En := L.eraseP (isK p m)
def useE (L : List En) (i : Int) : List En := if 0 ≤ i then (match L[i.toNat]? with | some e => e :: L.eraseIdx i.toNat | none => L) else L
def goneB (path : List UInt8) (under : Bool) (e : En) : Bool := decide (pathL e.place.data.toList = path) || (under && underB path e.place.data.toList)
def dropE (L : List En) (path : List UInt8) (under : Bool) : List En := L.filter fun e => !goneB path under e
def goneN (L : List En) (path : List UInt8) (under : Bool) : Nat := L.countP (goneB path under)

/-- No text of it is longer than that, and its codings are a number of an int's kind. -/
structure EnOk (N : Nat) (e : En) : Prop where
  place : e.place.size ≤ N
  tag : e.rsp.tag.size ≤ N
  body : e.rsp.body.size ≤ N
  wf : (Lit.int .i64 e.mask).wf = true
def EnsOk (N : Nat) (L : List En) : Prop := ∀ e ∈ L, EnOk N e

theorem isK_iff {p : ByteArray} {m : Int} {e : En} : isK p m e = true ↔ e.place = p ∧ e.mask = m := by simp [isK]
theorem isK_self (e : En) : isK e.place e.mask e = true := isK_iff.2 ⟨rfl, rfl⟩
theorem isK_comm (a b : En) : isK a.place a.mask b = isK b.place b.mask a := by
  rw [Bool.eq_iff_iff, isK_iff, isK_iff]
  exact ⟨fun ⟨x, y⟩ => ⟨x.symm, y.symm⟩, fun ⟨x, y⟩ => ⟨x.symm, y.symm⟩⟩
theorem isK_trans {a b : En} (h : isK a.place a.mask b = true) : ∀ c, isK a.place a.mask c = isK b.place b.mask c := fun c => by
  obtain ⟨h1, h2⟩ := isK_iff.1 h
  rw [h1, h2]
theorem bytesE_cons (e : En) (L : List En) : bytesE (e :: L) = sizeE e + bytesE L := by simp [bytesE]
theorem bytesE_append (L M : List En) : bytesE (L ++ M) = bytesE L + bytesE M := by simp [bytesE]

/-! ### links, as they lead to each other -/
/-- The first link for such a place and codings. -/
def firstK (p : ByteArray) (m : Int) (L : List (Nat × En)) : Option Nat := (L.find? fun x => isK p m x.2).map (·.1)
def hdB (L : List (Nat × En)) : Option Nat := L.head?.map (·.1)
def endB (p : Option Nat) : List (Nat × En) → Option Nat
  | [] => p
  | x :: r => endB (some x.1) r
/-- The last link for such a place and codings. -/
def endK (p : ByteArray) (m : Int) : List (Nat × En) → Option Nat
  | [] => none
  | x :: r => match endK p m r with | some b => some b | none => if isK p m x.2 = true then some x.1 else none
def Lk (ah nx tw : Nat → Option Nat) : Option Nat → List (Nat × En) → Prop
  | _, [] => True
  | p, (b, e) :: r => ah b = p ∧ nx b = hdB r ∧ tw b = firstK e.place e.mask r ∧ Lk ah nx tw (some b) r

theorem Lk.congr {ah nx tw ah' nx' tw' : Nat → Option Nat} : ∀ {L : List (Nat × En)} {p : Option Nat}, Lk ah nx tw p L → (∀ x ∈ L.map (·.1), ah' x = ah x ∧ nx' x = nx x ∧ tw' x = tw x) → Lk ah' nx' tw' p L
  | [], _, _, _ => trivial
  | (b, e) :: r, p, h, hc => by
    obtain ⟨h1, h2, h3, h4⟩ := h
    obtain ⟨c1, c2, c3⟩ := hc b (by simp)
    exact ⟨c1.trans h1, c2.trans h2, c3.trans h3, Lk.congr h4 fun x hx => hc x (by simp at hx ⊢; exact .inr hx)⟩

theorem firstK_append (p : ByteArray) (m : Int) (A B : List (Nat × En)) : firstK p m (A ++ B) = (firstK p m A).or (firstK p m B) := by
  unfold firstK
  rw [List.find?_append]
  cases A.find? fun x => isK p m x.2 <;> simp
theorem firstK_cons (p : ByteArray) (m : Int) (x : Nat × En) (B : List (Nat × En)) : firstK p m (x :: B) = if isK p m x.2 = true then some x.1 else firstK p m B := by
  unfold firstK
  rw [List.find?_cons]
  cases isK p m x.2 <;> simp
theorem firstK_none {p : ByteArray} {m : Int} {L : List (Nat × En)} : firstK p m L = none ↔ ∀ x ∈ L, isK p m x.2 = false := by
  simp [firstK]
theorem endK_cons (p : ByteArray) (m : Int) (x : Nat × En) (r : List (Nat × En)) : endK p m (x :: r) = match endK p m r with | some b => some b | none => if isK p m x.2 = true then some x.1 else none := rfl
theorem endK_none {p : ByteArray} {m : Int} : ∀ {L : List (Nat × En)}, endK p m L = none ↔ ∀ x ∈ L, isK p m x.2 = false
  | [] => by simp [endK]
  | x :: r => by
    have ih := endK_none (p := p) (m := m) (L := r)
    unfold endK
    cases h : endK p m r with
    | some b =>
      simp only [reduceCtorEq, false_iff]
      intro hc
      have := ih.2 fun y hy => hc y (List.mem_cons_of_mem _ hy)
      rw [h] at this; cases this
    | none =>
      have h0 := ih.1 h
      cases hx : isK p m x.2 with
      | true =>
        simp only [if_true, reduceCtorEq, false_iff]
        intro hc
        have := hc x (List.mem_cons_self ..)
        rw [hx] at this; cases this
      | false =>
        simp only [Bool.false_eq_true, if_false, true_iff]
        intro y hy
        rcases List.mem_cons.1 hy with rfl | hy
        · exact hx
        · exact h0 y hy
theorem endK_mem {p : ByteArray} {m : Int} : ∀ {L : List (Nat × En)} {b : Nat}, endK p m L = some b → b ∈ L.map (·.1)
  | [], _, h => by cases h
  | x :: r, b, h => by
    unfold endK at h
    cases hr : endK p m r with
    | some c =>
      rw [hr] at h
      cases h
      simp only [List.map_cons, List.mem_cons]
      exact .inr (endK_mem hr)
    | none =>
      rw [hr] at h
      simp only at h
      split at h
      · cases h; simp
      · cases h
theorem endB_mem : ∀ {L : List (Nat × En)} {b : Nat}, endB none L = some b → b ∈ L.map (·.1)
  | [], _, h => by cases h
  | [x], b, h => by simp [endB] at h; simp [h]
  | x :: y :: r, b, h => by
    have : b ∈ (y :: r).map (·.1) := endB_mem (L := y :: r) h
    simp only [List.map_cons, List.mem_cons] at this ⊢
    exact .inr this
theorem endB_cons (p : Option Nat) (x : Nat × En) (r : List (Nat × En)) : endB p (x :: r) = (endB none (x :: r)) := rfl
theorem hdB_mem {L : List (Nat × En)} {b : Nat} (h : hdB L = some b) : b ∈ L.map (·.1) := by
  cases L with
  | nil => cases h
  | cons x r => simp [hdB] at h; simp [h]

/-- What is left behind a link's going. -/
theorem lk_remove {ah nx tw ah' nx' tw' : Nat → Option Nat} {b : Nat} {e : En} {B : List (Nat × En)} : ∀ {A : List (Nat × En)} {p : Option Nat}, ((A ++ (b, e) :: B).map (·.1)).Nodup → Lk ah nx tw p (A ++ (b, e) :: B) →
    (∀ x ∈ A.map (·.1), ah' x = ah x) → (∀ x ∈ B.map (·.1), ah' x = if hdB B = some x then endB p A else ah x) →
    (∀ x ∈ A.map (·.1), nx' x = if endB none A = some x then hdB B else nx x) → (∀ x ∈ B.map (·.1), nx' x = nx x) →
    (∀ x ∈ A.map (·.1), tw' x = if endK e.place e.mask A = some x then tw b else tw x) → (∀ x ∈ B.map (·.1), tw' x = tw x) → Lk ah' nx' tw' p (A ++ B)
  | [], p, hn, h, _, h1, _, h2, _, h3 => by
    obtain ⟨_, _, _, h4⟩ := h
    cases B with
    | nil => trivial
    | cons y r =>
      obtain ⟨c, f⟩ := y
      obtain ⟨k1, k2, k3, k4⟩ := h4
      simp only [List.nil_append, List.map_cons, List.nodup_cons, List.mem_cons, not_or] at hn
      have m0 : c ∈ ((c, f) :: r).map (·.1) := by simp
      refine ⟨?_, (h2 c m0).trans k2, (h3 c m0).trans k3, k4.congr fun x hx => ?_⟩
      · rw [h1 c m0, if_pos (by simp [hdB])]; rfl
      · have mx : x ∈ ((c, f) :: r).map (·.1) := by simp at hx ⊢; exact .inr hx
        refine ⟨?_, h2 x mx, h3 x mx⟩
        rw [h1 x mx, if_neg]
        intro e'
        have : c = x := by simpa [hdB] using e'
        subst this
        exact hn.2.1 hx
  | (a, f) :: A, p, hn, h, g1, h1, g2, h2, g3, h3 => by
    obtain ⟨k1, k2, k3, k4⟩ := h
    replace k2 : nx a = hdB (A ++ (b, e) :: B) := k2
    replace k3 : tw a = firstK f.place f.mask (A ++ (b, e) :: B) := k3
    replace k4 : Lk ah nx tw (some a) (A ++ (b, e) :: B) := k4
    simp only [List.cons_append, List.map_cons, List.nodup_cons] at hn
    obtain ⟨hna, hn⟩ := hn
    have ma : a ∈ ((a, f) :: A).map (·.1) := by simp
    have haA : a ∉ A.map (·.1) := fun hx => hna (by rw [List.map_append]; exact List.mem_append_left _ hx)
    have haB : a ∉ B.map (·.1) := fun hx => hna (by rw [List.map_append]; exact List.mem_append_right _ (by simp at hx ⊢; exact .inr hx))
    have memA : ∀ x ∈ A.map (·.1), x ∈ ((a, f) :: A).map (·.1) := fun x hx => by simp at hx ⊢; exact .inr hx
    have neA : ∀ x ∈ A.map (·.1), x ≠ a := fun x hx e' => haA (e' ▸ hx)
    refine ⟨(g1 a ma).trans k1, ?_, ?_, ?_⟩
    · show nx' a = hdB (A ++ B)
      rw [g2 a ma]
      cases A with
      | nil => simp [endB, hdB]
      | cons y A' =>
        rw [if_neg, k2]
        · simp [hdB]
        · intro e'
          exact haA (endB_mem (L := y :: A') e')
    · show tw' a = firstK f.place f.mask (A ++ B)
      rw [g3 a ma, k3, firstK_append, firstK_append, firstK_cons, endK_cons]
      cases hl : endK e.place e.mask A with
      | some x =>
        simp only
        rw [if_neg (fun e' => by cases e'; exact haA (endK_mem hl))]
        cases hk : isK f.place f.mask e with
        | false => simp
        | true =>
          have e1 : ∀ c, isK f.place f.mask c = isK e.place e.mask c := isK_trans hk
          cases hf : firstK f.place f.mask A with
          | some y => simp
          | none =>
            exfalso
            have := (endK_none (p := e.place) (m := e.mask)).2 fun y hy => by rw [← e1]; exact firstK_none.1 hf y hy
            rw [hl] at this; cases this
      | none =>
        simp only
        have h0 := endK_none.1 hl
        cases hk : isK e.place e.mask f with
        | false =>
          simp only [Bool.false_eq_true, if_false]
          have : isK f.place f.mask e = false := by rw [isK_comm]; exact hk
          simp [this]
        | true =>
          simp only [if_true]
          have e1 : ∀ c, isK e.place e.mask c = isK f.place f.mask c := isK_trans hk
          have hf : firstK f.place f.mask A = none := firstK_none.2 fun y hy => by rw [← e1]; exact h0 y hy
          have h4 := k4
          have : tw b = firstK e.place e.mask B := by
            clear k1 k2 k3 g1 g2 g3 h1 h2 h3 hn hna ma haA haB memA neA hl h0 hf k4
            generalize some a = q at h4
            induction A generalizing q with
            | nil => exact h4.2.2.1
            | cons y A' ih => exact ih _ h4.2.2.2
          rw [hf, this]
          obtain ⟨i1, i2⟩ := isK_iff.1 hk
          rw [i1, i2]; simp
    · refine lk_remove (A := A) hn k4 (fun x hx => g1 x (memA x hx)) h1 (fun x hx => ?_) h2 (fun x hx => ?_) h3
      · rw [g2 x (memA x hx)]
        cases A with
        | nil => simp at hx
        | cons y A' => rfl
      · rw [g3 x (memA x hx), endK_cons]
        cases hl : endK e.place e.mask A with
        | some y => rfl
        | none =>
          simp only
          split
          · rw [if_neg (fun e' => neA x hx (by cases e'; rfl)), if_neg (by simp)]
          · rfl
/-- A link more, ahead of all. -/
theorem lk_push {ah nx tw ah' nx' tw' : Nat → Option Nat} {b : Nat} {e : En} {L : List (Nat × En)} (hn : (L.map (·.1)).Nodup) (hb : b ∉ L.map (·.1)) (h : Lk ah nx tw none L)
    (h1 : ah' b = none) (h2 : nx' b = hdB L) (h3 : tw' b = firstK e.place e.mask L) (g1 : ∀ x ∈ L.map (·.1), ah' x = if hdB L = some x then some b else ah x) (g2 : ∀ x ∈ L.map (·.1), nx' x = nx x) (g3 : ∀ x ∈ L.map (·.1), tw' x = tw x) :
    Lk ah' nx' tw' none ((b, e) :: L) := by
  refine ⟨h1, h2, h3, ?_⟩
  cases L with
  | nil => trivial
  | cons y r =>
    obtain ⟨c, f⟩ := y
    obtain ⟨k1, k2, k3, k4⟩ := h
    simp only [List.map_cons, List.nodup_cons] at hn
    have m0 : c ∈ ((c, f) :: r).map (·.1) := by simp
    refine ⟨by rw [g1 c m0, if_pos (by simp [hdB])], (g2 c m0).trans k2, (g3 c m0).trans k3, k4.congr fun x hx => ?_⟩
    have mx : x ∈ ((c, f) :: r).map (·.1) := by simp at hx ⊢; exact .inr hx
    refine ⟨?_, g2 x mx, g3 x mx⟩
    rw [g1 x mx, if_neg]
    intro e'
    have : c = x := by simpa [hdB] using e'
    subst this
    exact hn.1 hx
/-- What a link in the midst leads to. -/
theorem lk_at {ah nx tw : Nat → Option Nat} {b : Nat} {e : En} {B : List (Nat × En)} : ∀ {A : List (Nat × En)} {p : Option Nat}, Lk ah nx tw p (A ++ (b, e) :: B) → ah b = endB p A ∧ nx b = hdB B ∧ tw b = firstK e.place e.mask B
  | [], _, h => ⟨h.1, h.2.1, h.2.2.1⟩
  | _ :: A, _, h => lk_at (A := A) h.2.2.2
end Go.Proofs.YtbhnjnoblkfckaaGreatDoor

-- from XStM
/- Storage: a chain of links as it lies in memory, its map beside it; no function of the program. -/
namespace Go.Proofs.YtbhnjnoblkfckaaGreatDoor
open Go.RowKit Go.Maps

/-! ### the map's keys and elements -/
theorem rowKe : (86 : TypeId) < Tryz.prog.types.size := of_decide_eq_true (by kernel_rfl)
theorem wideKe : (match Tryz.prog.underlying 86 with | some (.array _ _) | some (.struct _) => true | _ => false) = true := by kernel_rfl
set_option maxRecDepth 100000 in
theorem lawKe0 : WideMaps.KeyLaw Tryz.prog 86 := deep_law_laid (m := 2) (by kernel_rfl) (by omega) rowKe (by kernel_rfl) wideKe
set_option maxRecDepth 100000 in
theorem lawKe : Keyed Tryz.prog 86 := Keyed.of_law lawKe0
def keL (p : ByteArray) (m : Int) : Lit := .string (keyBytes [.string p.data.toList, .int .i64 m])
set_option maxRecDepth 100000 in
theorem keyOf_ke {p : ByteArray} {m : Int} (hp : p.size ≤ maxLen) (hm : (Lit.int .i64 m).wf = true) : keyOf Tryz.prog 86 (.agg #[.string p, .int .i64 m]) = some (keL p m) := by
  obtain ⟨n, hn⟩ : ∃ n, Tryz.prog.types.size = n + 1 := ⟨_, (Nat.succ_pred_eq_of_pos (Nat.lt_of_le_of_lt (Nat.zero_le _) rowKe)).symm⟩
  have hC : Tryz.prog.cellsOf 86 = 2 := by kernel_rfl
  have hS : Tryz.prog.cellsOf 9 = 1 := by kernel_rfl
  have hI : Tryz.prog.cellsOf 3 = 1 := by kernel_rfl
  have hk : Tryz.prog.keyType 86 = true := by kernel_rfl
  unfold keyOf
  simp only [Tryz.underlying86]
  rw [if_pos (by simp [hk, Value.formed, Tryz.underlying86, hC]), hn]
  unfold Program.keyLits
  simp only [Tryz.underlying86, Value.cells]
  rw [if_pos (by simp [hC])]
  simp [Program.keyLits, hS, hI, Tryz.underlying9, Tryz.underlying3, hp, hm, keL]
theorem keL_ne {p q : ByteArray} {m k : Int} (hp : p.size ≤ maxLen) (hm : (Lit.int .i64 m).wf = true) (hq : q.size ≤ maxLen) (hk : (Lit.int .i64 k).wf = true) (h : ¬ (p = q ∧ m = k)) : keL p m ≠ keL q k := fun e => by
  have h1 := keyOf_ke hp hm
  rw [e] at h1
  have := lawKe.inj h1 (keyOf_ke hq hk)
  simp at this
  exact h this

def adO (o : Option Nat) : Option Addr := o.map fun b => (⟨b, 0, none⟩ : Addr)
def ptrO (o : Option Nat) : Value := .pointer (adO o)
theorem ptrO_some (b : Nat) : ptrO (some b) = .pointer (some ⟨b, 0, none⟩) := rfl
theorem ptrO_none : ptrO none = .pointer none := rfl
/-- How a pointer to a link reads among the map's elements: as the number of its block. -/
def lkElem (v : Value) : Option (DataW Unit × List MemPlace) := match v with
  | .pointer none => some (.nil, [])
  | .pointer (some ⟨b, 0, none⟩) => some (.lit (.int .i64 b), [])
  | _ => none
def lkD : Option Nat → DataW Unit
  | none => .nil
  | some b => .lit (.int .i64 b)
theorem lkElem_mk (o : Option Nat) : lkElem (ptrO o) = some (lkD o, []) := by cases o <;> rfl
theorem lkElem_inv {v : Value} {o : Option Nat} {ps : List MemPlace} (h : lkElem v = some (lkD o, ps)) : v = ptrO o := by
  unfold lkElem at h
  split at h
  · cases o with
    | none => rfl
    | some b => simp [lkD] at h
  · cases o with
    | none => simp [lkD] at h
    | some b =>
      simp only [lkD, Option.some.injEq, Prod.mk.injEq, DataW.lit.injEq, Lit.int.injEq, true_and] at h
      obtain ⟨h, _⟩ := h
      have := Int.ofNat_inj.1 h
      subst this; rfl
  · cases h

/-- The map reads as the first links of all keys. -/
def MapK (D : DataW Unit) (L : List (Nat × En)) : Prop :=
  (IsMap D ∧ ∀ x, Maps.has D x = true → ∃ (p : ByteArray) (m : Int), p.size ≤ maxLen ∧ (Lit.int .i64 m).wf = true ∧ x = keL p m) ∧ ∀ (p : ByteArray) (m : Int), p.size ≤ maxLen → (Lit.int .i64 m).wf = true → Maps.has D (keL p m) = (firstK p m L).isSome ∧ D.atKey (keL p m) .nil = lkD (firstK p m L)
theorem mapk_empty : MapK (.map []) [] := ⟨⟨isMap_empty, fun x hx => by cases hx⟩, fun _ _ _ _ => ⟨rfl, rfl⟩⟩
theorem isKey_keL (p : ByteArray) (m : Int) : WideAt.IsKeyLit (keL p m) := trivial
theorem mapk_set {D : DataW Unit} {L M : List (Nat × En)} {p : ByteArray} {m : Int} {b : Nat} (h : MapK D L) (hp : p.size ≤ maxLen) (hm : (Lit.int .i64 m).wf = true) (h1 : firstK p m M = some b)
    (h2 : ∀ q k, ¬ (p = q ∧ m = k) → firstK q k M = firstK q k L) : MapK (D.put (keL p m) (lkD (some b))) M := by
  refine ⟨⟨h.1.1.put _ _, fun x hx => ?_⟩, fun q k hq hk => ?_⟩
  · by_cases e : x = keL p m
    · exact ⟨p, m, hp, hm, e⟩
    · rw [has_put_other e] at hx; exact h.1.2 x hx
  by_cases e : p = q ∧ m = k
  · obtain ⟨rfl, rfl⟩ := e
    rw [has_put_same h.1.1 (isKey_keL _ _), atKey_put_same h.1.1 (isKey_keL _ _), h1]
    exact ⟨rfl, rfl⟩
  · have ne : keL q k ≠ keL p m := (keL_ne hp hm hq hk e).symm
    rw [has_put_other ne, atKey_put_other ne, h2 q k e]
    exact h.2 q k hq hk
theorem mapk_del {D : DataW Unit} {L M : List (Nat × En)} {p : ByteArray} {m : Int} (h : MapK D L) (hp : p.size ≤ maxLen) (hm : (Lit.int .i64 m).wf = true) (h1 : firstK p m M = none)
    (h2 : ∀ q k, ¬ (p = q ∧ m = k) → firstK q k M = firstK q k L) : MapK (D.del (keL p m)) M := by
  refine ⟨⟨h.1.1.del _, fun x hx => ?_⟩, fun q k hq hk => ?_⟩
  · by_cases e : x = keL p m
    · exact ⟨p, m, hp, hm, e⟩
    · rw [has_del_other e] at hx; exact h.1.2 x hx
  by_cases e : p = q ∧ m = k
  · obtain ⟨rfl, rfl⟩ := e
    rw [has_del_same, atKey_del_same, h1]
    exact ⟨rfl, rfl⟩
  · have ne : keL q k ≠ keL p m := (keL_ne hp hm hq hk e).symm
    rw [has_del_other ne, atKey_del_other ne, h2 q k e]
    exact h.2 q k hq hk
theorem mapk_same {D : DataW Unit} {L M : List (Nat × En)} (h : MapK D L) (h2 : ∀ q k, firstK q k M = firstK q k L) : MapK D M := ⟨h.1, fun q k hq hk => by rw [h2]; exact h.2 q k hq hk⟩

/-! ### what stays -/
/-- Blocks that were there, but for some, are as they were. -/
structure Only (S : Nat → Prop) (w w' : World) : Prop where
  os : w'.os = w.os
  tape : w'.tape = w.tape
  output : w'.output = w.output
  size : w.heap.size ≤ w'.heap.size
  block : ∀ j, j < w.heap.size → ¬ S j → w'.heap[j]? = w.heap[j]?
theorem Only.refl (S : Nat → Prop) (w : World) : Only S w w := ⟨rfl, rfl, rfl, Nat.le_refl _, fun _ _ _ => rfl⟩
theorem Only.trans {S : Nat → Prop} {a b c : World} (h : Only S a b) (k : Only S b c) : Only S a c :=
  ⟨k.os.trans h.os, k.tape.trans h.tape, k.output.trans h.output, Nat.le_trans h.size k.size, fun j hj hn => (k.block j (Nat.lt_of_lt_of_le hj h.size) hn).trans (h.block j hj hn)⟩
theorem Only.mono {S S' : Nat → Prop} {a b : World} (h : Only S a b) (hs : ∀ j, j < a.heap.size → S j → S' j) : Only S' a b :=
  ⟨h.os, h.tape, h.output, h.size, fun j hj hn => h.block j hj fun k => hn (hs j hj k)⟩
theorem Only.below {S : Nat → Prop} {a b : World} {B : Nat} (h : Only S a b) (hB : B ≤ a.heap.size) (hs : ∀ j, S j → B ≤ j) : Below B a b :=
  ⟨h.os, h.tape, h.output, h.size, fun j hj => h.block j (by omega) fun k => by have := hs j k; omega⟩
theorem only_of_below {S : Nat → Prop} {a b : World} (h : Below a.heap.size a b) : Only S a b := ⟨h.os, h.tape, h.output, h.size, fun j hj _ => h.block j hj⟩
theorem only_of_grown {S : Nat → Prop} {a b : World} {row : Option Nat} (h : a.grownBy b row) (hs : ∀ j, row = some j → S j) : Only S a b :=
  ⟨h.os, h.tape, h.output, h.size, fun j hj hn => h.block j hj fun e => hn (hs j e.symm)⟩
theorem only_set {S : Nat → Prop} (w : World) (b k : Nat) (x : Value) (hb : S b) : Only S w (w.setCell ⟨b, k, none⟩ x) :=
  ⟨rfl, rfl, rfl, by simp, fun j _ hn => heap_setCell_other w ⟨b, k, none⟩ j _ (fun e => hn (by rw [e]; exact hb))⟩
theorem only_drewN {S : Nat → Prop} {a b : World} (h : Only S a b) (n : Nat) : Only S a (b.drewN n) := ⟨h.os, h.tape, h.output, h.size, h.block⟩

/-! ### links in memory -/
def lkC (e : En) (ah nx tw : Option Nat) : Array Value :=
  #[.string e.place, .int .i64 e.mask, .string e.place, .int .i64 e.mask, .int .i64 e.rsp.code, .int .i64 e.rsp.mx, .bool e.rsp.hide, .string e.rsp.tag, .int .i64 e.rsp.cod, .string e.rsp.body, .int .i64 e.tm, ptrO ah, ptrO nx, ptrO tw]
def lkO (e : En) (ah nx tw : Option Nat) : Obj := .cells (lkC e ah nx tw) 107 (0, 0)
def chO (f : Option Nat) (mb : Nat) : Obj := .cells #[ptrO f, .map (some mb)] 77 (0, 0)
def fup (f : Nat → Option Nat) (b : Nat) (x : Option Nat) : Nat → Option Nat := fun j => if j = b then x else f j
def Mem (w : World) (dom : Nat → Option En) (ah nx tw : Nat → Option Nat) : Prop := ∀ b e, dom b = some e → w.heap[b]? = some (lkO e (ah b) (nx b) (tw b))
theorem Mem.keep {w w' : World} {dom : Nat → Option En} {ah nx tw : Nat → Option Nat} (h : Mem w dom ah nx tw) (hk : ∀ b e, dom b = some e → w'.heap[b]? = w.heap[b]?) : Mem w' dom ah nx tw := fun b e hb => (hk b e hb).trans (h b e hb)
theorem lkO_setA {w : World} {b : Nat} {e : En} {a n t : Option Nat} (h : w.heap[b]? = some (lkO e a n t)) (x : Option Nat) : (w.setCell ⟨b, 11, none⟩ (ptrO x)).heap[b]? = some (lkO e x n t) := heap_setCell_same w b 11 _ _ _ h
theorem lkO_setN {w : World} {b : Nat} {e : En} {a n t : Option Nat} (h : w.heap[b]? = some (lkO e a n t)) (x : Option Nat) : (w.setCell ⟨b, 12, none⟩ (ptrO x)).heap[b]? = some (lkO e a x t) := heap_setCell_same w b 12 _ _ _ h
theorem lkO_setT {w : World} {b : Nat} {e : En} {a n t : Option Nat} (h : w.heap[b]? = some (lkO e a n t)) (x : Option Nat) : (w.setCell ⟨b, 13, none⟩ (ptrO x)).heap[b]? = some (lkO e a n x) := heap_setCell_same w b 13 _ _ _ h
theorem set_other {w : World} {b j k : Nat} {x : Value} (h : j ≠ b) : (w.setCell ⟨b, k, none⟩ x).heap[j]? = w.heap[j]? := heap_setCell_other w ⟨b, k, none⟩ j _ (by simpa using h)
theorem Mem.setA {w : World} {dom : Nat → Option En} {ah nx tw : Nat → Option Nat} (h : Mem w dom ah nx tw) (b : Nat) (x : Option Nat) : Mem (w.setCell ⟨b, 11, none⟩ (ptrO x)) dom (fup ah b x) nx tw := fun j e hj => by
  unfold fup
  by_cases q : j = b
  · subst q; rw [if_pos rfl]; exact lkO_setA (h j e hj) x
  · rw [if_neg q, set_other q]; exact h j e hj
theorem Mem.setN {w : World} {dom : Nat → Option En} {ah nx tw : Nat → Option Nat} (h : Mem w dom ah nx tw) (b : Nat) (x : Option Nat) : Mem (w.setCell ⟨b, 12, none⟩ (ptrO x)) dom ah (fup nx b x) tw := fun j e hj => by
  unfold fup
  by_cases q : j = b
  · subst q; rw [if_pos rfl]; exact lkO_setN (h j e hj) x
  · rw [if_neg q, set_other q]; exact h j e hj
theorem Mem.setT {w : World} {dom : Nat → Option En} {ah nx tw : Nat → Option Nat} (h : Mem w dom ah nx tw) (b : Nat) (x : Option Nat) : Mem (w.setCell ⟨b, 13, none⟩ (ptrO x)) dom ah nx (fup tw b x) := fun j e hj => by
  unfold fup
  by_cases q : j = b
  · subst q; rw [if_pos rfl]; exact lkO_setT (h j e hj) x
  · rw [if_neg q, set_other q]; exact h j e hj
theorem lk_facts {w : World} {b : Nat} {e : En} {a n t : Option Nat} (h : w.heap[b]? = some (lkO e a n t)) :
    (w.cell? ⟨b, 0, none⟩ = some (.string e.place) ∧ w.cell? ⟨b, 1, none⟩ = some (.int .i64 e.mask)) ∧
    (w.cell? ⟨b, 2, none⟩ = some (.string e.place) ∧ w.cell? ⟨b, 3, none⟩ = some (.int .i64 e.mask) ∧ w.cell? ⟨b, 4, none⟩ = some (.int .i64 e.rsp.code) ∧ w.cell? ⟨b, 5, none⟩ = some (.int .i64 e.rsp.mx) ∧ w.cell? ⟨b, 6, none⟩ = some (.bool e.rsp.hide) ∧
      w.cell? ⟨b, 7, none⟩ = some (.string e.rsp.tag) ∧ w.cell? ⟨b, 8, none⟩ = some (.int .i64 e.rsp.cod) ∧ w.cell? ⟨b, 9, none⟩ = some (.string e.rsp.body) ∧ w.cell? ⟨b, 10, none⟩ = some (.int .i64 e.tm)) ∧
    w.cell? ⟨b, 11, none⟩ = some (ptrO a) ∧ w.cell? ⟨b, 12, none⟩ = some (ptrO n) ∧ w.cell? ⟨b, 13, none⟩ = some (ptrO t) := by
  unfold lkO lkC at h
  refine ⟨⟨?_, ?_⟩, ⟨?_, ?_, ?_, ?_, ?_, ?_, ?_, ?_, ?_⟩, ?_, ?_, ?_⟩ <;> simp [World.cell?, h]
theorem lk_frozen {w : World} {b : Nat} {e : En} {a n t : Option Nat} (h : w.heap[b]? = some (lkO e a n t)) (k : Nat) : w.frozen? ⟨b, k, none⟩ = false := by
  unfold lkO at h
  simp [World.frozen?, h]
theorem ch_facts {w : World} {c mb : Nat} {f : Option Nat} (h : w.heap[c]? = some (chO f mb)) : w.cell? ⟨c, 0, none⟩ = some (ptrO f) ∧ w.cell? ⟨c, 1, none⟩ = some (.map (some mb)) ∧ w.frozen? ⟨c, 0, none⟩ = false := by
  unfold chO at h
  refine ⟨?_, ?_, ?_⟩ <;> simp [World.cell?, World.frozen?, h]
theorem chO_set {w : World} {c mb : Nat} {f : Option Nat} (h : w.heap[c]? = some (chO f mb)) (x : Option Nat) : (w.setCell ⟨c, 0, none⟩ (ptrO x)).heap[c]? = some (chO x mb) := heap_setCell_same w c 0 _ _ _ h

/-- The blocks of a chain. -/
def Cs (c mb : Nat) (L : List (Nat × En)) (j : Nat) : Prop := j = c ∨ j = mb ∨ j ∈ L.map (·.1)
/-- A chain: its links in their order, and the first link of every key; all of it lies from block B on. -/
structure Chn (w : World) (c mb B N : Nat) (L : List (Nat × En)) : Prop where
  head : w.heap[c]? = some (chO (hdB L) mb)
  links : ∃ dom ah nx tw, Mem w dom ah nx tw ∧ Lk ah nx tw none L ∧ ∀ x ∈ L, dom x.1 = some x.2
  nodup : (L.map (·.1)).Nodup
  far : ∀ x ∈ L, B ≤ x.1 ∧ x.1 ≠ c ∧ x.1 ≠ mb
  low : B ≤ c ∧ B ≤ mb ∧ c ≠ mb
  map : ∃ D, w.ownsMap Tryz.prog 86 lkElem mb N D ∧ MapK D L
  ok : ∀ x ∈ L, EnOk 1048576 x.2
theorem Chn.cs {w : World} {c mb B N : Nat} {L : List (Nat × En)} (h : Chn w c mb B N L) {j : Nat} (hj : Cs c mb L j) : B ≤ j ∧ j < w.heap.size := by
  rcases hj with rfl | rfl | hj
  · exact ⟨h.low.1, (Array.getElem?_eq_some_iff.1 h.head).1⟩
  · obtain ⟨D, hD, _⟩ := h.map
    exact ⟨h.low.2.1, hD.lt⟩
  · obtain ⟨x, hx, rfl⟩ := List.mem_map.1 hj
    obtain ⟨dom, ah, nx, tw, hM, _, hd⟩ := h.links
    exact ⟨(h.far x hx).1, (Array.getElem?_eq_some_iff.1 (hM _ _ (hd x hx))).1⟩
theorem Chn.keep {w w' : World} {c mb B N : Nat} {L : List (Nat × En)} {S : Nat → Prop} (h : Chn w c mb B N L) (hk : Only S w w') (hs : ∀ j, S j → ¬ Cs c mb L j) : Chn w' c mb B N L := by
  have hc : ∀ j, Cs c mb L j → w'.heap[j]? = w.heap[j]? := fun j hj => hk.block j (h.cs hj).2 fun k => hs j k hj
  obtain ⟨dom, ah, nx, tw, hM, hL, hd⟩ := h.links
  refine ⟨(hc c (.inl rfl)).trans h.head, ⟨fun b => if b ∈ L.map (·.1) then dom b else none, ah, nx, tw, ?_, hL, fun x hx => ?_⟩, h.nodup, h.far, h.low, ?_, h.ok⟩
  · intro b e hb
    dsimp only at hb
    split at hb
    · rename_i hm
      exact (hc b (.inr (.inr hm))).trans (hM b e hb)
    · cases hb
  · show (if x.1 ∈ L.map (·.1) then dom x.1 else none) = some x.2
    rw [if_pos (List.mem_map.2 ⟨x, hx, rfl⟩)]; exact hd x hx
  · obtain ⟨D, ⟨es, clock, hb, r⟩, hK⟩ := h.map
    exact ⟨D, ⟨es, clock, (hc mb (.inr (.inl rfl))).trans hb, r⟩, hK⟩
theorem Chn.below {w w' : World} {c mb B N : Nat} {L : List (Nat × En)} (h : Chn w c mb B N L) (hk : Below w.heap.size w w') : Chn w' c mb B N L := h.keep (S := fun _ => False) (only_of_below hk) (fun _ h => h.elim)
theorem Chn.mono {w : World} {c mb B N N' : Nat} {L : List (Nat × En)} (h : Chn w c mb B N L) (hn : N ≤ N') : Chn w c mb B N' L := by
  obtain ⟨D, hD, hK⟩ := h.map
  exact ⟨h.head, h.links, h.nodup, h.far, h.low, ⟨D, hD.mono hn, hK⟩, h.ok⟩
/-- A link of it, with what it leads to. -/
theorem Chn.link {w : World} {c mb B N : Nat} {A R : List (Nat × En)} {b : Nat} {e : En} (h : Chn w c mb B N (A ++ (b, e) :: R)) : w.heap[b]? = some (lkO e (endB none A) (hdB R) (firstK e.place e.mask R)) := by
  obtain ⟨dom, ah, nx, tw, hM, hL, hd⟩ := h.links
  obtain ⟨h1, h2, h3⟩ := lk_at hL
  rw [hM b e (hd (b, e) (by simp)), h1, h2, h3]

/-- 'm[k], .. = v, ..': the entry is laid (or found), and told later, in whatever world still has the block so. -/
theorem owns_entry {P : Program} {k t e : TypeId} {R : Value → Option (DataW Unit × List MemPlace)} {w : World} {b n : Nat} {D : DataW Unit} (h : w.ownsMap P k R b n D) (K : WideMaps.KeyLaw P k) (ht : P.underlying t = some (.map k e)) (hn : n < maxLen) {z : Value}
    (hz : ∀ u : World, (zeroValue e).run P u = .ok z u) {key val : Value} {kl : Lit} {d : DataW Unit} {ps : List MemPlace} (hkey : keyOf P k key = some kl) (hv : R val = some (d, ps)) :
    ∃ v0 st w1 w2, (Instr.mapEntry t (.map (some b)) key).run P w = .ok (.tuple #[v0, goInt st]) w1 ∧ (Instr.entryStore t (.map (some b)) (goInt st) val).run P w1 = .ok () w2 ∧ w2.ownsMap P k R b (n + 1) (D.put kl d) ∧ w.grownBy w1 (some b) ∧ w.grownBy w2 (some b) := by
  obtain ⟨w', hup, hown, hg⟩ := h.update (Keyed.of_law K) ht hn hkey hv
  obtain ⟨es, clock, hb, F, hs, rfl⟩ := h
  obtain ⟨v0, st, es1, c1, h1, _, h3⟩ := Go.WideElems.entry_then_store K ht hz hb F hkey
  have hlt := (Array.getElem?_eq_some_iff.1 hb).1
  have hb1 : (Go.ChangeMaps.setBlock w b (.map es1 c1)).heap[b]? = some (.map es1 c1) := Go.ChangeMaps.heap_setBlock_same hb _
  obtain ⟨es', c', r1, r2⟩ := h3 _ val hb1
  rw [hup] at r2
  have e : w' = Go.ChangeMaps.setBlock w b (.map es' c') := by injection r2
  have e2 : Go.ChangeMaps.setBlock (Go.ChangeMaps.setBlock w b (.map es1 c1)) b (.map es' c') = Go.ChangeMaps.setBlock w b (.map es' c') := by simp [Go.ChangeMaps.setBlock]
  refine ⟨v0, st, _, _, h1, r1, by rw [e2, ← e]; exact hown, ⟨rfl, rfl, rfl, by simp [Go.ChangeMaps.setBlock], fun i _ hi => Go.ChangeMaps.heap_setBlock_other hb _ (fun e => hi (by rw [e]))⟩, by rw [e2, ← e]; exact hg⟩
end Go.Proofs.YtbhnjnoblkfckaaGreatDoor

-- from XStLn
/- Storage: how many keys a chain's map has; no function of the program. -/
namespace Go.Proofs.YtbhnjnoblkfckaaGreatDoor
open Go.RowKit Go.Maps

theorem nodup_of_split {α : Type} : ∀ {K : List α}, (∀ A x R, K = A ++ x :: R → x ∉ R) → K.Nodup
  | [], _ => List.nodup_nil
  | y :: K, h => List.nodup_cons.2 ⟨h [] y K rfl, nodup_of_split fun A x R e => h (y :: A) x R (by rw [e]; rfl)⟩
/-- As many as there are, without repeats, just if there are none. -/
theorem len_nodup {α : Type} {ks K : List α} (hn : ks.Nodup) (hm : ∀ k, k ∈ ks ↔ k ∈ K) : ks.length = K.length ↔ K.Nodup := by
  constructor
  · intro hl
    refine nodup_of_split fun A x R e hx => ?_
    have hs : ks ⊆ A ++ R := fun k hk => by
      have := (hm k).1 hk
      rw [e] at this
      simp only [List.mem_append, List.mem_cons] at this ⊢
      rcases this with h | rfl | h
      · exact .inl h
      · exact .inr hx
      · exact .inr h
    have := List.Nodup.length_le_of_subset hn hs
    rw [e] at hl
    simp at hl this
    omega
  · intro h
    exact ((List.perm_ext_iff_of_nodup hn h).2 hm).length_eq
theorem has_mem {es : List (Lit × DataW Unit)} {k : Lit} (hk : WideAt.IsKeyLit k) : Maps.has (.map es) k = true ↔ k ∈ es.map (·.1) := by
  rw [has_eq, List.any_eq_true]
  constructor
  · rintro ⟨p, hp, hs⟩
    exact List.mem_map.2 ⟨p, hp, WideAt.sameKey_eq hs⟩
  · intro h
    obtain ⟨p, hp, rfl⟩ := List.mem_map.1 h
    exact ⟨p, hp, WideAt.sameKey_self hk⟩
theorem keL_eq {a b : En} (ha : EnOk 1048576 a) (hb : EnOk 1048576 b) : keL a.place a.mask = keL b.place b.mask ↔ isK a.place a.mask b = true := by
  have h : ∀ x : En, EnOk 1048576 x → x.place.size ≤ maxLen := fun x hx => Nat.le_trans hx.place (by decide)
  constructor
  · intro e
    refine Classical.byContradiction fun hn => keL_ne (h a ha) ha.wf (h b hb) hb.wf (fun hc => hn ?_) e
    exact isK_iff.2 ⟨hc.1.symm, hc.2.symm⟩
  · intro e
    obtain ⟨h1, h2⟩ := isK_iff.1 e
    rw [h1, h2]
theorem pairwise_keys {L : List En} (hE : EnsOk 1048576 L) : (L.map fun e => keL e.place e.mask).Nodup ↔ L.Pairwise fun a b => isK a.place a.mask b = false := by
  unfold List.Nodup
  rw [List.pairwise_map]
  constructor
  · intro h
    exact List.Pairwise.imp_of_mem (fun {a b} ha hb hne => by
      cases hk : isK a.place a.mask b with
      | false => rfl
      | true => exact absurd ((keL_eq (hE a ha) (hE b hb)).2 hk) hne) h
  · intro h
    exact List.Pairwise.imp_of_mem (fun {a b} ha hb hk e => by
      rw [(keL_eq (hE a ha) (hE b hb)).1 e] at hk; cases hk) h
/-- The map has as many keys as there are entries just if no two have the same key. -/
theorem size_keys {D : DataW Unit} {M : List (Nat × En)} {L : List En} (hT : ∃ es, D = .map es ∧ es.Pairwise (fun p q => p.1 ≠ q.1) ∧ ∀ p ∈ es, WideAt.IsKeyLit p.1) (hK : MapK D M) (hM : M.map (·.2) = L) (hE : EnsOk 1048576 L) : Maps.size D = L.length ↔ L.Pairwise fun a b => isK a.place a.mask b = false := by
  obtain ⟨es, rfl, hp, hkl⟩ := hT
  obtain ⟨⟨_, hall⟩, hat⟩ := hK
  rw [← pairwise_keys hE, size_eq]
  have q1 : (es.map (·.1)).length = es.length := List.length_map _
  have q2 : (L.map fun e => keL e.place e.mask).length = L.length := List.length_map _
  rw [← q1, ← q2]
  refine len_nodup (List.pairwise_map.2 hp) fun k => ?_
  have hin : ∀ (p : ByteArray) (m : Int), p.size ≤ maxLen → (Lit.int .i64 m).wf = true → (keL p m ∈ es.map (·.1) ↔ (firstK p m M).isSome = true) := fun p m h1 h2 => by
    rw [← has_mem (isKey_keL p m), (hat p m h1 h2).1]
  have hfs : ∀ (p : ByteArray) (m : Int), (firstK p m M).isSome = true ↔ ∃ e ∈ L, isK p m e = true := fun p m => by
    unfold firstK
    rw [Option.isSome_map, List.find?_isSome, ← hM]
    constructor
    · rintro ⟨x, hx, h⟩
      exact ⟨x.2, List.mem_map.2 ⟨x, hx, rfl⟩, h⟩
    · rintro ⟨e, he, h⟩
      obtain ⟨x, hx, rfl⟩ := List.mem_map.1 he
      exact ⟨x, hx, h⟩
  constructor
  · intro hk
    have hkey : Maps.has (.map es) k = true := by
      obtain ⟨q, hq, rfl⟩ := List.mem_map.1 hk
      rw [has_eq, List.any_eq_true]
      exact ⟨q, hq, WideAt.sameKey_self (hkl q hq)⟩
    obtain ⟨p, m, h1, h2, rfl⟩ := hall k hkey
    obtain ⟨e, he, h⟩ := (hfs p m).1 ((hin p m h1 h2).1 hk)
    obtain ⟨r1, r2⟩ := isK_iff.1 h
    exact List.mem_map.2 ⟨e, he, by rw [r1, r2]⟩
  · intro hk
    obtain ⟨e, he, rfl⟩ := List.mem_map.1 hk
    exact (hin _ _ (Nat.le_trans (hE e he).place (by decide)) (hE e he).wf).2 ((hfs _ _).2 ⟨e, he, isK_self e⟩)
end Go.Proofs.YtbhnjnoblkfckaaGreatDoor

-- from XStB
/- Storage: a chain with a link more, in memory; no function of the program. -/
namespace Go.Proofs.YtbhnjnoblkfckaaGreatDoor
open Go.RowKit Go.Maps

theorem Chn.new {w : World} {c mb B N : Nat} {L : List (Nat × En)} (h : Chn w c mb B N L) : w.heap.size ∉ L.map (·.1) ∧ w.heap.size ≠ c ∧ w.heap.size ≠ mb ∧ B ≤ w.heap.size :=
  ⟨fun hm => by have := (h.cs (j := w.heap.size) (.inr (.inr hm))).2; omega, fun e => by have := (h.cs (j := c) (.inl rfl)).2; omega, fun e => by have := (h.cs (j := mb) (.inr (.inl rfl))).2; omega, by have := h.cs (j := c) (.inl rfl); omega⟩
theorem Chn.owned {w : World} {c mb B N : Nat} {L : List (Nat × En)} (h : Chn w c mb B N L) : ∃ D, w.ownsMap Tryz.prog 86 lkElem mb N D ∧ MapK D L := h.map
/-- The head's link is told of the new one. -/
def told (w : World) (L : List (Nat × En)) (b : Nat) : World := match hdB L with
  | none => w
  | some b1 => w.setCell ⟨b1, 11, none⟩ (ptrO (some b))
theorem told_grown (w : World) (L : List (Nat × En)) (b : Nat) : w.grownBy (told w L b) (hdB L) := by
  unfold told
  cases hdB L with
  | none => exact World.grownBy.refl _ _
  | some b1 => exact ⟨rfl, rfl, rfl, by simp, fun j _ hj => set_other (fun e => hj (by rw [e]))⟩
theorem chn_push {w w2 : World} {c mb B N : Nat} {L : List (Nat × En)} {e : En} {D : DataW Unit} (h : Chn w c mb B N L) (he : EnOk 1048576 e) (hK : MapK D L)
    (hg : ((told (w.alloc (.cells (lkC e none (hdB L) (firstK e.place e.mask L)) 107)) L w.heap.size).setCell ⟨c, 0, none⟩ (ptrO (some w.heap.size))).grownBy w2 (some mb))
    (hown : w2.ownsMap Tryz.prog 86 lkElem mb (N + 1) (D.put (keL e.place e.mask) (lkD (some w.heap.size)))) : Chn w2 c mb B (N + 1) ((w.heap.size, e) :: L) ∧ Only (Cs c mb L) w w2 := by
  obtain ⟨n1, n2, n3, n4⟩ := h.new
  obtain ⟨dom, ah, nx, tw, hM, hL, hd⟩ := h.links
  have hcs : ∀ x ∈ L, x.1 < w.heap.size := fun x hx => (h.cs (.inr (.inr (List.mem_map.2 ⟨x, hx, rfl⟩)))).2
  have hcl : c < w.heap.size := (h.cs (.inl rfl)).2
  have hml : mb < w.heap.size := (h.cs (.inr (.inl rfl))).2
  obtain ⟨w1, hw1⟩ : ∃ w1, w1 = w.alloc (.cells (lkC e none (hdB L) (firstK e.place e.mask L)) 107) := ⟨_, rfl⟩
  rw [← hw1] at hg
  have hb1 : Below w.heap.size w w1 := by rw [hw1]; exact (Below.refl _ _).alloc (Nat.le_refl _) _
  have hs1 : w1.heap.size = w.heap.size + 1 := by rw [hw1]; simp
  have hn1 : w1.heap[w.heap.size]? = some (lkO e none (hdB L) (firstK e.place e.mask L)) := by rw [hw1]; exact heap_alloc_new w _
  clear hw1
  have htg := told_grown w1 L w.heap.size
  have hsz2 : (told w1 L w.heap.size).heap.size = w1.heap.size := by unfold told; cases hdB L <;> simp
  have hhd : ∀ b, hdB L = some b → b < w.heap.size ∧ b ≠ c ∧ b ≠ mb := fun b hb => by
    obtain ⟨x, hx, rfl⟩ := List.mem_map.1 (hdB_mem hb)
    exact ⟨hcs x hx, (h.far x hx).2⟩
  -- what a block holds at last
  have key : ∀ j, j < w1.heap.size → j ≠ c → j ≠ mb → w2.heap[j]? = (told w1 L w.heap.size).heap[j]? := fun j hj hc hm =>
    (hg.block j (by simp; omega) (fun e => hm (by injection e))).trans (set_other hc)
  have keyc : w2.heap[c]? = some (chO (some w.heap.size) mb) := by
    rw [hg.block c (by simp; omega) (fun e => h.low.2.2 (by injection e))]
    refine chO_set (f := hdB L) ?_ _
    rw [htg.block c (by omega) (fun e => (hhd c e.symm).2.1 rfl), hb1.block c hcl]
    exact h.head
  refine ⟨⟨keyc, ⟨fun j => if j = w.heap.size then some e else if j ∈ L.map (·.1) then dom j else none, fun j => if j = w.heap.size then none else if hdB L = some j then some w.heap.size else ah j, fun j => if j = w.heap.size then hdB L else nx j, fun j => if j = w.heap.size then firstK e.place e.mask L else tw j, ?_, ?_, ?_⟩, ?_, ?_, h.low, ⟨_, hown, ?_⟩, ?_⟩, ?_⟩
  · intro j f hj
    dsimp only at hj ⊢
    by_cases q : j = w.heap.size
    · subst q
      simp only [if_true] at hj ⊢
      cases hj
      rw [key _ (by omega) n2 n3, htg.block _ (by omega) (fun e => by have := (hhd _ e.symm).1; omega)]
      exact hn1
    · simp only [if_neg q] at hj ⊢
      split at hj
      · rename_i hm
        obtain ⟨x, hx, rfl⟩ := List.mem_map.1 hm
        rw [key _ (by have := hcs x hx; omega) (h.far x hx).2.1 (h.far x hx).2.2]
        have hold : w1.heap[x.1]? = some (lkO f (ah x.1) (nx x.1) (tw x.1)) := (hb1.block _ (hcs x hx)).trans (hM _ _ hj)
        unfold told
        cases hh : hdB L with
        | none => simpa using hold
        | some b1 =>
          dsimp only
          by_cases q2 : b1 = x.1
          · subst q2
            rw [if_pos rfl]
            exact lkO_setA hold _
          · rw [if_neg (fun e => q2 (by injection e)), set_other (Ne.symm q2)]; exact hold
      · cases hj
  · refine lk_push h.nodup n1 hL (by simp) (by simp) (by simp) (fun x hx => ?_) (fun x hx => ?_) (fun x hx => ?_)
    all_goals
      have hne : x ≠ w.heap.size := fun e => n1 (e ▸ hx)
      first | rw [if_neg hne] | (simp only [if_neg hne])
  · intro x hx
    rcases List.mem_cons.1 hx with rfl | hx
    · simp
    · have hne : x.1 ≠ w.heap.size := fun e => by have := hcs x hx; omega
      dsimp only
      rw [if_neg hne, if_pos (List.mem_map.2 ⟨x, hx, rfl⟩)]; exact hd x hx
  · simp only [List.map_cons, List.nodup_cons]; exact ⟨n1, h.nodup⟩
  · intro x hx
    rcases List.mem_cons.1 hx with rfl | hx
    · exact ⟨n4, n2, n3⟩
    · exact h.far x hx
  · refine mapk_set hK (Nat.le_trans he.place (by decide)) he.wf ?_ (fun q k hq => ?_)
    · rw [firstK_cons, if_pos (isK_self e)]
    · rw [firstK_cons, if_neg]
      intro hk
      exact hq (isK_iff.1 hk)
  · intro x hx
    rcases List.mem_cons.1 hx with rfl | hx
    · exact he
    · exact h.ok x hx
  · have o1 : Only (Cs c mb L) w w1 := only_of_below hb1
    have o2 : Only (Cs c mb L) w1 (told w1 L w.heap.size) := only_of_grown htg fun j hj => .inr (.inr (hdB_mem hj))
    exact ((o1.trans o2).trans (only_set _ c 0 _ (.inl rfl))).trans (only_of_grown hg fun j hj => by injection hj with hj; subst hj; exact .inr (.inl rfl))

/-! ### two links compared -/
theorem infoLk : ∃ j, Tryz.prog.info? 107 = some j ∧ j.size ≠ 0 := by
  have h : (Tryz.prog.info? 107).map (·.size) = some 14 := by kernel_rfl
  cases hj : Tryz.prog.info? 107 with
  | none => rw [hj] at h; cases h
  | some j =>
    rw [hj] at h
    refine ⟨j, rfl, fun e => ?_⟩
    simp [e] at h
theorem eql_same (w : World) (b : Nat) : (binOp .eql 74 (.pointer (some ⟨b, 0, none⟩)) (.pointer (some ⟨b, 0, none⟩))).run Tryz.prog w = .ok (.bool true) w := by
  obtain ⟨j, hj, _⟩ := infoLk
  exact run_eql_ptr_same w _ Tryz.underlying74 hj
theorem eql_other {w : World} {x b : Nat} {e f : En} {a1 n1 t1 a2 n2 t2 : Option Nat} (hne : x ≠ b) (hx : w.heap[x]? = some (lkO e a1 n1 t1)) (hb : w.heap[b]? = some (lkO f a2 n2 t2)) :
    (binOp .eql 74 (.pointer (some ⟨x, 0, none⟩)) (.pointer (some ⟨b, 0, none⟩))).run Tryz.prog w = .ok (.bool false) w := by
  obtain ⟨j, hj, hs⟩ := infoLk
  exact run_eql_ptr_other w Tryz.underlying74 hj hs (fun e => hne (by injection e)) hx hb
theorem neq_of_eql {P : Program} {w : World} {t : TypeId} {x y : Option Addr} {z : Bool} (h : (binOp .eql t (.pointer x) (.pointer y)).run P w = .ok (.bool z) w) : (binOp .neq t (.pointer x) (.pointer y)).run P w = .ok (.bool (!z)) w := by
  simp only [binOp] at h ⊢
  cases hh : (Op.equal t (.pointer x) (.pointer y)).run P w <;> simp_all
theorem neq_same (w : World) (b : Nat) : (binOp .neq 74 (.pointer (some ⟨b, 0, none⟩)) (.pointer (some ⟨b, 0, none⟩))).run Tryz.prog w = .ok (.bool false) w := neq_of_eql (eql_same w b)
theorem neq_other {w : World} {x b : Nat} {e f : En} {a1 n1 t1 a2 n2 t2 : Option Nat} (hne : x ≠ b) (hx : w.heap[x]? = some (lkO e a1 n1 t1)) (hb : w.heap[b]? = some (lkO f a2 n2 t2)) :
    (binOp .neq 74 (.pointer (some ⟨x, 0, none⟩)) (.pointer (some ⟨b, 0, none⟩))).run Tryz.prog w = .ok (.bool true) w := neq_of_eql (eql_other hne hx hb)
end Go.Proofs.YtbhnjnoblkfckaaGreatDoor

-- from XStA
/- Walks: links, by the program: a key; a link more ahead of all. -/
namespace Go.Proofs.YtbhnjnoblkfckaaGreatDoor
open Go.RowKit Go.Maps

set_option maxHeartbeats 800000 in
theorem key_of (e : En) (w : World) :
    Calls Tryz.prog 53 #[enV e] w fun e' w' => e' = .returned (keV e) ∧ Below w.heap.size w w' := by
  obtain ⟨p, m, ⟨c, x, hd, t, k, b⟩, a⟩ := e
  unfold enV keV
  dsimp only
  go_enter Tryz.func53, Tryz.ntmps53
  go_wp2
  exact bodyPost_ret (v := .agg #[.string p, .int .i64 m]) (by simp [results, Tryz.results53, go_sem]) rfl ⟨rfl, ((Below.refl _ _).alloc (Nat.le_refl _) _).alloc (by simp) _⟩

def PushPost (c mb B N : Nat) (L : List (Nat × En)) (e : En) (w : World) (e' : Ending) (w' : World) : Prop := e' = .returned (.tuple #[]) ∧ ∃ b, w.heap.size ≤ b ∧ Chn w' c mb B (N + 1) ((b, e) :: L) ∧ Only (Cs c mb L) w w'

set_option maxRecDepth 100000 in
set_option maxHeartbeats 1600000 in
theorem push_any (c mb B N : Nat) (L : List (Nat × En)) (e : En) (w : World) (h : Chn w c mb B N L) (he : EnOk 1048576 e) (hN : N < maxLen) :
    Calls Tryz.prog 54 #[.pointer (some ⟨c, 0, none⟩), keV e, enV e] w (PushPost c mb B N L e w) := by
  have hkey := keyOf_ke (p := e.place) (m := e.mask) (Nat.le_trans he.place (by decide)) he.wf
  have hput := fun (w : World) (D : DataW Unit) (hK : MapK D L) (h : Chn w c mb B N L) w2 => chn_push (w2 := w2) h he hK
  have heV : enV e = .agg #[.string e.place, .int .i64 e.mask, .int .i64 e.rsp.code, .int .i64 e.rsp.mx, .bool e.rsp.hide, .string e.rsp.tag, .int .i64 e.rsp.cod, .string e.rsp.body, .int .i64 e.tm] := rfl
  have hlC : ∀ x y z, lkC e x y z = #[.string e.place, .int .i64 e.mask, .string e.place, .int .i64 e.mask, .int .i64 e.rsp.code, .int .i64 e.rsp.mx, .bool e.rsp.hide, .string e.rsp.tag, .int .i64 e.rsp.cod, .string e.rsp.body, .int .i64 e.tm, ptrO x, ptrO y, ptrO z] := fun _ _ _ => rfl
  obtain ⟨wA, hwA⟩ : ∃ wA, wA = (w.alloc (.cells #[.string e.place, .int .i64 e.mask] 86)).alloc (.cells #[.string e.place, .int .i64 e.mask, .int .i64 e.rsp.code, .int .i64 e.rsp.mx, .bool e.rsp.hide, .string e.rsp.tag, .int .i64 e.rsp.cod, .string e.rsp.body, .int .i64 e.tm] 48) := ⟨_, rfl⟩
  have hbA : Below w.heap.size w wA := by rw [hwA]; exact ((Below.refl _ _).alloc (Nat.le_refl _) _).alloc (by simp) _
  have hsA : wA.heap.size = w.heap.size + 1 + 1 := by rw [hwA]; simp
  have hA : Chn wA c mb B N L := h.below hbA
  have hk4 : wA.cell? ⟨w.heap.size, 0, none⟩ = some (.string e.place) ∧ wA.cell? ⟨w.heap.size, 1, none⟩ = some (.int .i64 e.mask) := by
    have hh : wA.heap[w.heap.size]? = some (.cells #[.string e.place, .int .i64 e.mask] 86 (0, 0)) := by rw [hwA]; exact (Below.heap_alloc _ _ _ (by simp)).trans (heap_alloc_new w _)
    constructor <;> simp [World.cell?, hh]
  obtain ⟨q0, q1, f0⟩ := ch_facts hA.head
  obtain ⟨D, hD, hK⟩ := hA.map
  obtain ⟨v, ps, hrun, hR⟩ := hD.drew.lookup lawKe (t := 75) Tryz.underlying75 (z := .pointer none) (by kernel_rfl) (zd := .nil) (zp := []) rfl hkey
  rw [(hK.2 e.place e.mask (Nat.le_trans he.place (by decide)) he.wf).2] at hR
  obtain rfl := lkElem_inv hR
  have hcl : c < wA.heap.size := (hA.cs (.inl rfl)).2
  have hml : mb < wA.heap.size := (hA.cs (.inr (.inl rfl))).2
  have hcm := hA.low.2.2
  have hPut := hput wA D hK hA
  clear hR hK h hput
  unfold ptrO at hrun q0
  generalize hz : adO (firstK e.place e.mask L) = z at hrun
  generalize hf : adO (hdB L) = zf at q0
  obtain ⟨wB, hwB⟩ : ∃ wB, wB = wA.alloc (.cells (lkC e none (hdB L) (firstK e.place e.mask L)) 107) := ⟨_, rfl⟩
  rw [← hwB] at hPut
  have HP := Lib.hid hPut
  have HL := Lib.hid hlC
  have hkey' := Lib.hid hkey
  have HA := Lib.hid hA
  have HD := Lib.hid hD
  have HwA := Lib.hid hwA
  have HwB := Lib.hid hwB
  have Hz := Lib.hid hz
  have Hf := Lib.hid hf
  have HbA := Lib.hid hbA
  rw [hwA] at q0 q1 f0 hrun
  rw [heV]
  unfold keV
  obtain ⟨bl, hbl⟩ : ∃ bl, bl = wA.heap.size := ⟨_, rfl⟩
  have hsB : wB.heap.size = wA.heap.size + 1 := by rw [hwB]; simp
  have hbB : Below wA.heap.size wA wB := by rw [hwB]; exact (Below.refl _ _).alloc (Nat.le_refl _) _
  have hnB : wB.heap[wA.heap.size]? = some (lkO e none (hdB L) (firstK e.place e.mask L)) := by rw [hwB]; exact heap_alloc_new wA _
  have hEq : ((w.alloc (.cells #[.string e.place, .int .i64 e.mask] 86)).alloc (.cells #[.string e.place, .int .i64 e.mask, .int .i64 e.rsp.code, .int .i64 e.rsp.mx, .bool e.rsp.hide, .string e.rsp.tag, .int .i64 e.rsp.cod, .string e.rsp.body, .int .i64 e.tm] 48)).alloc
      (.cells #[.string e.place, .int .i64 e.mask, .string e.place, .int .i64 e.mask, .int .i64 e.rsp.code, .int .i64 e.rsp.mx, .bool e.rsp.hide, .string e.rsp.tag, .int .i64 e.rsp.cod, .string e.rsp.body, .int .i64 e.tm, .pointer none, .pointer zf, .pointer z] 107) = wB := by
    rw [hwB, hwA, hlC]; unfold ptrO; rw [hz, hf]; rfl
  have HEq := Lib.hid hEq
  have hBl : bl = w.heap.size + 1 + 1 := hbl.trans hsA
  have HBl := Lib.hid hBl
  have HbB := Lib.hid hbB
  have HsB := Lib.hid hsB
  have HnB := Lib.hid hnB
  have HhA := Lib.hid hA.head
  have Hcm := Lib.hid hcm
  have Hlt := Lib.hid (And.intro hcl hml)
  have Hk4 := Lib.hid hk4
  have HsA := Lib.hid hsA
  have Hbl := Lib.hid hbl
  have HhN := Lib.hid (fun b (hb : hdB L = some b) => show b < wA.heap.size ∧ b ≠ c ∧ b ≠ mb from by
    obtain ⟨x, hx, rfl⟩ := List.mem_map.1 (hdB_mem hb)
    exact ⟨(hA.cs (.inr (.inr (List.mem_map.2 ⟨x, hx, rfl⟩)))).2, (hA.far x hx).2⟩)
  have HhL := Lib.hid (fun b (hb : hdB L = some b) => show ∃ f n t, wA.heap[b]? = some (lkO f none n t) from by
    cases L with
    | nil => cases hb
    | cons x r =>
      obtain ⟨x1, x2⟩ := x
      cases hb
      exact ⟨_, _, _, hA.link (A := [])⟩)
  clear hPut hkey hA hD hwA hwB hlC hz hf heV hbA hk4 hsA hcl hml hbl hsB hbB hnB hEq hcm hBl
  go_enter Tryz.func54, Tryz.ntmps54
  go_wp2
  go_region
  rw [HEq.out, ← HBl.out]
  clear q0 q1 f0 hrun
  obtain ⟨k0, k1⟩ := Hk4.out
  obtain ⟨hcl, hml⟩ := Hlt.out
  have p0 := (HbB.out.cell (p := ⟨w.heap.size, 0, none⟩) (by have := HsA.out; simp; omega)).trans k0
  have p1 := (HbB.out.cell (p := ⟨w.heap.size, 1, none⟩) (by have := HsA.out; simp; omega)).trans k1
  obtain ⟨q0, q1, f0⟩ := ch_facts ((HbB.out.block c hcl).trans HhA.out)
  have hnB := HnB.out
  rw [← Hbl.out] at hnB
  obtain ⟨_, _, r1, r2, r3⟩ := lk_facts hnB
  have hcb : c ≠ bl := by rw [Hbl.out]; omega
  have hPc : w.heap.size ≠ c ∧ w.heap.size ≠ bl := by
    refine ⟨fun ec => ?_, by rw [HBl.out]; omega⟩
    obtain ⟨_, _, _⟩ := ch_facts HhA.out
    have := HhA.out
    rw [← ec] at this
    have k0' := k0
    simp [World.cell?, this, chO, ptrO] at k0'
  have HD2 := Lib.hid (HD.out.kept (grown_of_below HbB.out none) (fun e => by cases e))
  have HP2 : Hid (∀ w2, ((told wB L bl).setCell ⟨c, 0, none⟩ (ptrO (some bl))).grownBy w2 (some mb) → w2.ownsMap Tryz.prog 86 lkElem mb (N + 1) (D.put (keL e.place e.mask) (lkD (some bl))) → PushPost c mb B N L e w (.returned (.tuple #[])) w2) := Lib.hid fun w2 g1 g2 => by
    rw [Hbl.out] at g1 g2
    obtain ⟨h1, h2⟩ := HP.out w2 g1 g2
    exact ⟨rfl, wA.heap.size, HbA.out.size, h1, (only_of_below HbA.out).trans h2⟩
  have hz := Hz.out
  have hf := Hf.out
  cases hh : hdB L with
  | none =>
    rw [hh] at hf r2 q0
    obtain rfl : zf = none := hf.symm
    replace r2 : _ = some (Value.pointer none) := r2
    replace q0 : _ = some (Value.pointer none) := q0
    have htd : told wB L bl = wB := by unfold told; rw [hh]
    rw [htd] at HP2
    obtain ⟨v0, st, w1, w2, e1, e2, o2, g1, g2⟩ := owns_entry (w := (wB.setCell ⟨c, 0, none⟩ (.pointer (some ⟨bl, 0, none⟩))).drew.drew) ((HD2.out.setCell (a := ⟨c, 0, none⟩) (Ne.symm Hcm.out) _).drew.drew) lawKe0 (t := 75) Tryz.underlying75 hN (z := .pointer none) (fun _ => by kernel_rfl) hkey'.out (lkElem_mk (some bl))
    have HF : Hid (PushPost c mb B N L e w (.returned (.tuple #[])) w2) := Lib.hid (HP2.out w2 ⟨g2.os, g2.tape, g2.output, g2.size, g2.block⟩ o2)
    replace e2 : (Instr.entryStore 75 (.map (some mb)) (.int .i64 (st : Int)) (.pointer (some ⟨bl, 0, none⟩))).run Tryz.prog w1 = .ok () w2 := e2
    replace e1 : (Instr.mapEntry 75 (.map (some mb)) (.agg #[.string e.place, .int .i64 e.mask])).run Tryz.prog (wB.setCell ⟨c, 0, none⟩ (.pointer (some ⟨bl, 0, none⟩))).drew.drew = .ok (.tuple #[v0, .int .i64 (st : Int)]) w1 := e1
    clear HP HP2 hh hf hz r1 r3 hnB htd g1 g2 o2 k0 k1 hcl hml
    go_wp2
    go_region
    go_end0
    exact HF.out
  | some b1 =>
    rw [hh] at hf r2 q0
    obtain rfl : zf = some ⟨b1, 0, none⟩ := hf.symm
    replace r2 : _ = some (Value.pointer (some ⟨b1, 0, none⟩)) := r2
    replace q0 : _ = some (Value.pointer (some ⟨b1, 0, none⟩)) := q0
    have htd : told wB L bl = wB.setCell ⟨b1, 11, none⟩ (.pointer (some ⟨bl, 0, none⟩)) := by unfold told; rw [hh]; rfl
    rw [htd] at HP2
    obtain ⟨hb1, hb2, hb3⟩ := HhN.out b1 hh
    obtain ⟨fe, fn, ft, hfe⟩ := HhL.out b1 hh
    have hfB := (HbB.out.block b1 hb1).trans hfe
    obtain ⟨_, _, s1, _, _⟩ := lk_facts hfB
    have s2 := lk_frozen hfB 11
    replace s1 : _ = some (Value.pointer none) := s1
    have hb4 : b1 ≠ bl := by rw [Hbl.out]; omega
    have hb5 : b1 ≠ w.heap.size := fun ec => by
      have hfe' := hfe
      rw [ec] at hfe'
      have := (lk_facts hfe').1.1
      have k1' := (lk_facts hfe').1.2
      rw [k0] at this
      have h3 := (lk_facts hfe').2.1.1
      have hx := HwA.out
      have h2 : wA.heap[w.heap.size]? = some (.cells #[.string e.place, .int .i64 e.mask] 86 (0, 0)) := by rw [hx]; exact (Below.heap_alloc _ _ _ (by simp)).trans (heap_alloc_new w _)
      rw [h2] at hfe'
      simp [lkO, lkC] at hfe'
    obtain ⟨v0, st, w1, w2, e1, e2, o2, g1, g2⟩ := owns_entry (w := ((wB.setCell ⟨b1, 11, none⟩ (.pointer (some ⟨bl, 0, none⟩))).setCell ⟨c, 0, none⟩ (.pointer (some ⟨bl, 0, none⟩))).drew.drew) (((HD2.out.setCell (a := ⟨b1, 11, none⟩) (Ne.symm hb3) _).setCell (a := ⟨c, 0, none⟩) (Ne.symm Hcm.out) _).drew.drew) lawKe0 (t := 75) Tryz.underlying75 hN (z := .pointer none) (fun _ => by kernel_rfl) hkey'.out (lkElem_mk (some bl))
    have HF : Hid (PushPost c mb B N L e w (.returned (.tuple #[])) w2) := Lib.hid (HP2.out w2 ⟨g2.os, g2.tape, g2.output, g2.size, g2.block⟩ o2)
    replace e2 : (Instr.entryStore 75 (.map (some mb)) (.int .i64 (st : Int)) (.pointer (some ⟨bl, 0, none⟩))).run Tryz.prog w1 = .ok () w2 := e2
    replace e1 : (Instr.mapEntry 75 (.map (some mb)) (.agg #[.string e.place, .int .i64 e.mask])).run Tryz.prog ((wB.setCell ⟨b1, 11, none⟩ (.pointer (some ⟨bl, 0, none⟩))).setCell ⟨c, 0, none⟩ (.pointer (some ⟨bl, 0, none⟩))).drew.drew = .ok (.tuple #[v0, .int .i64 (st : Int)]) w1 := e1
    have hb2' := Ne.symm hb2
    have hb5' := Ne.symm hb5
    clear HP HP2 hh hf hz r1 r3 hnB htd g1 g2 o2 k0 k1 hcl hml hfe hfB HhN HhL HwA HwB
    go_wp2
    go_region
    go_end0
    exact HF.out
end Go.Proofs.YtbhnjnoblkfckaaGreatDoor

