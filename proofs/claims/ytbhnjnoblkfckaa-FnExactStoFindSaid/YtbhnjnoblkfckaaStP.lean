/- Storage: what is kept, and what is done with it, as lists; no function of the program. -/
import Derived.Test.YtbhnjnoblkfckaaRp
import Derived.Test.YtbhnjnoblkfckaaUnder
namespace Go.Proofs.Ytbhnjnoblkfckaa
open Go.RowKit

/-- What is kept: for which place and codings, what, and when it was got. -/
structure En where
  place : ByteArray
  mask : Int
  rsp : Rp
  tm : Int
def noEn : En := ⟨⟨#[]⟩, 0, noRp, 0⟩
def enL (e : En) : List Value := [.string e.place, .int .i64 e.mask, .int .i64 e.rsp.code, .int .i64 e.rsp.mx, .bool e.rsp.hide, .string e.rsp.tag, .int .i64 e.rsp.cod, .string e.rsp.body, .int .i64 e.tm]
def enV (e : En) : Value := .agg #[.string e.place, .int .i64 e.mask, .int .i64 e.rsp.code, .int .i64 e.rsp.mx, .bool e.rsp.hide, .string e.rsp.tag, .int .i64 e.rsp.cod, .string e.rsp.body, .int .i64 e.tm]
def keV (e : En) : Value := .agg #[.string e.place, .int .i64 e.mask]
/-- For such a place and codings. -/
def isK (p : ByteArray) (m : Int) (e : En) : Bool := decide (e.place = p) && decide (e.mask = m)
def sizeE (e : En) : Nat := e.place.size + e.rsp.tag.size + e.rsp.body.size
def bytesE (L : List En) : Nat := (L.map sizeE).sum
def findE (L : List En) (p : ByteArray) (m : Int) : Option Nat := L.findIdx? (isK p m)
def outE (L : List En) (p : ByteArray) (m : Int) : List En := L.eraseP (isK p m)
def useE (L : List En) (i : Int) : List En := if 0 ≤ i then (match L[i.toNat]? with | some e => e :: L.eraseIdx i.toNat | none => L) else L
def goneB (path : List UInt8) (under : Bool) (e : En) : Bool := decide (pathL e.place.data.toList = path) || (under && underB path e.place.data.toList)
def dropE (L : List En) (path : List UInt8) (under : Bool) : List En := L.filter fun e => !goneB path under e
def goneN (L : List En) (path : List UInt8) (under : Bool) : Nat := L.countP (goneB path under)

/-- No text of it is longer than that, and its codings are a number of an int's kind. -/
structure EnOk (N : Nat) (e : En) : Prop where
  place : e.place.size ≤ N
  tag : e.rsp.tag.size ≤ N
  body : e.rsp.body.size ≤ N
  wf : (Lit.int .i64 e.mask).wf = true
def EnsOk (N : Nat) (L : List En) : Prop := ∀ e ∈ L, EnOk N e

theorem isK_iff {p : ByteArray} {m : Int} {e : En} : isK p m e = true ↔ e.place = p ∧ e.mask = m := by simp [isK]
theorem isK_self (e : En) : isK e.place e.mask e = true := isK_iff.2 ⟨rfl, rfl⟩
theorem isK_comm (a b : En) : isK a.place a.mask b = isK b.place b.mask a := by
  rw [Bool.eq_iff_iff, isK_iff, isK_iff]
  exact ⟨fun ⟨x, y⟩ => ⟨x.symm, y.symm⟩, fun ⟨x, y⟩ => ⟨x.symm, y.symm⟩⟩
theorem isK_trans {a b : En} (h : isK a.place a.mask b = true) : ∀ c, isK a.place a.mask c = isK b.place b.mask c := fun c => by
  obtain ⟨h1, h2⟩ := isK_iff.1 h
  rw [h1, h2]
theorem bytesE_cons (e : En) (L : List En) : bytesE (e :: L) = sizeE e + bytesE L := by simp [bytesE]
theorem bytesE_append (L M : List En) : bytesE (L ++ M) = bytesE L + bytesE M := by simp [bytesE]

/-! ### links, as they lead to each other -/
/-- The first link for such a place and codings. -/
def firstK (p : ByteArray) (m : Int) (L : List (Nat × En)) : Option Nat := (L.find? fun x => isK p m x.2).map (·.1)
def hdB (L : List (Nat × En)) : Option Nat := L.head?.map (·.1)
def endB (p : Option Nat) : List (Nat × En) → Option Nat
  | [] => p
  | x :: r => endB (some x.1) r
/-- The last link for such a place and codings. -/
def endK (p : ByteArray) (m : Int) : List (Nat × En) → Option Nat
  | [] => none
  | x :: r => match endK p m r with | some b => some b | none => if isK p m x.2 = true then some x.1 else none
def Lk (ah nx tw : Nat → Option Nat) : Option Nat → List (Nat × En) → Prop
  | _, [] => True
  | p, (b, e) :: r => ah b = p ∧ nx b = hdB r ∧ tw b = firstK e.place e.mask r ∧ Lk ah nx tw (some b) r

theorem Lk.congr {ah nx tw ah' nx' tw' : Nat → Option Nat} : ∀ {L : List (Nat × En)} {p : Option Nat}, Lk ah nx tw p L → (∀ x ∈ L.map (·.1), ah' x = ah x ∧ nx' x = nx x ∧ tw' x = tw x) → Lk ah' nx' tw' p L
  | [], _, _, _ => trivial
  | (b, e) :: r, p, h, hc => by
    obtain ⟨h1, h2, h3, h4⟩ := h
    obtain ⟨c1, c2, c3⟩ := hc b (by simp)
    exact ⟨c1.trans h1, c2.trans h2, c3.trans h3, Lk.congr h4 fun x hx => hc x (by simp at hx ⊢; exact .inr hx)⟩

theorem firstK_append (p : ByteArray) (m : Int) (A B : List (Nat × En)) : firstK p m (A ++ B) = (firstK p m A).or (firstK p m B) := by
  unfold firstK
  rw [List.find?_append]
  cases A.find? fun x => isK p m x.2 <;> simp
theorem firstK_cons (p : ByteArray) (m : Int) (x : Nat × En) (B : List (Nat × En)) : firstK p m (x :: B) = if isK p m x.2 = true then some x.1 else firstK p m B := by
  unfold firstK
  rw [List.find?_cons]
  cases isK p m x.2 <;> simp
theorem firstK_none {p : ByteArray} {m : Int} {L : List (Nat × En)} : firstK p m L = none ↔ ∀ x ∈ L, isK p m x.2 = false := by
  simp [firstK]
theorem endK_cons (p : ByteArray) (m : Int) (x : Nat × En) (r : List (Nat × En)) : endK p m (x :: r) = match endK p m r with | some b => some b | none => if isK p m x.2 = true then some x.1 else none := rfl
theorem endK_none {p : ByteArray} {m : Int} : ∀ {L : List (Nat × En)}, endK p m L = none ↔ ∀ x ∈ L, isK p m x.2 = false
  | [] => by simp [endK]
  | x :: r => by
    have ih := endK_none (p := p) (m := m) (L := r)
    unfold endK
    cases h : endK p m r with
    | some b =>
      simp only [reduceCtorEq, false_iff]
      intro hc
      have := ih.2 fun y hy => hc y (List.mem_cons_of_mem _ hy)
      rw [h] at this; cases this
    | none =>
      have h0 := ih.1 h
      cases hx : isK p m x.2 with
      | true =>
        simp only [if_true, reduceCtorEq, false_iff]
        intro hc
        have := hc x (List.mem_cons_self ..)
        rw [hx] at this; cases this
      | false =>
        simp only [Bool.false_eq_true, if_false, true_iff]
        intro y hy
        rcases List.mem_cons.1 hy with rfl | hy
        · exact hx
        · exact h0 y hy
theorem endK_mem {p : ByteArray} {m : Int} : ∀ {L : List (Nat × En)} {b : Nat}, endK p m L = some b → b ∈ L.map (·.1)
  | [], _, h => by cases h
  | x :: r, b, h => by
    unfold endK at h
    cases hr : endK p m r with
    | some c =>
      rw [hr] at h
      cases h
      simp only [List.map_cons, List.mem_cons]
      exact .inr (endK_mem hr)
    | none =>
      rw [hr] at h
      simp only at h
      split at h
      · cases h; simp
      · cases h
theorem endB_mem : ∀ {L : List (Nat × En)} {b : Nat}, endB none L = some b → b ∈ L.map (·.1)
  | [], _, h => by cases h
  | [x], b, h => by simp [endB] at h; simp [h]
  | x :: y :: r, b, h => by
    have : b ∈ (y :: r).map (·.1) := endB_mem (L := y :: r) h
    simp only [List.map_cons, List.mem_cons] at this ⊢
    exact .inr this
theorem endB_cons (p : Option Nat) (x : Nat × En) (r : List (Nat × En)) : endB p (x :: r) = (endB none (x :: r)) := rfl
theorem hdB_mem {L : List (Nat × En)} {b : Nat} (h : hdB L = some b) : b ∈ L.map (·.1) := by
  cases L with
  | nil => cases h
  | cons x r => simp [hdB] at h; simp [h]

/-- What is left behind a link's going. -/
theorem lk_remove {ah nx tw ah' nx' tw' : Nat → Option Nat} {b : Nat} {e : En} {B : List (Nat × En)} : ∀ {A : List (Nat × En)} {p : Option Nat}, ((A ++ (b, e) :: B).map (·.1)).Nodup → Lk ah nx tw p (A ++ (b, e) :: B) →
    (∀ x ∈ A.map (·.1), ah' x = ah x) → (∀ x ∈ B.map (·.1), ah' x = if hdB B = some x then endB p A else ah x) →
    (∀ x ∈ A.map (·.1), nx' x = if endB none A = some x then hdB B else nx x) → (∀ x ∈ B.map (·.1), nx' x = nx x) →
    (∀ x ∈ A.map (·.1), tw' x = if endK e.place e.mask A = some x then tw b else tw x) → (∀ x ∈ B.map (·.1), tw' x = tw x) → Lk ah' nx' tw' p (A ++ B)
  | [], p, hn, h, _, h1, _, h2, _, h3 => by
    obtain ⟨_, _, _, h4⟩ := h
    cases B with
    | nil => trivial
    | cons y r =>
      obtain ⟨c, f⟩ := y
      obtain ⟨k1, k2, k3, k4⟩ := h4
      simp only [List.nil_append, List.map_cons, List.nodup_cons, List.mem_cons, not_or] at hn
      have m0 : c ∈ ((c, f) :: r).map (·.1) := by simp
      refine ⟨?_, (h2 c m0).trans k2, (h3 c m0).trans k3, k4.congr fun x hx => ?_⟩
      · rw [h1 c m0, if_pos (by simp [hdB])]; rfl
      · have mx : x ∈ ((c, f) :: r).map (·.1) := by simp at hx ⊢; exact .inr hx
        refine ⟨?_, h2 x mx, h3 x mx⟩
        rw [h1 x mx, if_neg]
        intro e'
        have : c = x := by simpa [hdB] using e'
        subst this
        exact hn.2.1 hx
  | (a, f) :: A, p, hn, h, g1, h1, g2, h2, g3, h3 => by
    obtain ⟨k1, k2, k3, k4⟩ := h
    replace k2 : nx a = hdB (A ++ (b, e) :: B) := k2
    replace k3 : tw a = firstK f.place f.mask (A ++ (b, e) :: B) := k3
    replace k4 : Lk ah nx tw (some a) (A ++ (b, e) :: B) := k4
    simp only [List.cons_append, List.map_cons, List.nodup_cons] at hn
    obtain ⟨hna, hn⟩ := hn
    have ma : a ∈ ((a, f) :: A).map (·.1) := by simp
    have haA : a ∉ A.map (·.1) := fun hx => hna (by rw [List.map_append]; exact List.mem_append_left _ hx)
    have haB : a ∉ B.map (·.1) := fun hx => hna (by rw [List.map_append]; exact List.mem_append_right _ (by simp at hx ⊢; exact .inr hx))
    have memA : ∀ x ∈ A.map (·.1), x ∈ ((a, f) :: A).map (·.1) := fun x hx => by simp at hx ⊢; exact .inr hx
    have neA : ∀ x ∈ A.map (·.1), x ≠ a := fun x hx e' => haA (e' ▸ hx)
    refine ⟨(g1 a ma).trans k1, ?_, ?_, ?_⟩
    · show nx' a = hdB (A ++ B)
      rw [g2 a ma]
      cases A with
      | nil => simp [endB, hdB]
      | cons y A' =>
        rw [if_neg, k2]
        · simp [hdB]
        · intro e'
          exact haA (endB_mem (L := y :: A') e')
    · show tw' a = firstK f.place f.mask (A ++ B)
      rw [g3 a ma, k3, firstK_append, firstK_append, firstK_cons, endK_cons]
      cases hl : endK e.place e.mask A with
      | some x =>
        simp only
        rw [if_neg (fun e' => by cases e'; exact haA (endK_mem hl))]
        cases hk : isK f.place f.mask e with
        | false => simp
        | true =>
          have e1 : ∀ c, isK f.place f.mask c = isK e.place e.mask c := isK_trans hk
          cases hf : firstK f.place f.mask A with
          | some y => simp
          | none =>
            exfalso
            have := (endK_none (p := e.place) (m := e.mask)).2 fun y hy => by rw [← e1]; exact firstK_none.1 hf y hy
            rw [hl] at this; cases this
      | none =>
        simp only
        have h0 := endK_none.1 hl
        cases hk : isK e.place e.mask f with
        | false =>
          simp only [Bool.false_eq_true, if_false]
          have : isK f.place f.mask e = false := by rw [isK_comm]; exact hk
          simp [this]
        | true =>
          simp only [if_true]
          have e1 : ∀ c, isK e.place e.mask c = isK f.place f.mask c := isK_trans hk
          have hf : firstK f.place f.mask A = none := firstK_none.2 fun y hy => by rw [← e1]; exact h0 y hy
          have h4 := k4
          have : tw b = firstK e.place e.mask B := by
            clear k1 k2 k3 g1 g2 g3 h1 h2 h3 hn hna ma haA haB memA neA hl h0 hf k4
            generalize some a = q at h4
            induction A generalizing q with
            | nil => exact h4.2.2.1
            | cons y A' ih => exact ih _ h4.2.2.2
          rw [hf, this]
          obtain ⟨i1, i2⟩ := isK_iff.1 hk
          rw [i1, i2]; simp
    · refine lk_remove (A := A) hn k4 (fun x hx => g1 x (memA x hx)) h1 (fun x hx => ?_) h2 (fun x hx => ?_) h3
      · rw [g2 x (memA x hx)]
        cases A with
        | nil => simp at hx
        | cons y A' => rfl
      · rw [g3 x (memA x hx), endK_cons]
        cases hl : endK e.place e.mask A with
        | some y => rfl
        | none =>
          simp only
          split
          · rw [if_neg (fun e' => neA x hx (by cases e'; rfl)), if_neg (by simp)]
          · rfl
/-- A link more, ahead of all. -/
theorem lk_push {ah nx tw ah' nx' tw' : Nat → Option Nat} {b : Nat} {e : En} {L : List (Nat × En)} (hn : (L.map (·.1)).Nodup) (hb : b ∉ L.map (·.1)) (h : Lk ah nx tw none L)
    (h1 : ah' b = none) (h2 : nx' b = hdB L) (h3 : tw' b = firstK e.place e.mask L) (g1 : ∀ x ∈ L.map (·.1), ah' x = if hdB L = some x then some b else ah x) (g2 : ∀ x ∈ L.map (·.1), nx' x = nx x) (g3 : ∀ x ∈ L.map (·.1), tw' x = tw x) :
    Lk ah' nx' tw' none ((b, e) :: L) := by
  refine ⟨h1, h2, h3, ?_⟩
  cases L with
  | nil => trivial
  | cons y r =>
    obtain ⟨c, f⟩ := y
    obtain ⟨k1, k2, k3, k4⟩ := h
    simp only [List.map_cons, List.nodup_cons] at hn
    have m0 : c ∈ ((c, f) :: r).map (·.1) := by simp
    refine ⟨by rw [g1 c m0, if_pos (by simp [hdB])], (g2 c m0).trans k2, (g3 c m0).trans k3, k4.congr fun x hx => ?_⟩
    have mx : x ∈ ((c, f) :: r).map (·.1) := by simp at hx ⊢; exact .inr hx
    refine ⟨?_, g2 x mx, g3 x mx⟩
    rw [g1 x mx, if_neg]
    intro e'
    have : c = x := by simpa [hdB] using e'
    subst this
    exact hn.1 hx
/-- What a link in the midst leads to. -/
theorem lk_at {ah nx tw : Nat → Option Nat} {b : Nat} {e : En} {B : List (Nat × En)} : ∀ {A : List (Nat × En)} {p : Option Nat}, Lk ah nx tw p (A ++ (b, e) :: B) → ah b = endB p A ∧ nx b = hdB B ∧ tw b = firstK e.place e.mask B
  | [], _, h => ⟨h.1, h.2.1, h.2.2.1⟩
  | _ :: A, _, h => lk_at (A := A) h.2.2.2
end Go.Proofs.Ytbhnjnoblkfckaa
