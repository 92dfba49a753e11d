/- Places: their plainest form, on lists of bytes; no walk. -/
import Derived.Test.YthmljebpjohibaaDoorMeans
import Derived.Test.YthmljebpjohibaaDoorParts
import Derived.Test.YthmljebpjohibaaDoorTok
namespace Go.Proofs.YthmljebpjohibaaDoor
open Go.RowKit

def freeB (c : UInt8) : Bool := isSmall c || isGreat c || c == 95 || c == 126 || c == 46
def doubtB (n : Nat) : Bool := n == 46 || n == 47 || n == 63 || n == 37 || n == 38 || n == 61
def hexU (k : Nat) : UInt8 := if k < 10 then UInt8.ofNat (48 + k) else UInt8.ofNat (55 + k)
def upperL (n : Nat) : List UInt8 := [37, hexU (n / 16), hexU (n % 16)]
def putC (n : Nat) : List UInt8 := if freeB (UInt8.ofNat n) = true then [UInt8.ofNat n] else upperL n
def okLit (asks : Bool) (c : UInt8) : Bool := freeB c || (c == 47 && !asks) || (asks && (c == 61 || c == 38))

/-- A path, or what is asked, in its plainest form. -/
def plainL (asks : Bool) : List UInt8 → Option (List UInt8)
  | [] => some []
  | c :: l => match codeL (c :: l) with
    | some n => if doubtB n = true then none else (plainL asks (l.drop 2)).map (putC n ++ ·)
    | none => if okLit asks c = true then (plainL asks l).map (c :: ·) else none
termination_by l => l.length
decreasing_by
  · simp; omega
  · simp

theorem plainL_nil (asks : Bool) : plainL asks [] = some [] := by rw [plainL]
theorem plainL_code {asks : Bool} {c : UInt8} {l : List UInt8} {n : Nat} (h : codeL (c :: l) = some n) : plainL asks (c :: l) = if doubtB n = true then none else (plainL asks (l.drop 2)).map (putC n ++ ·) := by rw [plainL]; rw [h]
theorem plainL_lit {asks : Bool} {c : UInt8} {l : List UInt8} (h : codeL (c :: l) = none) : plainL asks (c :: l) = if okLit asks c = true then (plainL asks l).map (c :: ·) else none := by rw [plainL]; rw [h]
theorem okLit_37 (asks : Bool) : okLit asks 37 = false := by cases asks <;> decide
theorem plainL_bad {asks : Bool} {l : List UInt8} (h : codeL (37 :: l) = none) : plainL asks (37 :: l) = none := by rw [plainL_lit h, okLit_37]; rfl
theorem codeL_head {c : UInt8} {l : List UInt8} {n : Nat} (h : codeL (c :: l) = some n) : c = 37 := by
  rcases Decidable.em (c = 37) with e | e
  · exact e
  · rw [codeL_ne e] at h; cases h

def isDots (l : List UInt8) : Bool := l == [46] || l == [46, 46]
def segsOk : List (List UInt8) → Bool
  | [] => true
  | [a] => !isDots a
  | a :: b :: rest => !isDots a && !a.isEmpty && segsOk (b :: rest)
def dotL (l : List UInt8) : Bool := isDots (cutL l 63).1

theorem cutL_cons {b c : UInt8} {l : List UInt8} (h : b ≠ c) : cutL (b :: l) c = (b :: (cutL l c).1, (cutL l c).2.1, (cutL l c).2.2) := by
  conv => lhs; unfold cutL
  rw [if_neg h]
theorem cutL_hit (c : UInt8) (l : List UInt8) : cutL (c :: l) c = ([], l, true) := by unfold cutL; rw [if_pos rfl]
theorem partsL_app (cur l : List UInt8) (h : 47 ∉ cur) : partsL (cur ++ 47 :: l) 47 = cur :: partsL l 47 := by
  rw [partsL_cut, cutL_yes _ _ _ h]; rfl
theorem partsL_one (cur : List UInt8) (h : 47 ∉ cur) : partsL cur 47 = [cur] := by
  rw [partsL_cut, cutL_no _ _ h]; rfl
theorem segsOk_cons (a : List UInt8) (l : List UInt8) : segsOk (a :: partsL l 47) = (!isDots a && !a.isEmpty && segsOk (partsL l 47)) := by
  cases h : partsL l 47 with
  | nil => exact absurd h (partsL_ne _ _)
  | cons b r => rfl

/-- What becomes of the rest of a place behind the form ys, whose last part begins at seg, in the path. -/
def resP (ys : List UInt8) (seg : Nat) (l : List UInt8) : Option (List UInt8) :=
  match plainL false (cutL l 63).1 with
  | none => none
  | some o => if segsOk (partsL (ys.drop seg ++ o) 47) = true then (if (cutL l 63).2.2 = true then (plainL true (cutL l 63).2.1).map (fun m => ys ++ o ++ 63 :: m) else some (ys ++ o)) else none
/-- The same, behind the sign of what is asked. -/
def resQ (ys : List UInt8) (seg : Nat) (l : List UInt8) : Option (List UInt8) := if dotL (ys.drop seg) = true then none else (plainL true l).map (ys ++ ·)
def rootR : List UInt8 → Option (List UInt8)
  | [] => none
  | c :: l => if c = 47 then resP [47] 1 l else none
def canonL (l : List UInt8) : Option (List UInt8) := if l.length = 0 ∨ 40 < l.length then none else rootR l

structure POk (ys : List UInt8) (seg : Nat) : Prop where
  le : seg ≤ ys.length
  ne : 0 < ys.length
  sl : 47 ∉ ys.drop seg
  qm : 63 ∉ ys.drop seg
structure QOk (ys : List UInt8) (seg : Nat) : Prop where
  le : seg ≤ ys.length
  ne : 0 < ys.length
  qm : ∃ cur m, ys.drop seg = cur ++ 63 :: m ∧ 63 ∉ cur

theorem POk.app {ys : List UInt8} {seg : Nat} (h : POk ys seg) (xs : List UInt8) (h1 : 47 ∉ xs) (h2 : 63 ∉ xs) : POk (ys ++ xs) seg := by
  have e : (ys ++ xs).drop seg = ys.drop seg ++ xs := List.drop_append_of_le_length h.le
  exact ⟨by have := h.le; simp; omega, by have := h.ne; simp; omega, by rw [e]; simp [h.sl, h1], by rw [e]; simp [h.qm, h2]⟩
theorem POk.slash {ys : List UInt8} (__h : 0 < ys.length) : POk (ys ++ [47]) (ys.length + 1) :=
  ⟨by simp, by simp, by simp, by simp⟩
theorem POk.ask {ys : List UInt8} {seg : Nat} (h : POk ys seg) : QOk (ys ++ [63]) seg :=
  ⟨by have := h.le; simp; omega, by simp, ys.drop seg, [], List.drop_append_of_le_length h.le, h.qm⟩
theorem QOk.app {ys : List UInt8} {seg : Nat} (h : QOk ys seg) (xs : List UInt8) : QOk (ys ++ xs) seg := by
  have e : (ys ++ xs).drop seg = ys.drop seg ++ xs := List.drop_append_of_le_length h.le
  obtain ⟨cur, m, h1, h2⟩ := h.qm
  exact ⟨by have := h.le; simp; omega, by have := h.ne; simp; omega, cur, m ++ xs, by rw [e, h1]; simp, h2⟩
theorem QOk.dot {ys : List UInt8} {seg : Nat} (h : QOk ys seg) (xs : List UInt8) : dotL ((ys ++ xs).drop seg) = dotL (ys.drop seg) := by
  obtain ⟨cur, m, h1, h2⟩ := h.qm
  rw [List.drop_append_of_le_length h.le, h1]
  unfold dotL
  rw [cutL_yes _ _ _ h2, List.append_assoc, List.cons_append, cutL_yes _ _ _ h2]
theorem POk.dot {ys : List UInt8} {seg : Nat} (h : POk ys seg) : dotL (ys.drop seg) = isDots (ys.drop seg) := by
  unfold dotL; rw [cutL_no _ _ h.qm]

theorem resP_slash {ys : List UInt8} {seg : Nat} {l : List UInt8} (h : POk ys seg) : resP ys seg (47 :: l) = if (!dotL (ys.drop seg) && !(ys.drop seg).isEmpty) = true then resP (ys ++ [47]) (ys.length + 1) l else none := by
  rw [h.dot]
  unfold resP
  rw [cutL_cons (by decide), plainL_lit (codeL_ne (by decide))]
  have e0 : (ys ++ [47]).drop (ys.length + 1) = [] := by simp
  simp only [show okLit false 47 = true from by decide, if_true, e0, List.nil_append]
  cases hp : plainL false (cutL l 63).1 with
  | none => simp
  | some o =>
    simp only [Option.map_some]
    rw [partsL_app _ _ h.sl, segsOk_cons]
    cases h1 : (!isDots (ys.drop seg) && !(ys.drop seg).isEmpty)
    · simp
    · simp
theorem resP_ask {ys : List UInt8} {seg : Nat} {l : List UInt8} (h : POk ys seg) : resP ys seg (63 :: l) = resQ (ys ++ [63]) seg l := by
  unfold resP resQ
  obtain ⟨cur, hc⟩ : ∃ cur, cur = ys.drop seg := ⟨_, rfl⟩
  rw [cutL_hit, plainL_nil, List.drop_append_of_le_length h.le, ← hc]
  have h2 : 63 ∉ cur := hc ▸ h.qm
  have h1 : 47 ∉ cur := hc ▸ h.sl
  have e : dotL (cur ++ [63]) = isDots cur := by unfold dotL; rw [cutL_yes _ _ _ h2]
  simp only [List.append_nil]
  rw [partsL_one _ h1, e]
  have es : segsOk [cur] = !isDots cur := rfl
  rw [es]
  cases isDots cur
  · simp
  · simp
theorem resP_lit {ys : List UInt8} {seg : Nat} {l : List UInt8} {c : UInt8} (h : POk ys seg) (h1 : c ≠ 37) (h2 : c ≠ 63) (h3 : c ≠ 47) : resP ys seg (c :: l) = if freeB c = true then resP (ys ++ [c]) seg l else none := by
  unfold resP
  rw [cutL_cons h2, plainL_lit (codeL_ne h1), List.drop_append_of_le_length h.le]
  have e : okLit false c = freeB c := by unfold okLit; simp [h3]
  rw [e]
  cases freeB c
  · simp
  · simp only [if_true]
    cases hp : plainL false (cutL l 63).1 with
    | none => simp
    | some o => simp
theorem resP_bad1 {ys : List UInt8} {seg : Nat} {l : List UInt8} {c : UInt8} (h1 : hexV c = none) : resP ys seg (37 :: c :: l) = none := by
  unfold resP
  rw [cutL_cons (by decide)]
  have : plainL false (37 :: (cutL (c :: l) 63).1) = none := by
    apply plainL_bad
    by_cases h : c = 63
    · subst h; rw [cutL_hit]; rfl
    · rw [cutL_cons h]; exact codeL_37_none h1
  simp only [this]
theorem hex_ne {a c : UInt8} {x : Nat} (h : hexV a = some x) (hc : hexV c = none) : a ≠ c := by rintro rfl; rw [h] at hc; cases hc
theorem resP_bad2 {ys : List UInt8} {seg : Nat} {l : List UInt8} {a c : UInt8} {x : Nat} (ha : hexV a = some x) (h1 : hexV c = none) : resP ys seg (37 :: a :: c :: l) = none := by
  unfold resP
  rw [cutL_cons (by decide), cutL_cons (hex_ne ha (by decide))]
  have : plainL false (37 :: a :: (cutL (c :: l) 63).1) = none := by
    apply plainL_bad
    by_cases h : c = 63
    · subst h; rw [cutL_hit]; rfl
    · rw [cutL_cons h]; exact codeL_37_none2 h1
  simp only [this]
theorem resP_code {ys : List UInt8} {seg : Nat} {l : List UInt8} {a c : UInt8} {x y : Nat} (h : POk ys seg) (ha : hexV a = some x) (hc : hexV c = some y) :
    resP ys seg (37 :: a :: c :: l) = if doubtB (x * 16 + y) = true then none else resP (ys ++ putC (x * 16 + y)) seg l := by
  unfold resP
  rw [cutL_cons (by decide), cutL_cons (hex_ne ha (by decide)), cutL_cons (hex_ne hc (by decide)), plainL_code (codeL_37_some ha hc), List.drop_append_of_le_length h.le]
  cases doubtB (x * 16 + y)
  · simp only [Bool.false_eq_true, if_false]
    have e : List.drop 2 (a :: c :: (cutL l 63).1) = (cutL l 63).1 := rfl
    rw [e]
    cases hp : plainL false (cutL l 63).1 with
    | none => simp
    | some o => simp
  · simp
theorem resQ_lit {ys : List UInt8} {seg : Nat} {l : List UInt8} {c : UInt8} (h : QOk ys seg) (h1 : c ≠ 37) : resQ ys seg (c :: l) = if okLit true c = true then resQ (ys ++ [c]) seg l else none := by
  unfold resQ
  rw [plainL_lit (codeL_ne h1), h.dot]
  cases okLit true c
  · simp
  · cases dotL (ys.drop seg)
    · simp only [if_true, Bool.false_eq_true, if_false, Option.map_map]
      congr 1; funext m; simp
    · simp
theorem resQ_bad1 {ys : List UInt8} {seg : Nat} {l : List UInt8} {c : UInt8} (h1 : hexV c = none) : resQ ys seg (37 :: c :: l) = none := by
  unfold resQ
  rw [plainL_bad (codeL_37_none h1)]; simp
theorem resQ_bad2 {ys : List UInt8} {seg : Nat} {l : List UInt8} {a c : UInt8} (h1 : hexV c = none) : resQ ys seg (37 :: a :: c :: l) = none := by
  unfold resQ
  rw [plainL_bad (codeL_37_none2 h1)]; simp
theorem resQ_code {ys : List UInt8} {seg : Nat} {l : List UInt8} {a c : UInt8} {x y : Nat} (h : QOk ys seg) (ha : hexV a = some x) (hc : hexV c = some y) :
    resQ ys seg (37 :: a :: c :: l) = if doubtB (x * 16 + y) = true then none else resQ (ys ++ putC (x * 16 + y)) seg l := by
  unfold resQ
  rw [plainL_code (codeL_37_some ha hc), h.dot]
  cases doubtB (x * 16 + y)
  · cases dotL (ys.drop seg)
    · simp only [Bool.false_eq_true, if_false, Option.map_map]
      have e : List.drop 2 (a :: c :: l) = l := rfl
      rw [e]
      congr 1; funext m; simp
    · simp
  · simp
theorem resP_end {ys : List UInt8} {seg : Nat} (h : POk ys seg) : resP ys seg [] = if dotL (ys.drop seg) = true then none else some ys := by
  rw [h.dot]
  unfold resP
  rw [show cutL [] 63 = ([], [], false) from rfl]
  simp only [plainL_nil, List.append_nil]
  rw [partsL_one _ h.sl]
  have es : segsOk [ys.drop seg] = !isDots (ys.drop seg) := rfl
  rw [es]
  cases isDots (ys.drop seg) <;> simp
theorem resQ_end {ys : List UInt8} {seg : Nat} : resQ ys seg [] = if dotL (ys.drop seg) = true then none else some ys := by
  unfold resQ; rw [plainL_nil]; simp
end Go.Proofs.YthmljebpjohibaaDoor
