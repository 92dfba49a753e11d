import Derived.Test.YtbhnjnoblkfckabGreatDoorGA01
import Derived.Test.YtbhnjnoblkfckabGreatDoorGA00
import Derived.Lib.Strings
import Derived.Maps.OwnRows
import Derived.Maps.Views
import Derived.Test.YtbhnjnoblkfckabGreatDoorRows
import Derived.Test.YtbhnjnoblkfckabGreatDoorShelf
import Derived.WalkKit
import Derived.WalkSpells
import Derived.WalkLawsBesides
import Derived.BigQuiet
import Derived.Deep.RegionLaw
import Derived.Deep.AppendLies
import Derived.Lib.Hide
-- from XMeans
/- Places: the bytes that a place means: the machine that takes it byte by byte, and its model. -/
namespace Go.Proofs.YtbhnjnoblkfckabGreatDoor
open Go.RowKit

/-- The bytes that a text means: each code replaced by its byte. -/
def meansL : List UInt8 → List UInt8
  | [] => []
  | c :: l => match codeL (c :: l) with
    | some n => UInt8.ofNat n :: meansL (l.drop 2)
    | none => c :: meansL l
termination_by l => l.length
decreasing_by
  · simp; omega
  · simp

theorem meansL_nil : meansL [] = [] := by rw [meansL]
theorem meansL_none {c : UInt8} {l : List UInt8} (h : codeL (c :: l) = none) : meansL (c :: l) = c :: meansL l := by rw [meansL]; rw [h]
theorem meansL_some {c : UInt8} {l : List UInt8} {n : Nat} (h : codeL (c :: l) = some n) : meansL (c :: l) = UInt8.ofNat n :: meansL (l.drop 2) := by rw [meansL]; rw [h]
theorem meansL_len (l : List UInt8) : (meansL l).length ≤ l.length := by
  induction h : l.length using Nat.strongRecOn generalizing l with
  | _ n ih =>
    subst h
    match l with
    | [] => rw [meansL_nil]; simp
    | c :: l =>
      cases hc : codeL (c :: l) with
      | none => rw [meansL_none hc]; have := ih l.length (by simp) l rfl; simp; omega
      | some m => rw [meansL_some hc]; have := ih (l.drop 2).length (by simp; omega) (l.drop 2) rfl; simp at this ⊢; omega

theorem codeL_two {a b : UInt8} {l : List UInt8} : codeL (37 :: a :: b :: l) = match hexV a, hexV b with | some x, some y => some (x * 16 + y) | _, _ => none := by unfold codeL; simp only [if_true]; try rfl
theorem codeL_37_none {a : UInt8} {l : List UInt8} (h : hexV a = none) : codeL (37 :: a :: l) = none := by
  match l with
  | [] => rfl
  | b :: l => rw [codeL_two, h]
theorem codeL_37_none2 {a b : UInt8} {l : List UInt8} (h : hexV b = none) : codeL (37 :: a :: b :: l) = none := by
  rw [codeL_two, h]; cases hexV a <;> rfl
theorem codeL_37_some {a b : UInt8} {l : List UInt8} {x y : Nat} (h : hexV a = some x) (h2 : hexV b = some y) : codeL (37 :: a :: b :: l) = some (x * 16 + y) := by
  rw [codeL_two, h, h2]
theorem codeL_lt {l : List UInt8} {n : Nat} (h : codeL l = some n) : n < 256 := by
  match l, h with
  | c :: a :: b :: l, h =>
    by_cases hc : c = 37
    · subst hc
      rw [codeL_two] at h
      cases ha : hexV a with
      | none => rw [ha] at h; cases h
      | some x =>
        cases hb : hexV b with
        | none => rw [ha, hb] at h; cases h
        | some y =>
          rw [ha, hb] at h
          have := hexV_lt ha; have := hexV_lt hb; have := Option.some.inj h; omega
    · rw [codeL_ne hc] at h; cases h
  | [], h => cases h
  | [_], h => cases h
  | [_, _], h => cases h
theorem hex_ne_37 {a : UInt8} {x : Nat} (h : hexV a = some x) : a ≠ 37 := by rintro rfl; rw [hexV_37] at h; cases h

end Go.Proofs.YtbhnjnoblkfckabGreatDoor

-- from XCanL
/- Places: their plainest form, on lists of bytes; no walk. -/
namespace Go.Proofs.YtbhnjnoblkfckabGreatDoor
open Go.RowKit

def freeB (c : UInt8) : Bool := isSmall c || isGreat c || c == 95 || c == 126 || c == 46
def doubtB (n : Nat) : Bool := n == 46 || n == 47 || n == 63 || n == 37 || n == 38 || n == 61
def hexU (k : Nat) : UInt8 := if k < 10 then UInt8.ofNat (48 + k) else UInt8.ofNat (55 + k)
def upperL (n : Nat) : List UInt8 := [37, hexU (n / 16), hexU (n % 16)]
def putC (n : Nat) : List UInt8 := if freeB (UInt8.ofNat n) = true then [UInt8.ofNat n] else upperL n
def okLit (asks : Bool) (c : UInt8) : Bool := freeB c || (c == 47 && !asks) || (asks && (c == 61 || c == 38))

/-- A path, or what is asked, in its plainest form. -/
def plainL (asks : Bool) : List UInt8 → Option (List UInt8)
  | [] => some []
  | c :: l => match codeL (c :: l) with
    | some n => if doubtB n = true then none else (plainL asks (l.drop 2)).map (putC n ++ ·)
    | none => if okLit asks c = true then (plainL asks l).map (c :: ·) else none
termination_by l => l.length
decreasing_by
  · simp; omega
  · simp

theorem plainL_nil (asks : Bool) : plainL asks [] = some [] := by rw [plainL]
theorem plainL_code {asks : Bool} {c : UInt8} {l : List UInt8} {n : Nat} (h : codeL (c :: l) = some n) : plainL asks (c :: l) = if doubtB n = true then none else (plainL asks (l.drop 2)).map (putC n ++ ·) := by rw [plainL]; rw [h]
theorem plainL_lit {asks : Bool} {c : UInt8} {l : List UInt8} (h : codeL (c :: l) = none) : plainL asks (c :: l) = if okLit asks c = true then (plainL asks l).map (c :: ·) else none := by rw [plainL]; rw [h]
theorem okLit_37 (asks : Bool) : okLit asks 37 = false := by cases asks <;> decide
theorem plainL_bad {asks : Bool} {l : List UInt8} (h : codeL (37 :: l) = none) : plainL asks (37 :: l) = none := by rw [plainL_lit h, okLit_37]; rfl
theorem codeL_head {c : UInt8} {l : List UInt8} {n : Nat} (h : codeL (c :: l) = some n) : c = 37 := by
  rcases Decidable.em (c = 37) with e | e
  · exact e
  · rw [codeL_ne e] at h; cases h

def isDots (l : List UInt8) : Bool := l == [46] || l == [46, 46]
def segsOk : List (List UInt8) → Bool
  | [] => true
  | [a] => !isDots a
  | a :: b :: rest => !isDots a && !a.isEmpty && segsOk (b :: rest)
def dotL (l : List UInt8) : Bool := isDots (cutL l 63).1

theorem cutL_cons {b c : UInt8} {l : List UInt8} (h : b ≠ c) : cutL (b :: l) c = (b :: (cutL l c).1, (cutL l c).2.1, (cutL l c).2.2) := by
  conv => lhs; unfold cutL
  rw [if_neg h]
theorem cutL_hit (c : UInt8) (l : List UInt8) : cutL (c :: l) c = ([], l, true) := by unfold cutL; rw [if_pos rfl]
theorem partsL_app (cur l : List UInt8) (h : 47 ∉ cur) : partsL (cur ++ 47 :: l) 47 = cur :: partsL l 47 := by
  rw [partsL_cut, cutL_yes _ _ _ h]; rfl
theorem partsL_one (cur : List UInt8) (h : 47 ∉ cur) : partsL cur 47 = [cur] := by
  rw [partsL_cut, cutL_no _ _ h]; rfl
theorem segsOk_cons (a : List UInt8) (l : List UInt8) : segsOk (a :: partsL l 47) = (!isDots a && !a.isEmpty && segsOk (partsL l 47)) := by
  cases h : partsL l 47 with
  | nil => exact absurd h (partsL_ne _ _)
  | cons b r => rfl

/-- What becomes of the rest of a place behind the form ys, whose last part begins at seg, in the path. -/
def resP (ys : List UInt8) (seg : Nat) (l : List UInt8) : Option (List UInt8) :=
  match plainL false (cutL l 63).1 with
  | none => none
  | some o => if segsOk (partsL (ys.drop seg ++ o) 47) = true then (if (cutL l 63).2.2 = true then (plainL true (cutL l 63).2.1).map (fun m => ys ++ o ++ 63 :: m) else some (ys ++ o)) else none
/-- The same, behind the sign of what is asked. -/
def resQ (ys : List UInt8) (seg : Nat) (l : List UInt8) : Option (List UInt8) := if dotL (ys.drop seg) = true then none else (plainL true l).map (ys ++ ·)
def rootR : List UInt8 → Option (List UInt8)
  | [] => none
  | c :: l => if c = 47 then resP [47] 1 l else none
def canonL (l : List UInt8) : Option (List UInt8) := if l.length = 0 ∨ 40 < l.length then none else rootR l

structure POk (ys : List UInt8) (seg : Nat) : Prop where
  le : seg ≤ ys.length
  ne : 0 < ys.length
  sl : 47 ∉ ys.drop seg
  qm : 63 ∉ ys.drop seg
structure QOk (ys : List UInt8) (seg : Nat) : Prop where
  le : seg ≤ ys.length
  ne : 0 < ys.length
  qm : ∃ cur m, ys.drop seg = cur ++ 63 :: m ∧ 63 ∉ cur

theorem POk.app {ys : List UInt8} {seg : Nat} (h : POk ys seg) (xs : List UInt8) (h1 : 47 ∉ xs) (h2 : 63 ∉ xs) : POk (ys ++ xs) seg := by
  have e : (ys ++ xs).drop seg = ys.drop seg ++ xs := List.drop_append_of_le_length h.le
  exact ⟨by have := h.le; simp; omega, by have := h.ne; simp; omega, by rw [e]; simp [h.sl, h1], by rw [e]; simp [h.qm, h2]⟩
theorem POk.slash {ys : List UInt8} (__h : 0 < ys.length) : POk (ys ++ [47]) (ys.length + 1) :=
  ⟨by simp, by simp, by simp, by simp⟩
theorem POk.ask {ys : List UInt8} {seg : Nat} (h : POk ys seg) : QOk (ys ++ [63]) seg :=
  ⟨by have := h.le; simp; omega, by simp, ys.drop seg, [], List.drop_append_of_le_length h.le, h.qm⟩
theorem QOk.app {ys : List UInt8} {seg : Nat} (h : QOk ys seg) (xs : List UInt8) : QOk (ys ++ xs) seg := by
  have e : (ys ++ xs).drop seg = ys.drop seg ++ xs := List.drop_append_of_le_length h.le
  obtain ⟨cur, m, h1, h2⟩ := h.qm
  exact ⟨by have := h.le; simp; omega, by have := h.ne; simp; omega, cur, m ++ xs, by rw [e, h1]; simp, h2⟩
theorem QOk.dot {ys : List UInt8} {seg : Nat} (h : QOk ys seg) (xs : List UInt8) : dotL ((ys ++ xs).drop seg) = dotL (ys.drop seg) := by
  obtain ⟨cur, m, h1, h2⟩ := h.qm
  rw [List.drop_append_of_le_length h.le, h1]
  unfold dotL
  rw [cutL_yes _ _ _ h2, List.append_assoc, List.cons_append, cutL_yes _ _ _ h2]
theorem POk.dot {ys : List UInt8} {seg : Nat} (h : POk ys seg) : dotL (ys.drop seg) = isDots (ys.drop seg) := by
  unfold dotL; rw [cutL_no _ _ h.qm]

theorem resP_slash {ys : List UInt8} {seg : Nat} {l : List UInt8} (h : POk ys seg) : resP ys seg (47 :: l) = if (!dotL (ys.drop seg) && !(ys.drop seg).isEmpty) = true then resP (ys ++ [47]) (ys.length + 1) l else none := by
  rw [h.dot]
  unfold resP
  rw [cutL_cons (by decide), plainL_lit (codeL_ne (by decide))]
  have e0 : (ys ++ [47]).drop (ys.length + 1) = [] := by simp
  simp only [show okLit false 47 = true from by decide, if_true, e0, List.nil_append]
  cases hp : plainL false (cutL l 63).1 with
  | none => simp
  | some o =>
    simp only [Option.map_some]
    rw [partsL_app _ _ h.sl, segsOk_cons]
    cases h1 : (!isDots (ys.drop seg) && !(ys.drop seg).isEmpty)
    · simp
    · simp
theorem resP_ask {ys : List UInt8} {seg : Nat} {l : List UInt8} (h : POk ys seg) : resP ys seg (63 :: l) = resQ (ys ++ [63]) seg l := by
  unfold resP resQ
  obtain ⟨cur, hc⟩ : ∃ cur, cur = ys.drop seg := ⟨_, rfl⟩
  rw [cutL_hit, plainL_nil, List.drop_append_of_le_length h.le, ← hc]
  have h2 : 63 ∉ cur := hc ▸ h.qm
  have h1 : 47 ∉ cur := hc ▸ h.sl
  have e : dotL (cur ++ [63]) = isDots cur := by unfold dotL; rw [cutL_yes _ _ _ h2]
  simp only [List.append_nil]
  rw [partsL_one _ h1, e]
  have es : segsOk [cur] = !isDots cur := rfl
  rw [es]
  cases isDots cur
  · simp
  · simp
theorem resP_lit {ys : List UInt8} {seg : Nat} {l : List UInt8} {c : UInt8} (h : POk ys seg) (h1 : c ≠ 37) (h2 : c ≠ 63) (h3 : c ≠ 47) : resP ys seg (c :: l) = if freeB c = true then resP (ys ++ [c]) seg l else none := by
  unfold resP
  rw [cutL_cons h2, plainL_lit (codeL_ne h1), List.drop_append_of_le_length h.le]
  have e : okLit false c = freeB c := by unfold okLit; simp [h3]
  rw [e]
  cases freeB c
  · simp
  · simp only [if_true]
    cases hp : plainL false (cutL l 63).1 with
    | none => simp
    | some o => simp
theorem resP_bad1 {ys : List UInt8} {seg : Nat} {l : List UInt8} {c : UInt8} (h1 : hexV c = none) : resP ys seg (37 :: c :: l) = none := by
  unfold resP
  rw [cutL_cons (by decide)]
  have : plainL false (37 :: (cutL (c :: l) 63).1) = none := by
    apply plainL_bad
    by_cases h : c = 63
    · subst h; rw [cutL_hit]; rfl
    · rw [cutL_cons h]; exact codeL_37_none h1
  simp only [this]
theorem hex_ne {a c : UInt8} {x : Nat} (h : hexV a = some x) (hc : hexV c = none) : a ≠ c := by rintro rfl; rw [h] at hc; cases hc
theorem resP_bad2 {ys : List UInt8} {seg : Nat} {l : List UInt8} {a c : UInt8} {x : Nat} (ha : hexV a = some x) (h1 : hexV c = none) : resP ys seg (37 :: a :: c :: l) = none := by
  unfold resP
  rw [cutL_cons (by decide), cutL_cons (hex_ne ha (by decide))]
  have : plainL false (37 :: a :: (cutL (c :: l) 63).1) = none := by
    apply plainL_bad
    by_cases h : c = 63
    · subst h; rw [cutL_hit]; rfl
    · rw [cutL_cons h]; exact codeL_37_none2 h1
  simp only [this]
theorem resP_code {ys : List UInt8} {seg : Nat} {l : List UInt8} {a c : UInt8} {x y : Nat} (h : POk ys seg) (ha : hexV a = some x) (hc : hexV c = some y) :
    resP ys seg (37 :: a :: c :: l) = if doubtB (x * 16 + y) = true then none else resP (ys ++ putC (x * 16 + y)) seg l := by
  unfold resP
  rw [cutL_cons (by decide), cutL_cons (hex_ne ha (by decide)), cutL_cons (hex_ne hc (by decide)), plainL_code (codeL_37_some ha hc), List.drop_append_of_le_length h.le]
  cases doubtB (x * 16 + y)
  · simp only [Bool.false_eq_true, if_false]
    have e : List.drop 2 (a :: c :: (cutL l 63).1) = (cutL l 63).1 := rfl
    rw [e]
    cases hp : plainL false (cutL l 63).1 with
    | none => simp
    | some o => simp
  · simp
theorem resQ_lit {ys : List UInt8} {seg : Nat} {l : List UInt8} {c : UInt8} (h : QOk ys seg) (h1 : c ≠ 37) : resQ ys seg (c :: l) = if okLit true c = true then resQ (ys ++ [c]) seg l else none := by
  unfold resQ
  rw [plainL_lit (codeL_ne h1), h.dot]
  cases okLit true c
  · simp
  · cases dotL (ys.drop seg)
    · simp only [if_true, Bool.false_eq_true, if_false, Option.map_map]
      congr 1; funext m; simp
    · simp
theorem resQ_bad1 {ys : List UInt8} {seg : Nat} {l : List UInt8} {c : UInt8} (h1 : hexV c = none) : resQ ys seg (37 :: c :: l) = none := by
  unfold resQ
  rw [plainL_bad (codeL_37_none h1)]; simp
theorem resQ_bad2 {ys : List UInt8} {seg : Nat} {l : List UInt8} {a c : UInt8} (h1 : hexV c = none) : resQ ys seg (37 :: a :: c :: l) = none := by
  unfold resQ
  rw [plainL_bad (codeL_37_none2 h1)]; simp
theorem resQ_code {ys : List UInt8} {seg : Nat} {l : List UInt8} {a c : UInt8} {x y : Nat} (h : QOk ys seg) (ha : hexV a = some x) (hc : hexV c = some y) :
    resQ ys seg (37 :: a :: c :: l) = if doubtB (x * 16 + y) = true then none else resQ (ys ++ putC (x * 16 + y)) seg l := by
  unfold resQ
  rw [plainL_code (codeL_37_some ha hc), h.dot]
  cases doubtB (x * 16 + y)
  · cases dotL (ys.drop seg)
    · simp only [Bool.false_eq_true, if_false, Option.map_map]
      have e : List.drop 2 (a :: c :: l) = l := rfl
      rw [e]
      congr 1; funext m; simp
    · simp
  · simp
theorem resP_end {ys : List UInt8} {seg : Nat} (h : POk ys seg) : resP ys seg [] = if dotL (ys.drop seg) = true then none else some ys := by
  rw [h.dot]
  unfold resP
  rw [show cutL [] 63 = ([], [], false) from rfl]
  simp only [plainL_nil, List.append_nil]
  rw [partsL_one _ h.sl]
  have es : segsOk [ys.drop seg] = !isDots (ys.drop seg) := rfl
  rw [es]
  cases isDots (ys.drop seg) <;> simp
theorem resQ_end {ys : List UInt8} {seg : Nat} : resQ ys seg [] = if dotL (ys.drop seg) = true then none else some ys := by
  unfold resQ; rw [plainL_nil]; simp
end Go.Proofs.YtbhnjnoblkfckabGreatDoor

-- from XOwn2
/- Small laws on rows of the call's own: their form, their beginnings, their cells. -/
namespace Go.Proofs.YtbhnjnoblkfckabGreatDoor
open Go.RowKit

theorem own_form {w : World} {base : Nat} {e : TypeId} {size : Nat} {v : Value} {n : Nat} {xs : List Value} (h : w.ownsRow base e size v n xs) (hn : 0 < n) : ∃ g cap, v = .slice (some ⟨g, 0, none⟩) n cap := by
  rcases h.2 with ⟨_, h⟩ | ⟨g, cap, _, h, _⟩
  · omega
  · exact ⟨g, cap, h⟩

theorem own_take {w : World} {base : Nat} {e : TypeId} {g n cap k : Nat} {xs : List Value} (h : w.ownsRow base e 1 (.slice (some ⟨g, 0, none⟩) n cap) n xs) (hk : k ≤ n) : w.ownsRow base e 1 (.slice (some ⟨g, 0, none⟩) k cap) k (xs.take k) := by
  obtain ⟨hl, h | ⟨g', cap', cur, he, h1, h2, h3, h4, h5, h6⟩⟩ := h
  · cases h.1
  · cases he
    refine ⟨by rw [List.length_take]; omega, .inr ⟨g, cap, cur, rfl, h1, h2, by omega, h4, h5, ?_⟩⟩
    rw [← h6, List.take_take, Nat.mul_one, Nat.mul_one, Nat.min_eq_left hk]

theorem own_cell {w : World} {base : Nat} {e : TypeId} {g n cap j : Nat} {xs : List Value} {u : Value} (h : w.ownsRow base e 1 (.slice (some ⟨g, 0, none⟩) n cap) n xs) (hu : xs[j]? = some u) : w.cell? ⟨g, j, none⟩ = some u := by
  have h1 := h.cells (g := g) rfl j u hu
  have hadd : (⟨g, 0, none⟩ : Addr).add j = ⟨g, j, none⟩ := by unfold Addr.add; split <;> simp_all
  rwa [hadd] at h1

theorem own_max {w : World} {base : Nat} {e : TypeId} {g n cap : Nat} {xs : List Value} (h : w.ownsRow base e 1 (.slice (some ⟨g, 0, none⟩) n cap) n xs) : n ≤ cap ∧ cap ≤ 9223372036854775807 := by
  obtain ⟨_, h | ⟨g', cap', cur, he, h1, h2, h3, h4, _⟩⟩ := h
  · cases h.1
  · cases he; exact ⟨h3, h4⟩

theorem toList_mk (l : List UInt8) : (ByteArray.mk l.toArray).toList = l := by rw [Lib.toList_data]
end Go.Proofs.YtbhnjnoblkfckabGreatDoor

-- from XGrp
/- A map of lists of numbers that the call itself makes: what a look-up gives in whatever world; no function of the program. -/
namespace Go.Proofs.YtbhnjnoblkfckabGreatDoor
open Go.RowKit
open Go.WideElems (Fit rd_val)
open Go.Maps (Keyed)

theorem grown_set (w : World) (b k : Nat) (x : Value) : w.grownBy (w.setCell ⟨b, k, none⟩ x) (some b) := ⟨rfl, rfl, rfl, by simp, fun j _ hj => heap_setCell_other w ⟨b, k, none⟩ j _ (fun e => hj (by simp [e]))⟩
theorem below_set {w w3 : World} {b k : Nat} {x : Value} (h : Below b w w3) : Below b w (w3.setCell ⟨b, k, none⟩ x) :=
  ⟨h.os, h.tape, h.output, by simpa using h.size, fun j hj => (heap_setCell_other w3 ⟨b, k, none⟩ j _ (by simp; omega)).trans (h.block j hj)⟩
theorem pw_get {α : Type} {R : α → α → Prop} {l : List α} (h : l.Pairwise R) {i j : Nat} {a b : α} (hi : l[i]? = some a) (hj : l[j]? = some b) (hij : i < j) : R a b := by
  obtain ⟨h1, rfl⟩ := List.getElem?_eq_some_iff.1 hi
  obtain ⟨h2, rfl⟩ := List.getElem?_eq_some_iff.1 hj
  exact List.pairwise_iff_getElem.1 h i j h1 h2 hij

section
variable {H : Type} {P : Program} {k : TypeId} {w w' : World} {base : Nat} {e : TypeId} {q : IntKind} {b n : Nat} {D : DataW H}

theorem groups_grown {row : Option Nat} (h : w.ownsGroups P k base e q b n D) (hg : w.grownBy w' row) (hr : ∀ r, row = some r → r < b) : w'.ownsGroups P k base e q b n D := by
  obtain ⟨es, clock, hb0, F, hs, rfl, hbb, hlen, hap⟩ := h
  have own : ∀ {v : Value} {zs : List Int}, w.ownsInts base e q v zs → w'.ownsInts base e q v zs := fun {v zs} ho => ho.kept hg (by
    cases hv : v.ownBlock with
    | none => exact .inl rfl
    | some g =>
      refine .inr fun e1 => ?_
      have := (ho.1.lt g hv).1
      have := hr g e1.symm
      omega)
  obtain ⟨F1, hmap, _⟩ := F.stay (R' := rowElem w' base e q) (fun x _ z hz => by
    obtain ⟨zs, ho, rfl⟩ := rowElem_inv hz
    exact rowElem_mk (own ho))
  have hlt : b < w.heap.size := (Array.getElem?_eq_some_iff.1 hb0).1
  refine ⟨es, clock, (hg.block b hlt (fun e1 => by have := hr b e1.symm; omega)).trans hb0, F1, hs, by rw [hmap], hbb, fun x hx zs ho => ?_, hap⟩
  obtain ⟨y, hy⟩ := F.reads x hx
  obtain ⟨z, hz, _⟩ := rd_val hy
  obtain ⟨zs0, ho0, _⟩ := rowElem_inv hz
  rw [ho.unique (own ho0)]
  exact hlen x hx zs0 ho0
theorem groups_below (h : w.ownsGroups P k base e q b n D) (hb : Below w.heap.size w w') : w'.ownsGroups P k base e q b n D := groups_grown h (grown_of_below hb none) (fun _ e => by cases e)

/-- 'm[k]' on such a map, in whatever world has the same block. -/
theorem groups_at {t E : TypeId} {key : Value} {kl : Lit} (h : w.ownsGroups P k base e q b n D) (K : Keyed P k) (ht : P.underlying t = some (.map k E)) (hz : ∀ w', (zeroValue E).run P w' = .ok (.slice none 0 0) w') (hn : n < maxLen) (hkey : keyOf P k key = some kl) :
    ∃ v zs, (∀ w' : World, w'.heap[b]? = w.heap[b]? → (Instr.lookup t (.map (some b)) key false).run P w' = .ok v w') ∧ D.atKey kl .nil = rowDatum q v zs ∧ w.ownsInts base e q v zs ∧ zs.length ≤ n ∧ w.groupBack P t k base e q b n D key kl v := by
  obtain ⟨v, zs, hrun, h1, h2, h3, h4⟩ := h.at K ht (hz w) hn hkey
  refine ⟨v, zs, fun w' hw => ?_, h1, h2, h3, h4⟩
  obtain ⟨es, clock, hb, F, hs, rfl, hbb, hlen, hap⟩ := h
  have hb' := hw.trans hb
  have keys : ∀ x ∈ es.toList, ∃ l, keyOf P k x.key = some l := fun x hx => by
    obtain ⟨y, hy⟩ := F.reads x hx
    exact ⟨_, Go.WideElems.rd_key hy⟩
  have apart : es.toList.Pairwise (fun x y => x.key ≠ y.key) := ((MapKept.stamped_iff es clock).1 F.stamped).2.2
  have one : ∀ {i j : Nat} {x y : MapEntry}, es.toList[i]? = some x → es.toList[j]? = some y → x.key = y.key → i = j := by
    intro i j x y hi hj hxy
    rcases Nat.lt_trichotomy i j with h | h | h
    · exact absurd hxy (pw_get apart hi hj h)
    · exact h
    · exact absurd hxy.symm (pw_get apart hj hi h)
  rcases K.find w hkey es.toList keys with ⟨g1, g2⟩ | ⟨j, e0, g1, g2, g3⟩
  · rcases K.find w' hkey es.toList keys with ⟨k1, _⟩ | ⟨j', e1, _, k2, k3⟩
    · have r1 : (Instr.lookup t (.map (some b)) key false).run P w = .ok (.slice none 0 0) w := by simp [Instr.lookup, run_underlying ht, MapKept.run_getObj_map hb, K.check w _ hkey, g1, hz, Result.andThen]
      have ev : v = .slice none 0 0 := by rw [r1] at hrun; cases hrun; rfl
      rw [ev]
      simp [Instr.lookup, run_underlying ht, MapKept.run_getObj_map hb', K.check w' _ hkey, k1, hz, Result.andThen]
    · exact absurd k3 (g2 e1 (List.mem_of_getElem? k2))
  · have r1 : (Instr.lookup t (.map (some b)) key false).run P w = .ok e0.val w := by simp [Instr.lookup, run_underlying ht, MapKept.run_getObj_map hb, K.check w _ hkey, g1, Result.andThen]
    have ev : v = e0.val := by rw [r1] at hrun; cases hrun; rfl
    rw [ev]
    rcases K.find w' hkey es.toList keys with ⟨_, k2⟩ | ⟨j', e1, k1, k2, k3⟩
    · exact absurd g3 (k2 e0 (List.mem_of_getElem? g2))
    · have hj := one g2 k2 (g3.trans k3.symm)
      subst hj
      rw [g2] at k2
      cases k2
      simp [Instr.lookup, run_underlying ht, MapKept.run_getObj_map hb', K.check w' _ hkey, k1, Result.andThen]
end

/-- What a list of numbers reads as among the map's elements. -/
def rowD (zs : List Int) : DataW Unit := if zs = [] then .nil else .slice (Go.ChangeShapes.lits .i64 zs) []
theorem lits_inj {a b : List Int} (h : Go.ChangeShapes.lits (H := Unit) .i64 a = Go.ChangeShapes.lits .i64 b) : a = b := by
  unfold Go.ChangeShapes.lits at h
  exact (List.map_inj_right (fun x y hxy => by cases hxy; rfl)).1 h

theorem rowD_of {w : World} {base : Nat} {e : TypeId} {v : Value} {zs : List Int} (ho : w.ownsInts base e .i64 v zs) (hne : zs ≠ []) : rowDatum (H := Unit) .i64 v zs = rowD zs := by
  rw [ho.datum_pos hne, rowD, if_neg hne]

theorem rowD_inv {w : World} {base : Nat} {e : TypeId} {v : Value} {zs ys : List Int} (ho : w.ownsInts base e .i64 v zs) (h : rowD ys = rowDatum .i64 v zs) : zs = ys := by
  unfold rowD at h
  by_cases hy : ys = []
  · rw [if_pos hy] at h
    rcases ho.datum (H := Unit) with ⟨_, h0⟩ | h1
    · rw [h0, hy]
    · rw [h1] at h; cases h
  · rw [if_neg hy] at h
    rcases ho.datum (H := Unit) with ⟨h1, _⟩ | h1
    · rw [h1] at h; cases h
    · rw [h1] at h
      injection h with h
      exact (lits_inj h).symm
end Go.Proofs.YtbhnjnoblkfckabGreatDoor

-- from XFld
/- Fields: the lists of fields, the map of places that the program makes of one, and the values of a name. -/
namespace Go.Proofs.YtbhnjnoblkfckabGreatDoor
open Go.RowKit Go.Maps

abbrev Fd := ByteArray × ByteArray

/-- A slice that reads as a list of fields. -/
def FRow (w : World) (v : Value) (fs : List Fd) : Prop :=
  ∃ a c, v = .slice a fs.length c ∧ fs.length ≤ c ∧ c ≤ maxLen ∧ ∀ j f, fs[j]? = some f → ∃ b o, a = some ⟨b, o, none⟩ ∧ b < w.heap.size ∧ w.cell? ⟨b, o + j * 2, none⟩ = some (.string f.1) ∧ w.cell? ⟨b, o + j * 2 + 1, none⟩ = some (.string f.2)

theorem FRow.below {w w' : World} {v : Value} {fs : List Fd} (h : FRow w v fs) {B : Nat} (hB : w.heap.size ≤ B) (hb : Below B w w') : FRow w' v fs := by
  obtain ⟨a, c, rfl, h1, h2, h3⟩ := h
  refine ⟨a, c, rfl, h1, h2, fun j f hj => ?_⟩
  obtain ⟨b, o, rfl, hlt, c1, c2⟩ := h3 j f hj
  exact ⟨b, o, rfl, Nat.lt_of_lt_of_le hlt hb.size, (hb.cell (p := ⟨b, o + j * 2, none⟩) (Nat.lt_of_lt_of_le hlt hB)).trans c1, (hb.cell (p := ⟨b, o + j * 2 + 1, none⟩) (Nat.lt_of_lt_of_le hlt hB)).trans c2⟩
theorem FRow.drewN {w : World} {v : Value} {fs : List Fd} (h : FRow w v fs) (n : Nat) : FRow (w.drewN n) v fs := h

/-- All texts of the fields are of a text's length. -/
def FOk (fs : List Fd) (K : Nat) : Prop := ∀ f ∈ fs, f.1.size ≤ K ∧ f.2.size ≤ K

/-- The places of a name among the first k fields. -/
def idxTo (fs : List Fd) (s : ByteArray) : Nat → List Int
  | 0 => []
  | k + 1 => match fs[k]? with
    | some f => if f.1 = s then idxTo fs s k ++ [(k : Int)] else idxTo fs s k
    | none => idxTo fs s k
/-- The values of a name among the first k fields. -/
def allTo (fs : List Fd) (s : ByteArray) : Nat → List ByteArray
  | 0 => []
  | k + 1 => match fs[k]? with
    | some f => if f.1 = s then allTo fs s k ++ [f.2] else allTo fs s k
    | none => allTo fs s k
def valAt (fs : List Fd) (j : Int) : ByteArray := ((fs[j.toNat]?).map (·.2)).getD ByteArray.empty

theorem idx_vals (fs : List Fd) (s : ByteArray) (k : Nat) : (idxTo fs s k).map (valAt fs) = allTo fs s k := by
  induction k with
  | zero => rfl
  | succ k ih =>
    unfold idxTo allTo
    cases hf : fs[k]? with
    | none => exact ih
    | some f =>
      dsimp only
      split
      · rw [List.map_append, ih]; simp [valAt, hf]
      · exact ih
theorem idx_lt (fs : List Fd) (s : ByteArray) (k : Nat) : ∀ j ∈ idxTo fs s k, 0 ≤ j ∧ j < k ∧ j < fs.length := by
  induction k with
  | zero => simp [idxTo]
  | succ k ih =>
    intro j hj
    unfold idxTo at hj
    have old : j ∈ idxTo fs s k → 0 ≤ j ∧ j < (k + 1 : Nat) ∧ j < fs.length := fun h => by have := ih j h; omega
    cases hf : fs[k]? with
    | none => rw [hf] at hj; exact old hj
    | some f =>
      have hk : k < fs.length := (List.getElem?_eq_some_iff.1 hf).1
      rw [hf] at hj
      dsimp only at hj
      split at hj
      · rcases List.mem_append.1 hj with h | h
        · exact old h
        · have : j = k := by simpa using h
          omega
      · exact old hj
theorem idx_len (fs : List Fd) (s : ByteArray) (k : Nat) : (idxTo fs s k).length ≤ k := by
  induction k with
  | zero => simp [idxTo]
  | succ k ih =>
    unfold idxTo
    cases fs[k]? with
    | none => exact Nat.le_succ_of_le ih
    | some f =>
      dsimp only
      split
      · simp; omega
      · exact Nat.le_succ_of_le ih

/-- What the map holds behind k rounds. -/
def Holds (D : DataW Unit) (fs : List Fd) (k : Nat) : Prop := IsMap D ∧ ∀ s : ByteArray, D.atKey (.string s.data.toList) .nil = rowD (idxTo fs s k)

theorem holds_start (fs : List Fd) : Holds (.map []) fs 0 := ⟨isMap_empty, fun __s => rfl⟩
theorem isMap_put {D : DataW Unit} (h : IsMap D) (k : Lit) (d : DataW Unit) : IsMap (D.put k d) := by
  obtain ⟨es, rfl⟩ := h
  exact ⟨_, rfl⟩
theorem str_inj {a b : ByteArray} (h : a.data.toList = b.data.toList) : a = b := by
  cases a; cases b; simpa [Array.toList_inj] using h
theorem idxTo_at {fs : List Fd} {k : Nat} {f : Fd} (s : ByteArray) (hf : fs[k]? = some f) : idxTo fs s (k + 1) = if f.1 = s then idxTo fs s k ++ [(k : Int)] else idxTo fs s k := by simp [idxTo, hf]
theorem allTo_at {fs : List Fd} {k : Nat} {f : Fd} (s : ByteArray) (hf : fs[k]? = some f) : allTo fs s (k + 1) = if f.1 = s then allTo fs s k ++ [f.2] else allTo fs s k := by simp [allTo, hf]
theorem holds_step {D : DataW Unit} {fs : List Fd} {k : Nat} {f : Fd} (h : Holds D fs k) (hf : fs[k]? = some f) : Holds (D.put (.string f.1.data.toList) (rowD (idxTo fs f.1 k ++ [(k : Int)]))) fs (k + 1) := by
  refine ⟨isMap_put h.1 _ _, fun s => ?_⟩
  rw [idxTo_at s hf]
  by_cases hs : f.1 = s
  · rw [if_pos hs, ← hs, atKey_put_same h.1 (by exact trivial)]
  · rw [if_neg hs, atKey_put_other (fun e => hs (str_inj (by injection e with e; exact e.symm)))]
    exact h.2 s

theorem law9 : Keyed Tryz.prog 9 := string_keyed Tryz.underlying9
theorem zeroInts (w : World) : (zeroValue 123).run Tryz.prog w = .ok (.slice none 0 0) w := by kernel_rfl
theorem Tryz.infoInt : (Tryz.prog.info? 3).map (fun i => (i.zero, i.size, i.bytes)) = some (some (.int .i64 0), 1, 8) := by kernel_rfl

set_option maxHeartbeats 400000 in
theorem fields_of (v : Value) (fs : List Fd) (w : World) (h : FRow w v fs) (hok : FOk fs maxLen) (hn : fs.length ≤ 2000000) :
    Calls Tryz.prog 104 #[v] w fun e w' => e = .returned (.agg #[v, .map (some (w.heap.size + 1))]) ∧ ∃ D, w'.ownsGroups Tryz.prog 9 (w.heap.size + 2) 3 .i64 (w.heap.size + 1) fs.length D ∧ Holds D fs fs.length ∧ Below w.heap.size w w' := by
  obtain ⟨a, c, rfl, h1, h2, h3⟩ := h
  have hmm := @run_makeMap Tryz.prog
  obtain ⟨i0, hi, hz0, hz1, hz2⟩ := info_parts Tryz.infoInt
  have H3 := Lib.hid h3; clear h3
  unfold maxLen at h2
  go_enter Tryz.func104, Tryz.ntmps104
  go_wp2
  go_loopw [9] (fun i wr => ∃ (k : Nat) (D : DataW Unit), k ≤ fs.length ∧ i = .int .i64 k ∧ wr.ownsGroups Tryz.prog 9 (w.heap.size + 2) 3 .i64 (w.heap.size + 1) k D ∧ Hid (Holds D fs k) ∧ Below (w.heap.size + 1) (w.alloc (.cells #[.slice none 0 0, .map none] 130)) wr ∧ w.heap.size + 2 ≤ wr.heap.size) (fun i _ => fs.length - (intOf i).toNat)
  case atStart => exact ⟨0, .map [], Nat.zero_le _, rfl, by have := World.ownsGroups_made (H := Unit) (w.alloc (.cells #[.slice none 0 0, .map none] 130)) Tryz.prog 9 3 .i64; simpa using this, Lib.hid (holds_start fs), (Below.refl _ _).alloc (by simp) _, by simp⟩
  case round =>
    obtain ⟨k, D, hk, rfl, hown, hD, hnx, hws⟩ := hrel
    by_cases hlt : k < fs.length
    · obtain ⟨b, o, rfl, hblt, c1, c2⟩ := H3.out k fs[k] (List.getElem?_eq_getElem hlt)
      obtain ⟨f, hf⟩ : ∃ f, f = fs[k] := ⟨_, rfl⟩
      rw [← hf] at c1 c2
      have hfk : fs[k]? = some f := by rw [hf]; exact List.getElem?_eq_getElem hlt
      have hfo := hok f (by rw [hf]; exact List.getElem_mem _)
      clear hf
      obtain ⟨nm, vl⟩ := f
      have e1 : (w.alloc (.cells #[.slice none 0 0, .map none] 130)).cell? ⟨b, o + k * 2, none⟩ = some (.string nm) := (Below.refl w.heap.size w |>.alloc (Nat.le_refl _) _).cell (p := ⟨b, o + k * 2, none⟩) hblt |>.trans c1
      have e2 : (w.alloc (.cells #[.slice none 0 0, .map none] 130)).cell? ⟨b, o + k * 2 + 1, none⟩ = some (.string vl) := (Below.refl w.heap.size w |>.alloc (Nat.le_refl _) _).cell (p := ⟨b, o + k * 2 + 1, none⟩) hblt |>.trans c2
      have g1 := (hnx.cell (p := ⟨b, o + k * 2, none⟩) (Nat.lt_succ_of_lt hblt)).trans e1
      have g2 := (hnx.cell (p := ⟨b, o + k * 2 + 1, none⟩) (Nat.lt_succ_of_lt hblt)).trans e2
      clear c1 c2 e1 e2
      obtain ⟨W, hW⟩ : ∃ W, W = wr.alloc (.cells #[.string nm, .string vl] 88) := ⟨_, rfl⟩
      have hWs : W.heap.size = wr.heap.size + 1 := by rw [hW]; simp
      have hbW : Below wr.heap.size wr W := by rw [hW]; exact (Below.refl _ _).alloc (Nat.le_refl _) _
      have hnW : Below (w.heap.size + 1) (w.alloc (.cells #[.slice none 0 0, .map none] 130)) W := hnx.trans (hbW.mono (by omega))
      obtain ⟨u, zs, hlook, hat, hoi, hzl, hback⟩ := groups_at hown law9 Tryz.underlying128 zeroInts (by unfold maxLen; omega) (Go.WideMaps.keyOf_string_mk Tryz.underlying9 hfo.1)
      have hbl : w.heap.size + 1 < wr.heap.size := by omega
      have hbo : ∀ o : Obj, Below wr.heap.size wr (W.alloc o).drew := fun o => (hbW.alloc hbW.size o).drew
      have hult := hoi.1.lt
      rw [hD.out.2 nm] at hat
      have hWs1 : w.heap.size + 1 ≤ W.drew.heap.size := by show w.heap.size + 1 ≤ W.heap.size; omega
      have hzs := rowD_inv hoi hat
      have lk0 := hlook W.drew (hbW.drew.block _ hbl)
      have lk1 : ∀ o, (Instr.lookup 128 (.map (some (w.heap.size + 1))) (.string nm) false).run Tryz.prog (W.alloc o).drew = .ok u (W.alloc o).drew := fun o => hlook _ ((hbo o).block _ hbl)
      have l1 : W.cell? ⟨wr.heap.size, 0, none⟩ = some (.string nm) := by rw [hW]; simp
      have l2 : W.cell? ⟨wr.heap.size, 1, none⟩ = some (.string vl) := by rw [hW]; simp
      have hO : ∀ o : Obj, (W.alloc o).drew.ownsRow (w.heap.size + 2) 3 1 u zs.length (zs.map (Value.int .i64)) := fun o => own_below hoi.1 (hbo o)
      have hC : ∀ T : TypeId, ∀ (j : Nat) x, [Value.int .i64 (k : Int)][j]? = some x → (W.alloc (.cells #[.int .i64 (k : Int)] T)).drew.cell? ((⟨wr.heap.size + 1, 0, none⟩ : Addr).add j) = some x := fun T j x hx => by
        rw [← hWs]
        match j, hx with
        | 0, hx => exact (World.cell?_alloc_at _ _ _ _ rfl).trans (by simpa using hx)
        | j + 1, hx => simp at hx
      have hN : ∀ (o : Obj) (g cap : Nat) (w3 : World), w3.ownsRow (w.heap.size + 2) 3 1 (.slice (some ⟨g, 0, none⟩) (zs.length + 1) cap) (zs.length + 1) (zs.map (Value.int .i64) ++ [.int .i64 (k : Int)]) → (W.alloc o).drew.grownBy w3 u.ownBlock → (u.ownBlock = some g ∨ g = wr.heap.size + 1 + 1) →
          w3.cell? ⟨wr.heap.size, 0, none⟩ = some (.string nm) ∧ ∃ w4, (Instr.mapUpdate 128 (.map (some (w.heap.size + 1))) (.string nm) (.slice (some ⟨g, 0, none⟩) (zs.length + 1) cap)).run Tryz.prog w3 = .ok () w4 ∧
            ∃ D', w4.ownsGroups Tryz.prog 9 (w.heap.size + 2) 3 .i64 (w.heap.size + 1) (k + 1) D' ∧ Hid (Holds D' fs (k + 1)) ∧ Below (w.heap.size + 1) (w.alloc (.cells #[.slice none 0 0, .map none] 130)) w4 ∧ w.heap.size + 2 ≤ w4.heap.size := by
        intro o g cap w3 h3 hg3 hl3
        have hown' := hoi.appended (x := (k : Int)) h3 (WalkArith.wf_i64 (by omega))
        have hall : wr.grownBy w3 u.ownBlock := (grown_of_below (hbo o) _).trans hg3
        obtain ⟨w4, hup, hown4, hg4⟩ := hback w3 _ (zs ++ [(k : Int)]) hall hown' (by simp; omega) (by
          rcases hl3 with h | h
          · exact .inl h.symm
          · exact .inr ⟨g, rfl, by omega⟩)
        refine ⟨?_, w4, hup, _, hown4, Lib.hid ?_, hnx.groups hoi hall hg4 (by omega) (Nat.le_succ _) (Nat.le_refl _), ?_⟩
        · refine (World.cell?_of_block (a := ⟨wr.heap.size, 0, none⟩) (hg3.block wr.heap.size (by simp [hWs]; omega) (fun e => ?_))).trans ((World.cell?_of_block (a := ⟨wr.heap.size, 0, none⟩) (Below.heap_alloc W o wr.heap.size (by omega))).trans l1)
          have := (hult wr.heap.size e.symm).2
          omega
        · rw [rowD_of hown' (by simp), hzs]
          exact holds_step hD.out hfk
        · have s1 := hall.size; have s2 := hg4.size
          omega
      have HO := Lib.hid hO; have HC := Lib.hid hC; have HN := Lib.hid hN
      have HW := Lib.hid hW
      have hz2k : zs.length ≤ 2000000 := by omega
      clear hO hC hN hback hoi hat hlook hbW hbo hult hnW hnx hown hzs hW
      go_wp2
      rw [← HW.out]
      clear g1 g2
      go_region_law (refine step_append_lies _ (by rfl) _ _ 123 (by rfl) (w.heap.size + 2) 3 i0 _ 1 8 Tryz.underlying123 hi hz0 hz1 hz2 (by rfl) (by decide) u zs.length (zs.map (Value.int .i64)) (by rfl) (HO.out _) ⟨wr.heap.size + 1, 0, none⟩ 1 1 [.int .i64 k] (by rfl) (by rfl) (HC.out _) (by intro x hx; simp at hx; subst hx; rfl) (by omega) (by unfold maxLen; omega) (by omega) (by simp [hWs]; omega) (wr.heap.size + 1 + 1) (by simp [hWs]) ?_; intro g cap w3 ho3 hg3 hat3 hlt3; obtain ⟨l3, w4, hup, hn4⟩ := HN.out _ g cap w3 ho3 hg3 hat3)
      all_goals go_wp2
      all_goals go_roundw
      all_goals first
        | (case rel => obtain ⟨D', q1, q2, q3, q4⟩ := hn4; exact ⟨k + 1, D', by omega, by go_num, q1, q2, q3, q4⟩)
        | (simp [intOf]; omega)
    · have hkn : k = fs.length := by omega
      subst hkn
      have r0 := (hnx.block w.heap.size (Nat.lt_succ_self _)).trans (heap_alloc_new w _)
      have k0 : wr.cell? ⟨w.heap.size, 0, none⟩ = some (.slice none 0 0) := by simp [World.cell?, r0]
      have k1 : wr.cell? ⟨w.heap.size, 1, none⟩ = some (.map none) := by simp [World.cell?, r0]
      have f0 : wr.frozen? ⟨w.heap.size, 0, none⟩ = false := by simp [World.frozen?, r0]
      have f1 : wr.frozen? ⟨w.heap.size, 1, none⟩ = false := by simp [World.frozen?, r0]
      have hend : ∀ x y : Value, ((wr.setCell ⟨w.heap.size, 0, none⟩ x).setCell ⟨w.heap.size, 1, none⟩ y).ownsGroups Tryz.prog 9 (w.heap.size + 2) 3 .i64 (w.heap.size + 1) fs.length D ∧ Below w.heap.size w ((wr.setCell ⟨w.heap.size, 0, none⟩ x).setCell ⟨w.heap.size, 1, none⟩ y) := fun x y =>
        ⟨groups_grown hown ((grown_set wr w.heap.size 0 x).trans (grown_set _ _ 1 y)) (fun r e => by cases e; omega), below_set (below_set (((Below.refl _ _).alloc (Nat.le_refl _) _).trans (hnx.mono (Nat.le_succ _))))⟩
      have HE := Lib.hid hend
      have HR := Lib.hid r0
      clear hend hown hnx r0
      have q0 : ∀ x y : Value, ((wr.setCell ⟨w.heap.size, 0, none⟩ x).setCell ⟨w.heap.size, 1, none⟩ y).cell? ⟨w.heap.size, 0, none⟩ = some x := fun x y => by
        have h1 := heap_setCell_same wr w.heap.size 0 _ _ x HR.out
        have h2 := heap_setCell_same _ w.heap.size 1 _ _ y h1
        simp [World.cell?, h2]
      have q1 : ∀ x y : Value, ((wr.setCell ⟨w.heap.size, 0, none⟩ x).setCell ⟨w.heap.size, 1, none⟩ y).cell? ⟨w.heap.size, 1, none⟩ = some y := fun x y => by
        have h1 := heap_setCell_same wr w.heap.size 0 _ _ x HR.out
        have h2 := heap_setCell_same _ w.heap.size 1 _ _ y h1
        simp [World.cell?, h2]
      have Q0 := Lib.hid q0; have Q1 := Lib.hid q1; clear q0 q1
      go_wp2
      have q0 := Q0.out; have q1 := Q1.out
      refine bodyPost_ret (v := .agg #[.slice a fs.length c, .map (some (w.heap.size + 1))]) (by simp [results, Tryz.results104, go_sem, q0, q1]) rfl ⟨rfl, D, (HE.out _ _).1, hD.out, (HE.out _ _).2⟩
end Go.Proofs.YtbhnjnoblkfckabGreatDoor

-- from XVals
/- Fields: the values of a name, by the program and by the specification. -/
namespace Go.Proofs.YtbhnjnoblkfckabGreatDoor
open Go.RowKit Go.Maps

theorem Tryz.infoStr : (Tryz.prog.info? 9).map (fun i => (i.zero, i.size, i.bytes)) = some (some (.string ⟨#[]⟩), 1, 16) := by kernel_rfl

set_option maxHeartbeats 400000 in
theorem fresh_v (s : ByteArray) (w : World) (hs : s.size ≤ 281474976710656) :
    Calls Tryz.prog 43 #[.string s] w fun e w' => e = .returned (.string s) ∧ Below w.heap.size w w' := by
  go_enter Tryz.func43, Tryz.ntmps43
  go_wp2_with (first | (go_at_call 134; refine (Tryz.stringslite_Clone _ _ hs).mono ?_; rintro e w' ⟨rfl, hb⟩) | go_in)
  go_ret
  exact ⟨rfl, hb⟩

def sV (s : ByteArray) : Value := .string s

theorem own_low {w : World} {B B' : Nat} {e : TypeId} {size : Nat} {v : Value} {n : Nat} {xs : List Value} (h : w.ownsRow B e size v n xs) (hB : B' ≤ B) : w.ownsRow B' e size v n xs := by
  refine ⟨h.1, ?_⟩
  rcases h.2 with h | ⟨g, cap, cur, h, hb, rest⟩
  · exact .inl h
  · exact .inr ⟨g, cap, cur, h, Nat.le_trans hB hb, rest⟩

theorem str_ne {a b : ByteArray} (h : a ≠ b) : (a.toList == b.toList) = false := by
  rw [Lib.toList_data, Lib.toList_data]
  simpa using fun e => h (str_inj e)
theorem str_same (a : ByteArray) : (a.toList == a.toList) = true := by simp

theorem valAt_of {fs : List Fd} {j : Nat} {f : Fd} (h : fs[j]? = some f) : valAt fs (j : Int) = f.2 := by simp [valAt, h]

set_option maxHeartbeats 800000 in
theorem values_of (v : Value) (fs : List Fd) (s : ByteArray) (base b : Nat) (D : DataW Unit) (w : World) (hF : FRow w v fs) (hok : FOk fs 281474976710656) (hg : w.ownsGroups Tryz.prog 9 base 3 .i64 b fs.length D) (hD : Holds D fs fs.length) (hn : fs.length ≤ 2000000) (hs : s.size ≤ maxLen) :
    Calls Tryz.prog 105 #[.agg #[v, .map (some b)], .string s] w fun e w' => ∃ u, e = .returned u ∧ w'.ownsRow w.heap.size 9 1 u (allTo fs s fs.length).length ((allTo fs s fs.length).map sV) ∧ Below w.heap.size w w' := by
  obtain ⟨i0, hi, hz0, hz1, hz2⟩ := info_parts Tryz.infoStr
  obtain ⟨a, c, rfl, h1, h2, h3⟩ := hF
  unfold maxLen at h2
  obtain ⟨u, zs, hlook, hat, hoi, hzl, _⟩ := groups_at hg law9 Tryz.underlying128 zeroInts (by unfold maxLen; omega) (Go.WideMaps.keyOf_string_mk Tryz.underlying9 hs)
  have hblt : b < w.heap.size := by
    obtain ⟨es, clock, hb0, _⟩ := hg
    exact (Array.getElem?_eq_some_iff.1 hb0).1
  rw [hD.2 s] at hat
  have hzs := rowD_inv hoi hat
  have hlt := idx_lt fs s fs.length
  rw [← idx_vals, ← hzs, List.length_map, List.map_map]
  rw [← hzs] at hlt
  have lk1 : ∀ o, (Instr.lookup 128 (.map (some b)) (.string s) false).run Tryz.prog (w.alloc o) = .ok u (w.alloc o) := fun o => hlook _ (Below.heap_alloc w o _ hblt)
  have hu : u = .slice none 0 0 ∧ zs = [] ∨ ∃ g cap, u = .slice (some ⟨g, 0, none⟩) zs.length cap := by
    rcases hoi.1.2 with ⟨e1, e2⟩ | ⟨g, cap, _, e1, _⟩
    · exact .inl ⟨e1, List.eq_nil_of_length_eq_zero e2⟩
    · exact .inr ⟨g, cap, e1⟩
  obtain ⟨ua, ucap, hue⟩ : ∃ ua ucap, u = .slice ua zs.length ucap := by
    rcases hu with ⟨e1, e2⟩ | ⟨g, cap, e1⟩
    · exact ⟨none, 0, by rw [e1, e2]; rfl⟩
    · exact ⟨_, _, e1⟩
  have hcell : ∀ k, k < zs.length → ∃ g, ua = some ⟨g, 0, none⟩ ∧ g < w.heap.size ∧ ∃ j : Nat, ∃ f, zs[k]? = some (j : Int) ∧ fs[j]? = some f ∧ w.cell? ⟨g, k, none⟩ = some (.int .i64 (j : Int)) := fun k hk => by
    rcases hu with ⟨_, e2⟩ | ⟨g, cap, e1⟩
    · rw [e2] at hk; simp at hk
    · rw [hue] at e1
      injection e1 with e1 _ _
      have hg1 : g < w.heap.size := (hoi.1.lt g (by rw [hue, e1]; rfl)).2
      have hm := hlt zs[k] (List.getElem_mem _)
      obtain ⟨j, hj⟩ := Int.eq_ofNat_of_zero_le hm.1
      have hjl : j < fs.length := by omega
      refine ⟨g, e1, hg1, j, fs[j], by rw [List.getElem?_eq_getElem hk, hj], List.getElem?_eq_getElem hjl, ?_⟩
      have hc := hoi.1.cells (g := g) (by rw [hue, e1]; rfl) k (.int .i64 zs[k]) (by simp [List.getElem?_eq_getElem hk])
      have hadd : (⟨g, 0, none⟩ : Addr).add k = ⟨g, k, none⟩ := by unfold Addr.add; split <;> simp_all
      rw [hadd, hj] at hc
      exact hc
  subst hue
  have H3 := Lib.hid h3; have HC := Lib.hid hcell; have HOK := Lib.hid hok
  have hz2k : zs.length ≤ 2000000 := by omega
  clear h3 hcell hlt hu hoi hat hD hg hlook hok hzs hzl
  go_enter Tryz.func105, Tryz.ntmps105
  go_wp2
  go_loopw [5, 13] (fun x i wr => ∃ k : Nat, k ≤ zs.length ∧ i = .int .i64 k ∧ wr.ownsRow (w.heap.size + 1) 9 1 x k ((zs.take k).map (sV ∘ valAt fs)) ∧ Below (w.heap.size + 1) (w.alloc (.cells #[.slice a fs.length c, .map (some b)] 130)) wr) (fun _ i _ => zs.length - (intOf i).toNat)
  case atStart => exact ⟨0, Nat.zero_le _, rfl, World.ownsRow_nil _ _ _ _, Below.refl _ _⟩
  case round =>
    obtain ⟨k, hk, rfl, hown, hnx⟩ := hrel
    by_cases hlt : k < zs.length
    · obtain ⟨g, rfl, hglt, j, f, hzk, hfj, c0⟩ := HC.out k hlt
      obtain ⟨b1, o1, rfl, hb1, c1, c2⟩ := H3.out j f hfj
      have hW : Below w.heap.size w (w.alloc (.cells #[.slice (some ⟨b1, o1, none⟩) fs.length c, .map (some b)] 130)) := (Below.refl _ _).alloc (Nat.le_refl _) _
      have hww : Below w.heap.size w wr := hW.trans (hnx.mono (Nat.le_succ _))
      have r0 := (hnx.block w.heap.size (Nat.lt_succ_self _)).trans (heap_alloc_new w _)
      have k0 : wr.cell? ⟨w.heap.size, 0, none⟩ = some (.slice (some ⟨b1, o1, none⟩) fs.length c) := by simp [World.cell?, r0]
      have k1 := (hww.cell (p := ⟨g, k, none⟩) hglt).trans c0
      have k2 := (hww.cell (p := ⟨b1, o1 + j * 2 + 1, none⟩) hb1).trans c2
      have hjl : j < fs.length := (List.getElem?_eq_some_iff.1 hfj).1
      have hfo := (HOK.out f (List.mem_of_getElem? hfj)).2
      have hv := valAt_of hfj
      have htk : (zs.take (k + 1)).map (sV ∘ valAt fs) = (zs.take k).map (sV ∘ valAt fs) ++ [.string f.2] := by
        rw [List.take_add_one, hzk, List.map_append]; simp [sV, hv]
      obtain ⟨fn, fv⟩ := f
      have HT := Lib.hid htk
      have HX := Lib.hid hnx
      clear c0 c1 c2 hW hww r0 hv htk hzk hfj
      go_wp2_with fail
      refine (fresh_v _ _ hfo).mono ?_
      rintro e w1 ⟨rfl, hb1⟩
      have hown1 := own_below hown hb1
      have hsz := HX.out.size
      simp at hsz
      have hbel1 := HX.out.trans (hb1.mono hsz)
      have hsz1 := hbel1.size
      simp at hsz1
      clear hown hnx
      go_wp2_with (at_builtin; go_must (refine wpList_append1 w1 rfl _ _ 64 rfl (w.heap.size + 1) 9 i0 _ 16 Tryz.underlying64 hi hz0 hz1 hz2 rfl _ _ _ (by rfl) hown1 _ rfl _ (by rfl) (by unfold maxLen; omega) (by omega) (by omega) ?_); intro v' w3 ho3 hb3 hlt3)
      go_roundw
      case rel => exact ⟨k + 1, by omega, by go_num, HT.out ▸ ho3, hbel1.trans hb3⟩
      case measure => simp [intOf]; omega
    · have hkn : k = zs.length := by omega
      subst hkn
      go_wp2
      go_ret
      rw [List.take_of_length_le (Nat.le_refl _)] at hown
      exact ⟨_, rfl, own_low hown (Nat.le_succ _), ((Below.refl _ _).alloc (Nat.le_refl _) _).trans (hnx.mono (Nat.le_succ _))⟩

set_option maxHeartbeats 400000 in
theorem impl_all (v : Value) (fs : List Fd) (s : ByteArray) (w : World) (hF : FRow w v fs) (hok : FOk fs 281474976710656) (hn : fs.length ≤ 2000000) (hs : s.size ≤ maxLen) :
    Calls Tryz.prog 53 #[v, .string s] w fun e w' => ∃ u, e = .returned u ∧ w'.ownsRow w.heap.size 9 1 u (allTo fs s fs.length).length ((allTo fs s fs.length).map sV) ∧ Below w.heap.size w w' := by
  have HF := Lib.hid hF
  obtain ⟨a, c, rfl, h1, h2, h3⟩ := hF
  clear h3
  go_enter Tryz.func53, Tryz.ntmps53
  go_wp2_with fail
  refine (fields_of _ fs _ HF.out (fun f hf => ?_) hn).mono ?_
  · have := hok f hf; unfold maxLen; omega
  rintro e w1 ⟨rfl, D, hg, hD, hb1⟩
  have hF1 := HF.out.below (Nat.le_refl _) hb1
  go_wp2_with fail
  refine (values_of _ fs _ _ _ D _ hF1 hok hg hD hn hs).mono ?_
  rintro e w2 ⟨u, rfl, ho, hb2⟩
  have hbel := hb1.trans (hb2.mono hb1.size)
  have ho2 := own_low ho hb1.size
  clear ho hF1
  go_wp2
  go_ret
  exact ⟨u, rfl, ho2, hbel⟩

set_option maxHeartbeats 800000 in
theorem spec_all (v : Value) (fs : List Fd) (s : ByteArray) (w : World) (hF : FRow w v fs) (hn : fs.length ≤ 2000000) :
    Calls Tryz.prog 93 #[v, .string s] w fun e w' => ∃ u, e = .returned u ∧ w'.ownsRow w.heap.size 9 1 u (allTo fs s fs.length).length ((allTo fs s fs.length).map sV) ∧ Below w.heap.size w w' := by
  obtain ⟨i0, hi, hz0, hz1, hz2⟩ := info_parts Tryz.infoStr
  obtain ⟨a, c, rfl, h1, h2, h3⟩ := hF
  unfold maxLen at h2
  have H3 := Lib.hid h3; clear h3
  go_enter Tryz.func93, Tryz.ntmps93
  go_wp2
  go_loopw [5, 6] (fun x i wr => ∃ k : Nat, k ≤ fs.length ∧ i = .int .i64 k ∧ wr.ownsRow w.heap.size 9 1 x (allTo fs s k).length ((allTo fs s k).map sV) ∧ Below w.heap.size w wr ∧ (allTo fs s k).length ≤ k) (fun _ i _ => fs.length - (intOf i).toNat)
  case atStart => exact ⟨0, Nat.zero_le _, rfl, World.ownsRow_made _ #[] 0 (Nat.le_refl _) (by decide) rfl, (Below.refl _ _).alloc (Nat.le_refl _) _, Nat.le_refl _⟩
  case round =>
    obtain ⟨k, hk, rfl, hown, hnx, hkl⟩ := hrel
    by_cases hlt : k < fs.length
    · obtain ⟨b1, o1, rfl, hb1, c1, c2⟩ := H3.out k fs[k] (List.getElem?_eq_getElem hlt)
      obtain ⟨f, hf⟩ : ∃ f, f = fs[k] := ⟨_, rfl⟩
      rw [← hf] at c1 c2
      have hfk : fs[k]? = some f := by rw [hf]; exact List.getElem?_eq_getElem hlt
      clear hf
      have hat := allTo_at s hfk
      obtain ⟨nm, vl⟩ := f
      have k1 := (hnx.cell (p := ⟨b1, o1 + k * 2, none⟩) hb1).trans c1
      have k2 := (hnx.cell (p := ⟨b1, o1 + k * 2 + 1, none⟩) hb1).trans c2
      clear c1 c2 hfk
      by_cases hs : nm = s
      · rw [if_pos hs] at hat
        have HT := Lib.hid hat; clear hat
        subst hs
        go_wp2_with (at_builtin; go_must (refine wpList_append1 wr rfl _ _ 64 rfl w.heap.size 9 i0 _ 16 Tryz.underlying64 hi hz0 hz1 hz2 rfl _ _ _ (by rfl) hown _ rfl _ (by rfl) (by unfold maxLen; omega) (by omega) hnx.size ?_); intro v' w3 ho3 hb3 hlt3)
        go_roundw
        case rel => refine ⟨k + 1, by omega, by go_num, ?_, hnx.trans hb3, ?_⟩ <;> rw [HT.out]
                    · simpa [sV] using ho3
                    · simp; omega
        case measure => simp [intOf]; omega
      · rw [if_neg hs] at hat
        have HT := Lib.hid hat; clear hat
        have hse := str_ne hs
        have HO := Lib.hid hown
        clear hown hs
        go_wp2
        go_roundw
        case rel => refine ⟨k + 1, by omega, by go_num, ?_, hnx, ?_⟩ <;> rw [HT.out]
                    · exact HO.out
                    · omega
        case measure => simp [intOf]; omega
    · have hkn : k = fs.length := by omega
      subst hkn
      go_wp2
      go_ret
      exact ⟨_, rfl, hown, hnx⟩
end Go.Proofs.YtbhnjnoblkfckabGreatDoor

-- from XFOne
/- Fields: the only value of a name. -/
namespace Go.Proofs.YtbhnjnoblkfckabGreatDoor
open Go.RowKit Go.Maps

def oneOf : List ByteArray → ByteArray × Bool
  | [x] => (x, true)
  | _ => (⟨#[]⟩, false)
theorem oneOf_one {l : List ByteArray} (h : l.length = 1) : ∃ x, l = [x] ∧ oneOf l = (x, true) := by
  match l, h with
  | [x], _ => exact ⟨x, rfl, rfl⟩
theorem oneOf_not {l : List ByteArray} (h : l.length ≠ 1) : oneOf l = (⟨#[]⟩, false) := by
  match l with
  | [] => rfl
  | [x] => simp at h
  | _ :: _ :: _ => rfl

theorem own_len {w : World} {B : Nat} {e : TypeId} {v : Value} {n : Nat} {xs : List Value} (h : w.ownsRow B e 1 v n xs) : ∃ a c, v = .slice a n c := by
  rcases h.2 with ⟨h, h0⟩ | ⟨g, cap, cur, h, _⟩
  · exact ⟨none, 0, by rw [h, h0]⟩
  · exact ⟨_, _, h⟩

theorem all_len (fs : List Fd) (s : ByteArray) (k : Nat) : (allTo fs s k).length ≤ k := by
  rw [← idx_vals, List.length_map]; exact idx_len fs s k

set_option maxHeartbeats 400000 in
theorem impl_one (v : Value) (fs : List Fd) (s : ByteArray) (w : World) (hF : FRow w v fs) (hok : FOk fs 281474976710656) (hn : fs.length ≤ 2000000) (hs : s.size ≤ maxLen) :
    Calls Tryz.prog 16 #[v, .string s] w fun e w' => e = .returned (.tuple #[.string (oneOf (allTo fs s fs.length)).1, .bool (oneOf (allTo fs s fs.length)).2]) ∧ Below w.heap.size w w' := by
  have hlen := all_len fs s fs.length
  have HF := Lib.hid hF
  obtain ⟨a, c, rfl, h1, h2, h3⟩ := hF
  clear h3
  go_enter Tryz.func16, Tryz.ntmps16
  go_wp2_with fail
  refine (impl_all _ fs s _ HF.out hok hn hs).mono ?_
  rintro e w1 ⟨u, rfl, ho, hb⟩
  generalize hL : allTo fs s fs.length = L at *
  by_cases hl : L.length = 1
  · obtain ⟨x, rfl, h2⟩ := oneOf_one hl
    have H2 := Lib.hid h2
    have HL := Lib.hid hL
    obtain ⟨g, cap, rfl⟩ := own_form ho (by simp)
    have hc := own_cell ho (j := 0) (u := .string x) (by simp [sV])
    clear ho hl h2 hL
    simp only [List.length_singleton]
    go_wp2
    go_ret2
    rw [HL.out, H2.out]
    exact ⟨rfl, hb⟩
  · obtain ⟨g, cap, rfl⟩ := own_len ho
    have HL := Lib.hid hL
    clear ho hL
    have hl' : ((L.length : Int) != 1) = true := by simp; omega
    go_wp2
    go_ret2
    rw [HL.out, oneOf_not hl]
    exact ⟨rfl, hb⟩

set_option maxHeartbeats 400000 in
theorem spec_one (v : Value) (fs : List Fd) (s : ByteArray) (w : World) (hF : FRow w v fs) (hn : fs.length ≤ 2000000) :
    Calls Tryz.prog 37 #[v, .string s] w fun e w' => e = .returned (.tuple #[.string (oneOf (allTo fs s fs.length)).1, .bool (oneOf (allTo fs s fs.length)).2]) ∧ Below w.heap.size w w' := by
  have hlen := all_len fs s fs.length
  have HF := Lib.hid hF
  obtain ⟨a, c, rfl, h1, h2, h3⟩ := hF
  clear h3
  go_enter Tryz.func37, Tryz.ntmps37
  go_wp2_with fail
  refine (spec_all _ fs s _ HF.out hn).mono ?_
  rintro e w1 ⟨u, rfl, ho, hb⟩
  generalize hL : allTo fs s fs.length = L at *
  by_cases hl : L.length = 1
  · obtain ⟨x, rfl, h2⟩ := oneOf_one hl
    have H2 := Lib.hid h2
    have HL := Lib.hid hL
    obtain ⟨g, cap, rfl⟩ := own_form ho (by simp)
    have hc := own_cell ho (j := 0) (u := .string x) (by simp [sV])
    clear ho hl h2 hL
    simp only [List.length_singleton]
    go_wp2
    go_ret2
    rw [HL.out, H2.out]
    exact ⟨rfl, hb⟩
  · obtain ⟨g, cap, rfl⟩ := own_len ho
    have HL := Lib.hid hL
    clear ho hL
    have hl' : ((L.length : Int) != 1) = true := by simp; omega
    go_wp2
    go_ret2
    rw [HL.out, oneOf_not hl]
    exact ⟨rfl, hb⟩
end Go.Proofs.YtbhnjnoblkfckabGreatDoor

