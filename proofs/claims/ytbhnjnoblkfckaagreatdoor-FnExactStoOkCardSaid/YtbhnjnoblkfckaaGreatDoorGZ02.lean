import Derived.Test.YtbhnjnoblkfckaaGreatDoorGZ00
import Derived.Maps.OwnRows
import Derived.Maps.Views
import Derived.Test.YtbhnjnoblkfckaaGreatDoorRows
import Derived.Test.YtbhnjnoblkfckaaGreatDoorShelf
import Derived.WalkKit
import Derived.WalkSpells
import Derived.WalkLawsBesides
import Derived.BigQuiet
import Derived.Deep.RegionLaw
import Derived.Deep.AppendLies
import Derived.Lib.Hide
-- from XUri
/- Places: plain functions on lists of bytes, and walks of the small helpers: digits of codes, codes, paths, what lies under. -/
namespace Go.Proofs.YtbhnjnoblkfckaaGreatDoor
open Go.RowKit

/-- What a digit of a code says. -/
def hexV (c : UInt8) : Option Nat :=
  if 48 ≤ c.toNat ∧ c.toNat ≤ 57 then some (c.toNat - 48) else if 97 ≤ c.toNat ∧ c.toNat ≤ 102 then some (c.toNat - 87) else if 65 ≤ c.toNat ∧ c.toNat ≤ 70 then some (c.toNat - 55) else none

theorem hexV_lt {c : UInt8} {x : Nat} (h : hexV c = some x) : x < 16 := by
  unfold hexV at h
  split at h
  · simp at h; omega
  · split at h
    · simp at h; omega
    · split at h
      · simp at h; omega
      · cases h

theorem hexV_cases (c : UInt8) : (48 ≤ c.toNat ∧ c.toNat ≤ 57 ∧ hexV c = some (c.toNat - 48)) ∨ (97 ≤ c.toNat ∧ c.toNat ≤ 102 ∧ hexV c = some (c.toNat - 87)) ∨ (65 ≤ c.toNat ∧ c.toNat ≤ 70 ∧ hexV c = some (c.toNat - 55)) ∨
    ((c.toNat < 48 ∨ (58 ≤ c.toNat ∧ c.toNat ≤ 64) ∨ (71 ≤ c.toNat ∧ c.toNat ≤ 96) ∨ 103 ≤ c.toNat) ∧ hexV c = none) := by
  unfold hexV
  by_cases h1 : 48 ≤ c.toNat ∧ c.toNat ≤ 57
  · exact .inl ⟨h1.1, h1.2, if_pos h1⟩
  · by_cases h2 : 97 ≤ c.toNat ∧ c.toNat ≤ 102
    · exact .inr (.inl ⟨h2.1, h2.2, by rw [if_neg h1, if_pos h2]⟩)
    · by_cases h3 : 65 ≤ c.toNat ∧ c.toNat ≤ 70
      · exact .inr (.inr (.inl ⟨h3.1, h3.2, by rw [if_neg h1, if_neg h2, if_pos h3]⟩))
      · exact .inr (.inr (.inr ⟨by omega, by rw [if_neg h1, if_neg h2, if_neg h3]⟩))

theorem hexV_37 : hexV 37 = none := by decide

theorem wrap_u8 (r : Nat) (h : r < 256) : IntKind.u8.wrap (r : Int) = (r : Int) := by simp [IntKind.wrap, IntKind.bits, IntKind.signed]; omega

def hexI (c : UInt8) : Int := match hexV c with | some x => (x : Int) | none => -1

set_option maxHeartbeats 400000 in
theorem l2_hex (c : UInt8) (w : World) :
    Calls Tryz.prog 129 #[.int .u8 c.toNat] w fun e w' => e = .returned (.int .i64 (hexI c)) ∧ w = w' := by
  have hc := c.toNat_lt
  unfold hexI
  rcases hexV_cases c with ⟨h1, h2, e⟩ | ⟨h1, h2, e⟩ | ⟨h1, h2, e⟩ | ⟨hr, e⟩
  · rw [e]; clear e
    generalize c.toNat = n at *
    go_enter Tryz.func129, Tryz.ntmps129
    go_wp2
    go_ret
    exact ⟨by go_num, rfl⟩
  · rw [e]; clear e
    generalize c.toNat = n at *
    go_enter Tryz.func129, Tryz.ntmps129
    go_wp2
    go_ret
    exact ⟨by go_num, rfl⟩
  · rw [e]; clear e
    generalize c.toNat = n at *
    go_enter Tryz.func129, Tryz.ntmps129
    go_wp2
    go_ret
    exact ⟨by go_num, rfl⟩
  · rw [e]; clear e
    generalize c.toNat = n at *
    rcases hr with hr | ⟨h1, h2⟩ | ⟨h1, h2⟩ | hr
    all_goals go_enter Tryz.func129, Tryz.ntmps129
    all_goals go_wp2
    all_goals go_ret
    all_goals exact ⟨rfl, rfl⟩

set_option maxHeartbeats 400000 in
theorem hex_value_some (c : UInt8) (x : Nat) (hx : hexV c = some x) (w : World) :
    Calls Tryz.prog 147 #[.int .u8 c.toNat] w fun e w' => e = .returned (.tuple #[.int .u8 (x : Int), .bool true]) ∧ w = w' := by
  have hc := c.toNat_lt
  rcases hexV_cases c with ⟨h1, h2, e⟩ | ⟨h1, h2, e⟩ | ⟨h1, h2, e⟩ | ⟨hr, e⟩
  · rw [e] at hx; obtain rfl := Option.some.inj hx; clear e hx
    generalize c.toNat = n at *
    go_enter Tryz.func147, Tryz.ntmps147
    go_wp2
    go_ret2
    exact ⟨by go_num, rfl⟩
  · rw [e] at hx; obtain rfl := Option.some.inj hx; clear e hx
    generalize c.toNat = n at *
    go_enter Tryz.func147, Tryz.ntmps147
    go_wp2
    go_ret2
    exact ⟨by go_num, rfl⟩
  · rw [e] at hx; obtain rfl := Option.some.inj hx; clear e hx
    generalize c.toNat = n at *
    go_enter Tryz.func147, Tryz.ntmps147
    go_wp2
    go_ret2
    exact ⟨by go_num, rfl⟩
  · rw [e] at hx; cases hx

set_option maxHeartbeats 400000 in
theorem hex_value_none (c : UInt8) (hx : hexV c = none) (w : World) :
    Calls Tryz.prog 147 #[.int .u8 c.toNat] w fun e w' => e = .returned (.tuple #[.int .u8 0, .bool false]) ∧ w = w' := by
  have hc := c.toNat_lt
  rcases hexV_cases c with ⟨h1, h2, e⟩ | ⟨h1, h2, e⟩ | ⟨h1, h2, e⟩ | ⟨hr, e⟩
  · rw [e] at hx; cases hx
  · rw [e] at hx; cases hx
  · rw [e] at hx; cases hx
  · clear e hx
    generalize c.toNat = n at *
    rcases hr with hr | ⟨h1, h2⟩ | ⟨h1, h2⟩ | hr
    all_goals go_enter Tryz.func147, Tryz.ntmps147
    all_goals go_wp2
    all_goals go_ret2
    all_goals exact ⟨rfl, rfl⟩

/-- The byte that the first three bytes are a code of. -/
def codeL : List UInt8 → Option Nat
  | c :: a :: b :: _ => if c = 37 then (match hexV a, hexV b with | some x, some y => some (x * 16 + y) | _, _ => none) else none
  | _ => none
def codeI (l : List UInt8) : Int := match codeL l with | some x => (x : Int) | none => -1

theorem drop_at (s : ByteArray) (k : Nat) (h : k < s.size) : s.data.toList.drop k = s[k] :: s.data.toList.drop (k + 1) := by
  have hk : k < s.data.toList.length := by rw [← size_len]; exact h
  rw [List.drop_eq_getElem_cons hk]; rfl
theorem drop_end (s : ByteArray) (k : Nat) (h : s.size ≤ k) : s.data.toList.drop k = [] := List.drop_of_length_le (by rw [← size_len]; exact h)

theorem codeL_short {l : List UInt8} (h : l.length < 3) : codeL l = none := by
  match l, h with
  | [], _ => rfl
  | [_], _ => rfl
  | [_, _], _ => rfl
  | _ :: _ :: _ :: _, h => simp at h; omega

theorem codeL_cons (a b : UInt8) (l : List UInt8) : codeI (37 :: a :: b :: l) = if hexI a < 0 then -1 else if hexI b < 0 then -1 else hexI a * 16 + hexI b := by
  unfold codeI codeL hexI
  simp only [if_true]
  cases h1 : hexV a with
  | none => simp
  | some x =>
    cases h2 : hexV b with
    | none => simp
    | some y => simp only; rw [if_neg (by omega), if_neg (by omega)]; omega
theorem codeL_ne {c : UInt8} {l : List UInt8} (h : c ≠ 37) : codeL (c :: l) = none := by
  match l with
  | [] => rfl
  | [_] => rfl
  | _ :: _ :: _ => simp [codeL, h]
theorem hexI_in (c : UInt8) : -1 ≤ hexI c ∧ hexI c < 16 := by
  unfold hexI; cases h1 : hexV c with
  | none => simp
  | some x => have := hexV_lt h1; simp only; omega
theorem codeI_ne {c : UInt8} {l : List UInt8} (h : c ≠ 37) : codeI (c :: l) = -1 := by unfold codeI; rw [codeL_ne h]

set_option maxHeartbeats 400000 in
theorem l2_code (s : ByteArray) (k : Nat) (hk : k < s.size) (w : World) (hs : s.size ≤ maxLen) :
    Calls Tryz.prog 112 #[.string s, .int .i64 k] w fun e w' => e = .returned (.int .i64 (codeI (s.data.toList.drop k))) ∧ w = w' := by
  unfold maxLen at hs
  by_cases h3 : k + 3 ≤ s.size
  · rw [drop_at s k hk, drop_at s (k + 1) (by omega), drop_at s (k + 1 + 1) (by omega)]
    by_cases hc : s[k] = 37
    · rw [hc, codeL_cons]
      have b1 := hexI_in s[k + 1]
      have b2 := hexI_in s[k + 1 + 1]
      have c1 := fun W => l2_hex s[k + 1] W
      have c2 := fun W => l2_hex s[k + 1 + 1] W
      have hc' : ((s[k].toNat : Int) != 37) = false := by rw [hc]; rfl
      clear hc
      generalize hexI s[k + 1] = x at *
      generalize hexI s[k + 1 + 1] = y at *
      obtain ⟨R, hR⟩ : ∃ R : Int, R = if x < 0 then -1 else if y < 0 then -1 else x * 16 + y := ⟨_, rfl⟩
      rw [← hR]
      have HR := Lib.hid hR; clear hR
      go_enter Tryz.func112, Tryz.ntmps112
      go_wp2_with fail
      refine (c1 _).mono ?_
      rintro e w' ⟨rfl, rfl⟩
      go_wp2_with fail
      refine (c2 _).mono ?_
      rintro e w' ⟨rfl, rfl⟩
      clear c1 c2
      by_cases hx : x < 0
      · go_wp2
        go_ret
        exact ⟨by rw [HR.out, if_pos hx]; rfl, rfl⟩
      · by_cases hy : y < 0
        · go_wp2
          go_ret
          exact ⟨by rw [HR.out, if_neg (by omega), if_pos hy]; rfl, rfl⟩
        · go_wp2
          go_ret
          refine ⟨?_, rfl⟩
          rw [HR.out, if_neg (by omega), if_neg (by omega)]; go_num
    · rw [codeI_ne hc]
      have hc' : ((s[k].toNat : Int) != 37) = true := by
        simp only [bne_iff_ne]; intro h
        exact hc (UInt8.toNat_inj.mp (by have e : (37 : UInt8).toNat = 37 := rfl; omega))
      clear hc
      go_enter Tryz.func112, Tryz.ntmps112
      go_wp2
      go_ret
      exact ⟨rfl, rfl⟩
  · have he : codeI (s.data.toList.drop k) = -1 := by unfold codeI; rw [codeL_short (by rw [List.length_drop, ← size_len]; omega)]
    rw [he]; clear he
    go_enter Tryz.func112, Tryz.ntmps112
    go_wp2
    go_ret
    exact ⟨rfl, rfl⟩

def pathL (l : List UInt8) : List UInt8 := (cutL l 63).1

end Go.Proofs.YtbhnjnoblkfckaaGreatDoor

-- from XMeans
/- Places: the bytes that a place means: the machine that takes it byte by byte, and its model. -/
namespace Go.Proofs.YtbhnjnoblkfckaaGreatDoor
open Go.RowKit

/-- The bytes that a text means: each code replaced by its byte. -/
def meansL : List UInt8 → List UInt8
  | [] => []
  | c :: l => match codeL (c :: l) with
    | some n => UInt8.ofNat n :: meansL (l.drop 2)
    | none => c :: meansL l
termination_by l => l.length
decreasing_by
  · simp; omega
  · simp

theorem meansL_nil : meansL [] = [] := by rw [meansL]
theorem meansL_none {c : UInt8} {l : List UInt8} (h : codeL (c :: l) = none) : meansL (c :: l) = c :: meansL l := by rw [meansL]; rw [h]
theorem meansL_some {c : UInt8} {l : List UInt8} {n : Nat} (h : codeL (c :: l) = some n) : meansL (c :: l) = UInt8.ofNat n :: meansL (l.drop 2) := by rw [meansL]; rw [h]
theorem meansL_len (l : List UInt8) : (meansL l).length ≤ l.length := by
  induction h : l.length using Nat.strongRecOn generalizing l with
  | _ n ih =>
    subst h
    match l with
    | [] => rw [meansL_nil]; simp
    | c :: l =>
      cases hc : codeL (c :: l) with
      | none => rw [meansL_none hc]; have := ih l.length (by simp) l rfl; simp; omega
      | some m => rw [meansL_some hc]; have := ih (l.drop 2).length (by simp; omega) (l.drop 2) rfl; simp at this ⊢; omega

theorem codeL_two {a b : UInt8} {l : List UInt8} : codeL (37 :: a :: b :: l) = match hexV a, hexV b with | some x, some y => some (x * 16 + y) | _, _ => none := by unfold codeL; simp only [if_true]; try rfl
theorem codeL_37_none {a : UInt8} {l : List UInt8} (h : hexV a = none) : codeL (37 :: a :: l) = none := by
  match l with
  | [] => rfl
  | b :: l => rw [codeL_two, h]
theorem codeL_37_none2 {a b : UInt8} {l : List UInt8} (h : hexV b = none) : codeL (37 :: a :: b :: l) = none := by
  rw [codeL_two, h]; cases hexV a <;> rfl
theorem codeL_37_some {a b : UInt8} {l : List UInt8} {x y : Nat} (h : hexV a = some x) (h2 : hexV b = some y) : codeL (37 :: a :: b :: l) = some (x * 16 + y) := by
  rw [codeL_two, h, h2]
theorem codeL_lt {l : List UInt8} {n : Nat} (h : codeL l = some n) : n < 256 := by
  match l, h with
  | c :: a :: b :: l, h =>
    by_cases hc : c = 37
    · subst hc
      rw [codeL_two] at h
      cases ha : hexV a with
      | none => rw [ha] at h; cases h
      | some x =>
        cases hb : hexV b with
        | none => rw [ha, hb] at h; cases h
        | some y =>
          rw [ha, hb] at h
          have := hexV_lt ha; have := hexV_lt hb; have := Option.some.inj h; omega
    · rw [codeL_ne hc] at h; cases h
  | [], h => cases h
  | [_], h => cases h
  | [_, _], h => cases h
theorem hex_ne_37 {a : UInt8} {x : Nat} (h : hexV a = some x) : a ≠ 37 := by rintro rfl; rw [hexV_37] at h; cases h

end Go.Proofs.YtbhnjnoblkfckaaGreatDoor

-- from XCanL
/- Places: their plainest form, on lists of bytes; no walk. -/
namespace Go.Proofs.YtbhnjnoblkfckaaGreatDoor
open Go.RowKit

def freeB (c : UInt8) : Bool := isSmall c || isGreat c || c == 95 || c == 126 || c == 46
def doubtB (n : Nat) : Bool := n == 46 || n == 47 || n == 63 || n == 37 || n == 38 || n == 61
def hexU (k : Nat) : UInt8 := if k < 10 then UInt8.ofNat (48 + k) else UInt8.ofNat (55 + k)
def upperL (n : Nat) : List UInt8 := [37, hexU (n / 16), hexU (n % 16)]
def putC (n : Nat) : List UInt8 := if freeB (UInt8.ofNat n) = true then [UInt8.ofNat n] else upperL n
def okLit (asks : Bool) (c : UInt8) : Bool := freeB c || (c == 47 && !asks) || (asks && (c == 61 || c == 38))

/-- A path, or what is asked, in its plainest form. -/
def plainL (asks : Bool) : List UInt8 → Option (List UInt8)
  | [] => some []
  | c :: l => match codeL (c :: l) with
    | some n => if doubtB n = true then none else (plainL asks (l.drop 2)).map (putC n ++ ·)
    | none => if okLit asks c = true then (plainL asks l).map (c :: ·) else none
termination_by l => l.length
decreasing_by
  · simp; omega
  · simp

theorem plainL_nil (asks : Bool) : plainL asks [] = some [] := by rw [plainL]
theorem plainL_code {asks : Bool} {c : UInt8} {l : List UInt8} {n : Nat} (h : codeL (c :: l) = some n) : plainL asks (c :: l) = if doubtB n = true then none else (plainL asks (l.drop 2)).map (putC n ++ ·) := by rw [plainL]; rw [h]
theorem plainL_lit {asks : Bool} {c : UInt8} {l : List UInt8} (h : codeL (c :: l) = none) : plainL asks (c :: l) = if okLit asks c = true then (plainL asks l).map (c :: ·) else none := by rw [plainL]; rw [h]
theorem okLit_37 (asks : Bool) : okLit asks 37 = false := by cases asks <;> decide
theorem plainL_bad {asks : Bool} {l : List UInt8} (h : codeL (37 :: l) = none) : plainL asks (37 :: l) = none := by rw [plainL_lit h, okLit_37]; rfl
theorem codeL_head {c : UInt8} {l : List UInt8} {n : Nat} (h : codeL (c :: l) = some n) : c = 37 := by
  rcases Decidable.em (c = 37) with e | e
  · exact e
  · rw [codeL_ne e] at h; cases h

def isDots (l : List UInt8) : Bool := l == [46] || l == [46, 46]
def segsOk : List (List UInt8) → Bool
  | [] => true
  | [a] => !isDots a
  | a :: b :: rest => !isDots a && !a.isEmpty && segsOk (b :: rest)
def dotL (l : List UInt8) : Bool := isDots (cutL l 63).1

theorem cutL_cons {b c : UInt8} {l : List UInt8} (h : b ≠ c) : cutL (b :: l) c = (b :: (cutL l c).1, (cutL l c).2.1, (cutL l c).2.2) := by
  conv => lhs; unfold cutL
  rw [if_neg h]
theorem cutL_hit (c : UInt8) (l : List UInt8) : cutL (c :: l) c = ([], l, true) := by unfold cutL; rw [if_pos rfl]
theorem partsL_app (cur l : List UInt8) (h : 47 ∉ cur) : partsL (cur ++ 47 :: l) 47 = cur :: partsL l 47 := by
  rw [partsL_cut, cutL_yes _ _ _ h]; rfl
theorem partsL_one (cur : List UInt8) (h : 47 ∉ cur) : partsL cur 47 = [cur] := by
  rw [partsL_cut, cutL_no _ _ h]; rfl
theorem segsOk_cons (a : List UInt8) (l : List UInt8) : segsOk (a :: partsL l 47) = (!isDots a && !a.isEmpty && segsOk (partsL l 47)) := by
  cases h : partsL l 47 with
  | nil => exact absurd h (partsL_ne _ _)
  | cons b r => rfl

/-- What becomes of the rest of a place behind the form ys, whose last part begins at seg, in the path. -/
def resP (ys : List UInt8) (seg : Nat) (l : List UInt8) : Option (List UInt8) :=
  match plainL false (cutL l 63).1 with
  | none => none
  | some o => if segsOk (partsL (ys.drop seg ++ o) 47) = true then (if (cutL l 63).2.2 = true then (plainL true (cutL l 63).2.1).map (fun m => ys ++ o ++ 63 :: m) else some (ys ++ o)) else none
/-- The same, behind the sign of what is asked. -/
def resQ (ys : List UInt8) (seg : Nat) (l : List UInt8) : Option (List UInt8) := if dotL (ys.drop seg) = true then none else (plainL true l).map (ys ++ ·)
def rootR : List UInt8 → Option (List UInt8)
  | [] => none
  | c :: l => if c = 47 then resP [47] 1 l else none
def canonL (l : List UInt8) : Option (List UInt8) := if l.length = 0 ∨ 40 < l.length then none else rootR l

structure POk (ys : List UInt8) (seg : Nat) : Prop where
  le : seg ≤ ys.length
  ne : 0 < ys.length
  sl : 47 ∉ ys.drop seg
  qm : 63 ∉ ys.drop seg
structure QOk (ys : List UInt8) (seg : Nat) : Prop where
  le : seg ≤ ys.length
  ne : 0 < ys.length
  qm : ∃ cur m, ys.drop seg = cur ++ 63 :: m ∧ 63 ∉ cur

theorem POk.app {ys : List UInt8} {seg : Nat} (h : POk ys seg) (xs : List UInt8) (h1 : 47 ∉ xs) (h2 : 63 ∉ xs) : POk (ys ++ xs) seg := by
  have e : (ys ++ xs).drop seg = ys.drop seg ++ xs := List.drop_append_of_le_length h.le
  exact ⟨by have := h.le; simp; omega, by have := h.ne; simp; omega, by rw [e]; simp [h.sl, h1], by rw [e]; simp [h.qm, h2]⟩
theorem POk.slash {ys : List UInt8} (__h : 0 < ys.length) : POk (ys ++ [47]) (ys.length + 1) :=
  ⟨by simp, by simp, by simp, by simp⟩
theorem POk.ask {ys : List UInt8} {seg : Nat} (h : POk ys seg) : QOk (ys ++ [63]) seg :=
  ⟨by have := h.le; simp; omega, by simp, ys.drop seg, [], List.drop_append_of_le_length h.le, h.qm⟩
theorem QOk.app {ys : List UInt8} {seg : Nat} (h : QOk ys seg) (xs : List UInt8) : QOk (ys ++ xs) seg := by
  have e : (ys ++ xs).drop seg = ys.drop seg ++ xs := List.drop_append_of_le_length h.le
  obtain ⟨cur, m, h1, h2⟩ := h.qm
  exact ⟨by have := h.le; simp; omega, by have := h.ne; simp; omega, cur, m ++ xs, by rw [e, h1]; simp, h2⟩
theorem QOk.dot {ys : List UInt8} {seg : Nat} (h : QOk ys seg) (xs : List UInt8) : dotL ((ys ++ xs).drop seg) = dotL (ys.drop seg) := by
  obtain ⟨cur, m, h1, h2⟩ := h.qm
  rw [List.drop_append_of_le_length h.le, h1]
  unfold dotL
  rw [cutL_yes _ _ _ h2, List.append_assoc, List.cons_append, cutL_yes _ _ _ h2]
theorem POk.dot {ys : List UInt8} {seg : Nat} (h : POk ys seg) : dotL (ys.drop seg) = isDots (ys.drop seg) := by
  unfold dotL; rw [cutL_no _ _ h.qm]

theorem resP_slash {ys : List UInt8} {seg : Nat} {l : List UInt8} (h : POk ys seg) : resP ys seg (47 :: l) = if (!dotL (ys.drop seg) && !(ys.drop seg).isEmpty) = true then resP (ys ++ [47]) (ys.length + 1) l else none := by
  rw [h.dot]
  unfold resP
  rw [cutL_cons (by decide), plainL_lit (codeL_ne (by decide))]
  have e0 : (ys ++ [47]).drop (ys.length + 1) = [] := by simp
  simp only [show okLit false 47 = true from by decide, if_true, e0, List.nil_append]
  cases hp : plainL false (cutL l 63).1 with
  | none => simp
  | some o =>
    simp only [Option.map_some]
    rw [partsL_app _ _ h.sl, segsOk_cons]
    cases h1 : (!isDots (ys.drop seg) && !(ys.drop seg).isEmpty)
    · simp
    · simp
theorem resP_ask {ys : List UInt8} {seg : Nat} {l : List UInt8} (h : POk ys seg) : resP ys seg (63 :: l) = resQ (ys ++ [63]) seg l := by
  unfold resP resQ
  obtain ⟨cur, hc⟩ : ∃ cur, cur = ys.drop seg := ⟨_, rfl⟩
  rw [cutL_hit, plainL_nil, List.drop_append_of_le_length h.le, ← hc]
  have h2 : 63 ∉ cur := hc ▸ h.qm
  have h1 : 47 ∉ cur := hc ▸ h.sl
  have e : dotL (cur ++ [63]) = isDots cur := by unfold dotL; rw [cutL_yes _ _ _ h2]
  simp only [List.append_nil]
  rw [partsL_one _ h1, e]
  have es : segsOk [cur] = !isDots cur := rfl
  rw [es]
  cases isDots cur
  · simp
  · simp
theorem resP_lit {ys : List UInt8} {seg : Nat} {l : List UInt8} {c : UInt8} (h : POk ys seg) (h1 : c ≠ 37) (h2 : c ≠ 63) (h3 : c ≠ 47) : resP ys seg (c :: l) = if freeB c = true then resP (ys ++ [c]) seg l else none := by
  unfold resP
  rw [cutL_cons h2, plainL_lit (codeL_ne h1), List.drop_append_of_le_length h.le]
  have e : okLit false c = freeB c := by unfold okLit; simp [h3]
  rw [e]
  cases freeB c
  · simp
  · simp only [if_true]
    cases hp : plainL false (cutL l 63).1 with
    | none => simp
    | some o => simp
theorem resP_bad1 {ys : List UInt8} {seg : Nat} {l : List UInt8} {c : UInt8} (h1 : hexV c = none) : resP ys seg (37 :: c :: l) = none := by
  unfold resP
  rw [cutL_cons (by decide)]
  have : plainL false (37 :: (cutL (c :: l) 63).1) = none := by
    apply plainL_bad
    by_cases h : c = 63
    · subst h; rw [cutL_hit]; rfl
    · rw [cutL_cons h]; exact codeL_37_none h1
  simp only [this]
theorem hex_ne {a c : UInt8} {x : Nat} (h : hexV a = some x) (hc : hexV c = none) : a ≠ c := by rintro rfl; rw [h] at hc; cases hc
theorem resP_bad2 {ys : List UInt8} {seg : Nat} {l : List UInt8} {a c : UInt8} {x : Nat} (ha : hexV a = some x) (h1 : hexV c = none) : resP ys seg (37 :: a :: c :: l) = none := by
  unfold resP
  rw [cutL_cons (by decide), cutL_cons (hex_ne ha (by decide))]
  have : plainL false (37 :: a :: (cutL (c :: l) 63).1) = none := by
    apply plainL_bad
    by_cases h : c = 63
    · subst h; rw [cutL_hit]; rfl
    · rw [cutL_cons h]; exact codeL_37_none2 h1
  simp only [this]
theorem resP_code {ys : List UInt8} {seg : Nat} {l : List UInt8} {a c : UInt8} {x y : Nat} (h : POk ys seg) (ha : hexV a = some x) (hc : hexV c = some y) :
    resP ys seg (37 :: a :: c :: l) = if doubtB (x * 16 + y) = true then none else resP (ys ++ putC (x * 16 + y)) seg l := by
  unfold resP
  rw [cutL_cons (by decide), cutL_cons (hex_ne ha (by decide)), cutL_cons (hex_ne hc (by decide)), plainL_code (codeL_37_some ha hc), List.drop_append_of_le_length h.le]
  cases doubtB (x * 16 + y)
  · simp only [Bool.false_eq_true, if_false]
    have e : List.drop 2 (a :: c :: (cutL l 63).1) = (cutL l 63).1 := rfl
    rw [e]
    cases hp : plainL false (cutL l 63).1 with
    | none => simp
    | some o => simp
  · simp
theorem resQ_lit {ys : List UInt8} {seg : Nat} {l : List UInt8} {c : UInt8} (h : QOk ys seg) (h1 : c ≠ 37) : resQ ys seg (c :: l) = if okLit true c = true then resQ (ys ++ [c]) seg l else none := by
  unfold resQ
  rw [plainL_lit (codeL_ne h1), h.dot]
  cases okLit true c
  · simp
  · cases dotL (ys.drop seg)
    · simp only [if_true, Bool.false_eq_true, if_false, Option.map_map]
      congr 1; funext m; simp
    · simp
theorem resQ_bad1 {ys : List UInt8} {seg : Nat} {l : List UInt8} {c : UInt8} (h1 : hexV c = none) : resQ ys seg (37 :: c :: l) = none := by
  unfold resQ
  rw [plainL_bad (codeL_37_none h1)]; simp
theorem resQ_bad2 {ys : List UInt8} {seg : Nat} {l : List UInt8} {a c : UInt8} (h1 : hexV c = none) : resQ ys seg (37 :: a :: c :: l) = none := by
  unfold resQ
  rw [plainL_bad (codeL_37_none2 h1)]; simp
theorem resQ_code {ys : List UInt8} {seg : Nat} {l : List UInt8} {a c : UInt8} {x y : Nat} (h : QOk ys seg) (ha : hexV a = some x) (hc : hexV c = some y) :
    resQ ys seg (37 :: a :: c :: l) = if doubtB (x * 16 + y) = true then none else resQ (ys ++ putC (x * 16 + y)) seg l := by
  unfold resQ
  rw [plainL_code (codeL_37_some ha hc), h.dot]
  cases doubtB (x * 16 + y)
  · cases dotL (ys.drop seg)
    · simp only [Bool.false_eq_true, if_false, Option.map_map]
      have e : List.drop 2 (a :: c :: l) = l := rfl
      rw [e]
      congr 1; funext m; simp
    · simp
  · simp
theorem resP_end {ys : List UInt8} {seg : Nat} (h : POk ys seg) : resP ys seg [] = if dotL (ys.drop seg) = true then none else some ys := by
  rw [h.dot]
  unfold resP
  rw [show cutL [] 63 = ([], [], false) from rfl]
  simp only [plainL_nil, List.append_nil]
  rw [partsL_one _ h.sl]
  have es : segsOk [ys.drop seg] = !isDots (ys.drop seg) := rfl
  rw [es]
  cases isDots (ys.drop seg) <;> simp
theorem resQ_end {ys : List UInt8} {seg : Nat} : resQ ys seg [] = if dotL (ys.drop seg) = true then none else some ys := by
  unfold resQ; rw [plainL_nil]; simp
end Go.Proofs.YtbhnjnoblkfckaaGreatDoor

-- from XGrp
/- A map of lists of numbers that the call itself makes: what a look-up gives in whatever world; no function of the program. -/
namespace Go.Proofs.YtbhnjnoblkfckaaGreatDoor
open Go.RowKit
open Go.WideElems (Fit rd_val)
open Go.Maps (Keyed)

theorem grown_set (w : World) (b k : Nat) (x : Value) : w.grownBy (w.setCell ⟨b, k, none⟩ x) (some b) := ⟨rfl, rfl, rfl, by simp, fun j _ hj => heap_setCell_other w ⟨b, k, none⟩ j _ (fun e => hj (by simp [e]))⟩
theorem below_set {w w3 : World} {b k : Nat} {x : Value} (h : Below b w w3) : Below b w (w3.setCell ⟨b, k, none⟩ x) :=
  ⟨h.os, h.tape, h.output, by simpa using h.size, fun j hj => (heap_setCell_other w3 ⟨b, k, none⟩ j _ (by simp; omega)).trans (h.block j hj)⟩
theorem pw_get {α : Type} {R : α → α → Prop} {l : List α} (h : l.Pairwise R) {i j : Nat} {a b : α} (hi : l[i]? = some a) (hj : l[j]? = some b) (hij : i < j) : R a b := by
  obtain ⟨h1, rfl⟩ := List.getElem?_eq_some_iff.1 hi
  obtain ⟨h2, rfl⟩ := List.getElem?_eq_some_iff.1 hj
  exact List.pairwise_iff_getElem.1 h i j h1 h2 hij

section
variable {H : Type} {P : Program} {k : TypeId} {w w' : World} {base : Nat} {e : TypeId} {q : IntKind} {b n : Nat} {D : DataW H}

theorem groups_grown {row : Option Nat} (h : w.ownsGroups P k base e q b n D) (hg : w.grownBy w' row) (hr : ∀ r, row = some r → r < b) : w'.ownsGroups P k base e q b n D := by
  obtain ⟨es, clock, hb0, F, hs, rfl, hbb, hlen, hap⟩ := h
  have own : ∀ {v : Value} {zs : List Int}, w.ownsInts base e q v zs → w'.ownsInts base e q v zs := fun {v zs} ho => ho.kept hg (by
    cases hv : v.ownBlock with
    | none => exact .inl rfl
    | some g =>
      refine .inr fun e1 => ?_
      have := (ho.1.lt g hv).1
      have := hr g e1.symm
      omega)
  obtain ⟨F1, hmap, _⟩ := F.stay (R' := rowElem w' base e q) (fun x _ z hz => by
    obtain ⟨zs, ho, rfl⟩ := rowElem_inv hz
    exact rowElem_mk (own ho))
  have hlt : b < w.heap.size := (Array.getElem?_eq_some_iff.1 hb0).1
  refine ⟨es, clock, (hg.block b hlt (fun e1 => by have := hr b e1.symm; omega)).trans hb0, F1, hs, by rw [hmap], hbb, fun x hx zs ho => ?_, hap⟩
  obtain ⟨y, hy⟩ := F.reads x hx
  obtain ⟨z, hz, _⟩ := rd_val hy
  obtain ⟨zs0, ho0, _⟩ := rowElem_inv hz
  rw [ho.unique (own ho0)]
  exact hlen x hx zs0 ho0
theorem groups_below (h : w.ownsGroups P k base e q b n D) (hb : Below w.heap.size w w') : w'.ownsGroups P k base e q b n D := groups_grown h (grown_of_below hb none) (fun _ e => by cases e)

/-- 'm[k]' on such a map, in whatever world has the same block. -/
theorem groups_at {t E : TypeId} {key : Value} {kl : Lit} (h : w.ownsGroups P k base e q b n D) (K : Keyed P k) (ht : P.underlying t = some (.map k E)) (hz : ∀ w', (zeroValue E).run P w' = .ok (.slice none 0 0) w') (hn : n < maxLen) (hkey : keyOf P k key = some kl) :
    ∃ v zs, (∀ w' : World, w'.heap[b]? = w.heap[b]? → (Instr.lookup t (.map (some b)) key false).run P w' = .ok v w') ∧ D.atKey kl .nil = rowDatum q v zs ∧ w.ownsInts base e q v zs ∧ zs.length ≤ n ∧ w.groupBack P t k base e q b n D key kl v := by
  obtain ⟨v, zs, hrun, h1, h2, h3, h4⟩ := h.at K ht (hz w) hn hkey
  refine ⟨v, zs, fun w' hw => ?_, h1, h2, h3, h4⟩
  obtain ⟨es, clock, hb, F, hs, rfl, hbb, hlen, hap⟩ := h
  have hb' := hw.trans hb
  have keys : ∀ x ∈ es.toList, ∃ l, keyOf P k x.key = some l := fun x hx => by
    obtain ⟨y, hy⟩ := F.reads x hx
    exact ⟨_, Go.WideElems.rd_key hy⟩
  have apart : es.toList.Pairwise (fun x y => x.key ≠ y.key) := ((MapKept.stamped_iff es clock).1 F.stamped).2.2
  have one : ∀ {i j : Nat} {x y : MapEntry}, es.toList[i]? = some x → es.toList[j]? = some y → x.key = y.key → i = j := by
    intro i j x y hi hj hxy
    rcases Nat.lt_trichotomy i j with h | h | h
    · exact absurd hxy (pw_get apart hi hj h)
    · exact h
    · exact absurd hxy.symm (pw_get apart hj hi h)
  rcases K.find w hkey es.toList keys with ⟨g1, g2⟩ | ⟨j, e0, g1, g2, g3⟩
  · rcases K.find w' hkey es.toList keys with ⟨k1, _⟩ | ⟨j', e1, _, k2, k3⟩
    · have r1 : (Instr.lookup t (.map (some b)) key false).run P w = .ok (.slice none 0 0) w := by simp [Instr.lookup, run_underlying ht, MapKept.run_getObj_map hb, K.check w _ hkey, g1, hz, Result.andThen]
      have ev : v = .slice none 0 0 := by rw [r1] at hrun; cases hrun; rfl
      rw [ev]
      simp [Instr.lookup, run_underlying ht, MapKept.run_getObj_map hb', K.check w' _ hkey, k1, hz, Result.andThen]
    · exact absurd k3 (g2 e1 (List.mem_of_getElem? k2))
  · have r1 : (Instr.lookup t (.map (some b)) key false).run P w = .ok e0.val w := by simp [Instr.lookup, run_underlying ht, MapKept.run_getObj_map hb, K.check w _ hkey, g1, Result.andThen]
    have ev : v = e0.val := by rw [r1] at hrun; cases hrun; rfl
    rw [ev]
    rcases K.find w' hkey es.toList keys with ⟨_, k2⟩ | ⟨j', e1, k1, k2, k3⟩
    · exact absurd g3 (k2 e0 (List.mem_of_getElem? g2))
    · have hj := one g2 k2 (g3.trans k3.symm)
      subst hj
      rw [g2] at k2
      cases k2
      simp [Instr.lookup, run_underlying ht, MapKept.run_getObj_map hb', K.check w' _ hkey, k1, Result.andThen]
end

/-- What a list of numbers reads as among the map's elements. -/
def rowD (zs : List Int) : DataW Unit := if zs = [] then .nil else .slice (Go.ChangeShapes.lits .i64 zs) []
theorem lits_inj {a b : List Int} (h : Go.ChangeShapes.lits (H := Unit) .i64 a = Go.ChangeShapes.lits .i64 b) : a = b := by
  unfold Go.ChangeShapes.lits at h
  exact (List.map_inj_right (fun x y hxy => by cases hxy; rfl)).1 h

theorem rowD_of {w : World} {base : Nat} {e : TypeId} {v : Value} {zs : List Int} (ho : w.ownsInts base e .i64 v zs) (hne : zs ≠ []) : rowDatum (H := Unit) .i64 v zs = rowD zs := by
  rw [ho.datum_pos hne, rowD, if_neg hne]

theorem rowD_inv {w : World} {base : Nat} {e : TypeId} {v : Value} {zs ys : List Int} (ho : w.ownsInts base e .i64 v zs) (h : rowD ys = rowDatum .i64 v zs) : zs = ys := by
  unfold rowD at h
  by_cases hy : ys = []
  · rw [if_pos hy] at h
    rcases ho.datum (H := Unit) with ⟨_, h0⟩ | h1
    · rw [h0, hy]
    · rw [h1] at h; cases h
  · rw [if_neg hy] at h
    rcases ho.datum (H := Unit) with ⟨h1, _⟩ | h1
    · rw [h1] at h; cases h
    · rw [h1] at h
      injection h with h
      exact (lits_inj h).symm
end Go.Proofs.YtbhnjnoblkfckaaGreatDoor

-- from XFld
/- Fields: the lists of fields, the map of places that the program makes of one, and the values of a name. -/
namespace Go.Proofs.YtbhnjnoblkfckaaGreatDoor
open Go.RowKit Go.Maps

abbrev Fd := ByteArray × ByteArray

/-- A slice that reads as a list of fields. -/
def FRow (w : World) (v : Value) (fs : List Fd) : Prop :=
  ∃ a c, v = .slice a fs.length c ∧ fs.length ≤ c ∧ c ≤ maxLen ∧ ∀ j f, fs[j]? = some f → ∃ b o, a = some ⟨b, o, none⟩ ∧ b < w.heap.size ∧ w.cell? ⟨b, o + j * 2, none⟩ = some (.string f.1) ∧ w.cell? ⟨b, o + j * 2 + 1, none⟩ = some (.string f.2)

theorem FRow.below {w w' : World} {v : Value} {fs : List Fd} (h : FRow w v fs) {B : Nat} (hB : w.heap.size ≤ B) (hb : Below B w w') : FRow w' v fs := by
  obtain ⟨a, c, rfl, h1, h2, h3⟩ := h
  refine ⟨a, c, rfl, h1, h2, fun j f hj => ?_⟩
  obtain ⟨b, o, rfl, hlt, c1, c2⟩ := h3 j f hj
  exact ⟨b, o, rfl, Nat.lt_of_lt_of_le hlt hb.size, (hb.cell (p := ⟨b, o + j * 2, none⟩) (Nat.lt_of_lt_of_le hlt hB)).trans c1, (hb.cell (p := ⟨b, o + j * 2 + 1, none⟩) (Nat.lt_of_lt_of_le hlt hB)).trans c2⟩
theorem FRow.drewN {w : World} {v : Value} {fs : List Fd} (h : FRow w v fs) (n : Nat) : FRow (w.drewN n) v fs := h

/-- All texts of the fields are of a text's length. -/
def FOk (fs : List Fd) (K : Nat) : Prop := ∀ f ∈ fs, f.1.size ≤ K ∧ f.2.size ≤ K

/-- The places of a name among the first k fields. -/
def idxTo (fs : List Fd) (s : ByteArray) : Nat → List Int
  | 0 => []
  | k + 1 => match fs[k]? with
    | some f => if f.1 = s then idxTo fs s k ++ [(k : Int)] else idxTo fs s k
    | none => idxTo fs s k
/-- The values of a name among the first k fields. -/
def allTo (fs : List Fd) (s : ByteArray) : Nat → List ByteArray
  | 0 => []
  | k + 1 => match fs[k]? with
    | some f => if f.1 = s then allTo fs s k ++ [f.2] else allTo fs s k
    | none => allTo fs s k
def valAt (fs : List Fd) (j : Int) : ByteArray := ((fs[j.toNat]?).map (·.2)).getD ByteArray.empty

theorem idx_vals (fs : List Fd) (s : ByteArray) (k : Nat) : (idxTo fs s k).map (valAt fs) = allTo fs s k := by
  induction k with
  | zero => rfl
  | succ k ih =>
    unfold idxTo allTo
    cases hf : fs[k]? with
    | none => exact ih
    | some f =>
      dsimp only
      split
      · rw [List.map_append, ih]; simp [valAt, hf]
      · exact ih
theorem idx_lt (fs : List Fd) (s : ByteArray) (k : Nat) : ∀ j ∈ idxTo fs s k, 0 ≤ j ∧ j < k ∧ j < fs.length := by
  induction k with
  | zero => simp [idxTo]
  | succ k ih =>
    intro j hj
    unfold idxTo at hj
    have old : j ∈ idxTo fs s k → 0 ≤ j ∧ j < (k + 1 : Nat) ∧ j < fs.length := fun h => by have := ih j h; omega
    cases hf : fs[k]? with
    | none => rw [hf] at hj; exact old hj
    | some f =>
      have hk : k < fs.length := (List.getElem?_eq_some_iff.1 hf).1
      rw [hf] at hj
      dsimp only at hj
      split at hj
      · rcases List.mem_append.1 hj with h | h
        · exact old h
        · have : j = k := by simpa using h
          omega
      · exact old hj
theorem idx_len (fs : List Fd) (s : ByteArray) (k : Nat) : (idxTo fs s k).length ≤ k := by
  induction k with
  | zero => simp [idxTo]
  | succ k ih =>
    unfold idxTo
    cases fs[k]? with
    | none => exact Nat.le_succ_of_le ih
    | some f =>
      dsimp only
      split
      · simp; omega
      · exact Nat.le_succ_of_le ih

/-- What the map holds behind k rounds. -/
def Holds (D : DataW Unit) (fs : List Fd) (k : Nat) : Prop := IsMap D ∧ ∀ s : ByteArray, D.atKey (.string s.data.toList) .nil = rowD (idxTo fs s k)

theorem holds_start (fs : List Fd) : Holds (.map []) fs 0 := ⟨isMap_empty, fun __s => rfl⟩
theorem isMap_put {D : DataW Unit} (h : IsMap D) (k : Lit) (d : DataW Unit) : IsMap (D.put k d) := by
  obtain ⟨es, rfl⟩ := h
  exact ⟨_, rfl⟩
theorem str_inj {a b : ByteArray} (h : a.data.toList = b.data.toList) : a = b := by
  cases a; cases b; simpa [Array.toList_inj] using h
theorem idxTo_at {fs : List Fd} {k : Nat} {f : Fd} (s : ByteArray) (hf : fs[k]? = some f) : idxTo fs s (k + 1) = if f.1 = s then idxTo fs s k ++ [(k : Int)] else idxTo fs s k := by simp [idxTo, hf]
theorem allTo_at {fs : List Fd} {k : Nat} {f : Fd} (s : ByteArray) (hf : fs[k]? = some f) : allTo fs s (k + 1) = if f.1 = s then allTo fs s k ++ [f.2] else allTo fs s k := by simp [allTo, hf]
theorem holds_step {D : DataW Unit} {fs : List Fd} {k : Nat} {f : Fd} (h : Holds D fs k) (hf : fs[k]? = some f) : Holds (D.put (.string f.1.data.toList) (rowD (idxTo fs f.1 k ++ [(k : Int)]))) fs (k + 1) := by
  refine ⟨isMap_put h.1 _ _, fun s => ?_⟩
  rw [idxTo_at s hf]
  by_cases hs : f.1 = s
  · rw [if_pos hs, ← hs, atKey_put_same h.1 (by exact trivial)]
  · rw [if_neg hs, atKey_put_other (fun e => hs (str_inj (by injection e with e; exact e.symm)))]
    exact h.2 s

theorem law9 : Keyed Tryz.prog 9 := string_keyed Tryz.underlying9
theorem zeroInts (w : World) : (zeroValue 121).run Tryz.prog w = .ok (.slice none 0 0) w := by kernel_rfl
theorem Tryz.infoInt : (Tryz.prog.info? 3).map (fun i => (i.zero, i.size, i.bytes)) = some (some (.int .i64 0), 1, 8) := by kernel_rfl

end Go.Proofs.YtbhnjnoblkfckaaGreatDoor

