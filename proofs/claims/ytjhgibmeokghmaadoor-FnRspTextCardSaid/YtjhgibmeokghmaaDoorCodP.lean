/- Codings: plain functions on lists of bytes; no program. -/
import Derived.Test.YtjhgibmeokghmaaDoorPure
import Derived.Test.YtjhgibmeokghmaaDoorNum
import Derived.Test.YtjhgibmeokghmaaDoorParts
import Derived.Test.YtjhgibmeokghmaaDoorLower
import Derived.Test.YtjhgibmeokghmaaDoorMaskP
import Derived.Lib.TrimByte
namespace Go.Proofs.YtjhgibmeokghmaaDoor

/-- What a quality's four digits say. -/
def qVal (a : UInt8) (d : List UInt8) : Nat := valF 0 (a :: (d ++ List.replicate (3 - d.length) 48))
/-- A quality, in thousandths. -/
def codQ (l : List UInt8) : Nat × Bool :=
  if ((cutL l 46).1 = [48] ∨ (cutL l 46).1 = [49]) ∧ (cutL l 46).2.1.length ≤ 3 ∧ (cutL l 46).2.1.all isDig = true ∧ qVal ((cutL l 46).1.headD 0) (cutL l 46).2.1 ≤ 1000
  then (qVal ((cutL l 46).1.headD 0) (cutL l 46).2.1, true) else (0, false)

def nPlain : List UInt8 := [112, 108, 97, 105, 110]
def nGz : List UInt8 := [103, 122]
def nBr : List UInt8 := [98, 114]
/-- The coding of a name in small letters; -2 of none. -/
def codN (l : List UInt8) : Int := if l = [42] then -1 else if l = nPlain then 0 else if l = nGz then 1 else if l = nBr then 2 else -2
def nameOf (l : List UInt8) : List UInt8 := Lib.trimB (cutL l 59).1 32
def restOf (l : List UInt8) : List UInt8 := Lib.trimB (cutL l 59).2.1 32
/-- One thing that somebody would take. -/
def codOne (l : List UInt8) : Option Wt :=
  if codN (lowL (nameOf l)) = -2 then none
  else if (cutL l 59).2.2 = false then some (codN (lowL (nameOf l)), 1000)
  else if (restOf l).take 2 = [113, 61] ∧ (codQ ((restOf l).drop 2)).2 = true then some (codN (lowL (nameOf l)), ((codQ ((restOf l).drop 2)).1 : Int)) else none
def codAll : List (List UInt8) → Option (List Wt)
  | [] => some []
  | p :: ps => match codOne p, codAll ps with
    | some a, some b => some (a :: b)
    | _, _ => none
def codParse (l : List UInt8) : Option (List Wt) := if (partsL l 44).length ≤ 5 then codAll (partsL l 44) else none

def codT (m : Int) : List UInt8 :=
  if 0 ≤ m ∧ m < 8 then (if m % 2 = 1 then nPlain else nPlain ++ [59, 113, 61, 48]) ++ (if m / 2 % 2 = 1 then [44, 32, 103, 122] else []) ++ (if m / 4 % 2 = 1 then [44, 32, 98, 114] else []) else []

theorem codAll_snoc (ps : List (List UInt8)) (p : List UInt8) : codAll (ps ++ [p]) = match codAll ps, codOne p with | some a, some b => some (a ++ [b]) | _, _ => none := by
  induction ps with
  | nil => simp only [List.nil_append, codAll]; cases codOne p <;> rfl
  | cons q ps ih =>
    rw [List.cons_append, codAll, ih, codAll]
    cases codOne q <;> cases codAll ps <;> cases codOne p <;> rfl
theorem codAll_len {ps : List (List UInt8)} {ws : List Wt} (h : codAll ps = some ws) : ws.length = ps.length := by
  induction ps generalizing ws with
  | nil => cases h; rfl
  | cons p ps ih =>
    rw [codAll] at h
    cases h1 : codOne p <;> cases h2 : codAll ps <;> rw [h1, h2] at h <;> try (cases h)
    rename_i a b
    simp [ih h2]
/-- A list with a wrong part is wrong. -/
theorem codAll_bad {ps : List (List UInt8)} {k : Nat} {p : List UInt8} (hp : ps[k]? = some p) (h : codOne p = none) : codAll ps = none := by
  induction ps generalizing k with
  | nil => simp at hp
  | cons q ps ih =>
    rw [codAll]
    cases k with
    | zero =>
      have : q = p := by simpa using hp
      rw [this, h]
    | succ k =>
      rw [ih (by simpa using hp)]
      cases codOne q <;> rfl
/-- What four signs or fewer are read as: never too much. -/
theorem parse_small (l : List UInt8) : ∀ acc, (acc + 1) * 10 ^ l.length ≤ 100000000000000000 → Lib.parseUint10 acc l ≠ .range ∧ ∀ v, Lib.parseUint10 acc l = .ok v → l.all isDig = true ∧ v = valF acc l := by
  induction l with
  | nil =>
    intro acc _
    refine ⟨fun h => (by cases h), fun v h => ?_⟩
    injection h with h
    exact ⟨rfl, h.symm⟩
  | cons c l ih =>
    intro acc h
    rw [List.length_cons, Nat.pow_succ] at h
    have hp : 1 ≤ 10 ^ l.length := Nat.pow_pos (by omega)
    have h1 : (acc + 1) * 10 * 10 ^ l.length ≤ 100000000000000000 := by rw [Nat.mul_assoc, Nat.mul_comm 10]; exact h
    have h3 : (acc + 1) * 10 ≤ 100000000000000000 := Nat.le_trans (Nat.le_mul_of_pos_right _ hp) h1
    unfold Lib.parseUint10
    by_cases hc : 48 ≤ c.toNat ∧ c.toNat ≤ 57
    · rw [if_pos hc, if_neg (by omega), if_neg (by omega)]
      have h2 : (acc * 10 + (c.toNat - 48) + 1) * 10 ^ l.length ≤ 100000000000000000 := Nat.le_trans (Nat.mul_le_mul_right _ (by omega)) h1
      have := ih _ h2
      refine ⟨this.1, fun v hv => ?_⟩
      have h4 := this.2 v hv
      refine ⟨?_, h4.2⟩
      rw [List.all_cons, h4.1]
      simp [isDig, hc]
    · rw [if_neg hc]
      exact ⟨fun h => (by cases h), fun v h => (by cases h)⟩
theorem atoi_small {a : UInt8} {l : List UInt8} (ha : a = 48 ∨ a = 49) (hl : l.length ≤ 3) : Lib.atoiAll (a :: l) ≠ .range ∧ (∀ v, Lib.atoiAll (a :: l) = .ok v → l.all isDig = true ∧ v = (valF 0 (a :: l) : Int)) ∧ (l.all isDig = true → Lib.atoiAll (a :: l) = .ok (valF 0 (a :: l) : Int)) := by
  have h1 : ¬ (a.toNat = 43 ∨ a.toNat = 45) := by rcases ha with rfl | rfl <;> decide
  have h45 : ¬ a.toNat = 45 := fun h => h1 (.inr h)
  have h43 : ¬ a.toNat = 43 := fun h => h1 (.inl h)
  have hb : (0 + 1) * 10 ^ (a :: l).length ≤ 100000000000000000 := by
    have : 10 ^ (a :: l).length ≤ 10 ^ 4 := Nat.pow_le_pow_right (by omega) (by simp; omega)
    omega
  have hd : isDig a = true := by rcases ha with rfl | rfl <;> decide
  have hs := parse_small (a :: l) 0 hb
  have hlt : ∀ v, Lib.parseUint10 0 (a :: l) = .ok v → v < 100000 := fun v hv => by
    obtain ⟨h3, h4⟩ := hs.2 v hv
    have := valF_lt (a :: l) 0 h3
    have h5 : 10 ^ (a :: l).length ≤ 10 ^ 4 := Nat.pow_le_pow_right (by omega) (by simp; omega)
    omega
  have hok := fun (h : l.all isDig = true) => parse_val (a :: l) 0 (by rw [List.all_cons, hd, h]; rfl) (by
    have := valF_lt (a :: l) 0 (by rw [List.all_cons, hd, h]; rfl)
    have h5 : 10 ^ (a :: l).length ≤ 10 ^ 4 := Nat.pow_le_pow_right (by omega) (by simp; omega)
    omega)
  unfold Lib.atoiAll Lib.parseMag
  simp only [h43, h45, or_self, reduceCtorEq, not_false_eq_true, true_and, false_and, if_false]
  cases hq : Lib.parseUint10 0 (a :: l) with
  | ok v =>
    have := hlt v hq
    simp only
    rw [if_neg (by omega)]
    have h2 := hs.2 v hq
    refine ⟨fun h => (by cases h), fun v' h => ?_, fun _ => by rw [h2.2]⟩
    injection h with h
    have h3 := h2.1
    rw [List.all_cons, Bool.and_eq_true] at h3
    exact ⟨h3.2, by rw [← h, h2.2]⟩
  | range => exact absurd hq hs.1
  | _ =>
    refine ⟨fun h => (by cases h), fun v' h => (by cases h), fun h => ?_⟩
    have h3 := hok h
    rw [hq] at h3; cases h3
end Go.Proofs.YtjhgibmeokghmaaDoor
