/- Places: small digits in codes make no difference to the plainest form; on lists of bytes. -/
import Derived.Test.YthmljebpjohibaaDoorCanP
namespace Go.Proofs.YthmljebpjohibaaDoor
open Go.RowKit

def lowC (p1 p2 : Bool) (c : UInt8) : UInt8 := if 65 ≤ c.toNat ∧ c.toNat ≤ 70 ∧ (p1 || p2) = true then UInt8.ofNat (c.toNat + 32) else c
/-- A text with the digits of its codes small: p1, p2 say whether the byte ahead, and the one ahead of that, is the sign of a code. -/
def lowD (p1 p2 : Bool) : List UInt8 → List UInt8
  | [] => []
  | c :: l => lowC p1 p2 c :: lowD (c == 37) p1 l
def endP (p : Bool) : List UInt8 → Bool
  | [] => p
  | c :: l => endP (c == 37) l

theorem low_cons (p1 p2 : Bool) (c : UInt8) (l : List UInt8) : lowD p1 p2 (c :: l) = lowC p1 p2 c :: lowD (c == 37) p1 l := rfl
theorem lowC_ff (c : UInt8) : lowC false false c = c := by unfold lowC; simp
theorem lowC_all (p1 p2 : Bool) (c : UInt8) : hexV (lowC p1 p2 c) = hexV c ∧ (c ≠ 63 → lowC p1 p2 c ≠ 63) := by
  have h : ∀ (p1 p2 : Bool) (n : Fin 256), hexV (lowC p1 p2 (UInt8.ofNat n.val)) = hexV (UInt8.ofNat n.val) ∧ (UInt8.ofNat n.val ≠ 63 → lowC p1 p2 (UInt8.ofNat n.val) ≠ 63) := by decide +kernel
  have := h p1 p2 ⟨c.toNat, c.toNat_lt⟩
  simpa using this
theorem lowC_63 (p1 p2 : Bool) : lowC p1 p2 63 = 63 := by cases p1 <;> cases p2 <;> decide
theorem lowD_len (p1 p2 : Bool) (l : List UInt8) : (lowD p1 p2 l).length = l.length := by
  induction l generalizing p1 p2 with
  | nil => rfl
  | cons c l ih => rw [low_cons, List.length_cons, ih, List.length_cons]

theorem codeL_low (l : List UInt8) : codeL (37 :: lowD true false l) = codeL (37 :: l) := by
  match l with
  | [] => rfl
  | [a] => rfl
  | a :: b :: l => rw [low_cons, low_cons, codeL_two, codeL_two, (lowC_all _ _ a).1, (lowC_all _ _ b).1]
theorem code_split {l : List UInt8} {n : Nat} (h : codeL (37 :: l) = some n) : ∃ a b l2, l = a :: b :: l2 ∧ a ≠ 37 ∧ b ≠ 37 := by
  match l, h with
  | [], h => cases h
  | [a], h => cases h
  | a :: b :: l2, h =>
    rw [codeL_two] at h
    cases ha : hexV a with
    | none => rw [ha] at h; cases h
    | some x =>
      cases hb : hexV b with
      | none => rw [ha, hb] at h; cases h
      | some y => exact ⟨a, b, l2, rfl, hex_ne_37 ha, hex_ne_37 hb⟩
theorem ne37 {c : UInt8} (h : c ≠ 37) : (c == 37) = false := by simpa using h

theorem plain_low (asks : Bool) (l : List UInt8) : plainL asks (lowD false false l) = plainL asks l := by
  induction hl : l.length using Nat.strongRecOn generalizing l with
  | _ n ih =>
    subst hl
    match l with
    | [] => rfl
    | c :: l =>
      rw [low_cons, lowC_ff]
      by_cases hc : c = 37
      · subst hc
        rw [show ((37 : UInt8) == 37) = true from rfl]
        cases h : codeL (37 :: l) with
        | none => rw [plainL_bad h, plainL_bad (by rw [codeL_low]; exact h)]
        | some n =>
          obtain ⟨a, b, l2, rfl, h1, h2⟩ := code_split h
          rw [plainL_code h, plainL_code (by rw [codeL_low]; exact h)]
          have e : List.drop 2 (lowD true false (a :: b :: l2)) = lowD false false l2 := by rw [low_cons, low_cons, ne37 h1, ne37 h2]; rfl
          rw [e, ih l2.length (by simp; omega) l2 rfl]; rfl
      · rw [ne37 hc, plainL_lit (codeL_ne hc), plainL_lit (codeL_ne hc), ih l.length (by simp) l rfl]

theorem cut_low (p1 p2 : Bool) (l : List UInt8) : cutL (lowD p1 p2 l) 63 = (lowD p1 p2 (cutL l 63).1, lowD false (endP p1 (cutL l 63).1) (cutL l 63).2.1, (cutL l 63).2.2) := by
  induction l generalizing p1 p2 with
  | nil => rfl
  | cons c l ih =>
    rw [low_cons]
    by_cases hc : c = 63
    · subst hc
      rw [lowC_63, cutL_hit, cutL_hit]; rfl
    · rw [cutL_cons ((lowC_all p1 p2 c).2 hc), cutL_cons hc, ih]; rfl
theorem plain_end {asks : Bool} {l r : List UInt8} (h : plainL asks l = some r) : endP false l = false := by
  refine plain_ind (M := fun l _ => endP false l = false) rfl ?_ ?_ h
  · intro c l r ho _ _ ih
    show endP (c == 37) l = false
    rw [ne37 (okLit_ne37 ho)]; exact ih
  · intro c l r n hc _ _ ih
    have hc37 := codeL_head hc
    subst hc37
    obtain ⟨a, b, l2, rfl, h1, h2⟩ := code_split hc
    show endP (b == 37) l2 = false
    rw [ne37 h2]; exact ih
theorem resP_low (ys : List UInt8) (seg : Nat) (l : List UInt8) : resP ys seg (lowD false false l) = resP ys seg l := by
  unfold resP
  rw [cut_low]
  simp only [plain_low]
  cases h : plainL false (cutL l 63).1 with
  | none => rfl
  | some o => rw [plain_end h]; simp only [plain_low]
theorem canon_low (l : List UInt8) : canonL (lowD false false l) = canonL l := by
  unfold canonL
  rw [lowD_len]
  congr 1
  cases l with
  | nil => rfl
  | cons c l =>
    rw [low_cons, lowC_ff]
    show (if c = 47 then resP [47] 1 (lowD (c == 37) false l) else none) = (if c = 47 then resP [47] 1 l else none)
    by_cases hc : c = 47
    · subst hc
      rw [show ((47 : UInt8) == 37) = false from by decide, resP_low]
    · rw [if_neg hc, if_neg hc]

/-- Whether the byte ahead of a place is the sign of a code. -/
def sgn (s : ByteArray) (k : Nat) : Bool := if h : 0 < k ∧ k - 1 < s.size then s[k - 1] == 37 else false
theorem sgn_zero (s : ByteArray) : sgn s 0 = false := by unfold sgn; rw [dif_neg (by omega)]
theorem sgn_succ (s : ByteArray) (k : Nat) (h : k < s.size) : sgn s (k + 1) = (s[k] == 37) := by
  unfold sgn
  rw [dif_pos ⟨by omega, by omega⟩]
  simp only [Nat.add_sub_cancel]
end Go.Proofs.YthmljebpjohibaaDoor
