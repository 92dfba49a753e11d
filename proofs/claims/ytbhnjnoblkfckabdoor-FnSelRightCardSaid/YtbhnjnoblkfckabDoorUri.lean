/- Places: plain functions on lists of bytes, and walks of the small helpers: digits of codes, codes, paths, what lies under. -/
import Derived.Test.YtbhnjnoblkfckabDoorCutB
import Derived.Test.YtbhnjnoblkfckabDoorOwn
namespace Go.Proofs.YtbhnjnoblkfckabDoor
open Go.RowKit

/-- What a digit of a code says. -/
def hexV (c : UInt8) : Option Nat :=
  if 48 ≤ c.toNat ∧ c.toNat ≤ 57 then some (c.toNat - 48) else if 97 ≤ c.toNat ∧ c.toNat ≤ 102 then some (c.toNat - 87) else if 65 ≤ c.toNat ∧ c.toNat ≤ 70 then some (c.toNat - 55) else none

theorem hexV_lt {c : UInt8} {x : Nat} (h : hexV c = some x) : x < 16 := by
  unfold hexV at h
  split at h
  · simp at h; omega
  · split at h
    · simp at h; omega
    · split at h
      · simp at h; omega
      · cases h

theorem hexV_cases (c : UInt8) : (48 ≤ c.toNat ∧ c.toNat ≤ 57 ∧ hexV c = some (c.toNat - 48)) ∨ (97 ≤ c.toNat ∧ c.toNat ≤ 102 ∧ hexV c = some (c.toNat - 87)) ∨ (65 ≤ c.toNat ∧ c.toNat ≤ 70 ∧ hexV c = some (c.toNat - 55)) ∨
    ((c.toNat < 48 ∨ (58 ≤ c.toNat ∧ c.toNat ≤ 64) ∨ (71 ≤ c.toNat ∧ c.toNat ≤ 96) ∨ 103 ≤ c.toNat) ∧ hexV c = none) := by
  unfold hexV
  by_cases h1 : 48 ≤ c.toNat ∧ c.toNat ≤ 57
  · exact .inl ⟨h1.1, h1.2, if_pos h1⟩
  · by_cases h2 : 97 ≤ c.toNat ∧ c.toNat ≤ 102
    · exact .inr (.inl ⟨h2.1, h2.2, by rw [if_neg h1, if_pos h2]⟩)
    · by_cases h3 : 65 ≤ c.toNat ∧ c.toNat ≤ 70
      · exact .inr (.inr (.inl ⟨h3.1, h3.2, by rw [if_neg h1, if_neg h2, if_pos h3]⟩))
      · exact .inr (.inr (.inr ⟨by omega, by rw [if_neg h1, if_neg h2, if_neg h3]⟩))

theorem hexV_37 : hexV 37 = none := by decide

theorem wrap_u8 (r : Nat) (h : r < 256) : IntKind.u8.wrap (r : Int) = (r : Int) := by simp [IntKind.wrap, IntKind.bits, IntKind.signed]; omega

def hexI (c : UInt8) : Int := match hexV c with | some x => (x : Int) | none => -1

/-- The byte that the first three bytes are a code of. -/
def codeL : List UInt8 → Option Nat
  | c :: a :: b :: _ => if c = 37 then (match hexV a, hexV b with | some x, some y => some (x * 16 + y) | _, _ => none) else none
  | _ => none
def codeI (l : List UInt8) : Int := match codeL l with | some x => (x : Int) | none => -1

theorem drop_at (s : ByteArray) (k : Nat) (h : k < s.size) : s.data.toList.drop k = s[k] :: s.data.toList.drop (k + 1) := by
  have hk : k < s.data.toList.length := by rw [← size_len]; exact h
  rw [List.drop_eq_getElem_cons hk]; rfl
theorem drop_end (s : ByteArray) (k : Nat) (h : s.size ≤ k) : s.data.toList.drop k = [] := List.drop_of_length_le (by rw [← size_len]; exact h)

theorem codeL_short {l : List UInt8} (h : l.length < 3) : codeL l = none := by
  match l, h with
  | [], _ => rfl
  | [_], _ => rfl
  | [_, _], _ => rfl
  | _ :: _ :: _ :: _, h => simp at h; omega

theorem codeL_cons (a b : UInt8) (l : List UInt8) : codeI (37 :: a :: b :: l) = if hexI a < 0 then -1 else if hexI b < 0 then -1 else hexI a * 16 + hexI b := by
  unfold codeI codeL hexI
  simp only [if_true]
  cases h1 : hexV a with
  | none => simp
  | some x =>
    cases h2 : hexV b with
    | none => simp
    | some y => simp only; rw [if_neg (by omega), if_neg (by omega)]; omega
theorem codeL_ne {c : UInt8} {l : List UInt8} (h : c ≠ 37) : codeL (c :: l) = none := by
  match l with
  | [] => rfl
  | [_] => rfl
  | _ :: _ :: _ => simp [codeL, h]
theorem hexI_in (c : UInt8) : -1 ≤ hexI c ∧ hexI c < 16 := by
  unfold hexI; cases h1 : hexV c with
  | none => simp
  | some x => have := hexV_lt h1; simp only; omega
theorem codeI_ne {c : UInt8} {l : List UInt8} (h : c ≠ 37) : codeI (c :: l) = -1 := by unfold codeI; rw [codeL_ne h]

def pathL (l : List UInt8) : List UInt8 := (cutL l 63).1

set_option maxHeartbeats 400000 in
theorem spec_path (s : ByteArray) (w : World) (hs : s.size ≤ maxLen) :
    Calls Tryd.prog 24 #[.string s] w fun e w' => e = .returned (strV (pathL s.data.toList)) ∧ ∃ n, w' = w.drewN n := by
  unfold pathL
  have hx := fun W => spec_cut s 63 W hs
  unfold maxLen at hs
  go_enter Tryd.func24, Tryd.ntmps24
  go_wp2_with fail
  refine (hx _).mono ?_
  rintro e w1 ⟨rfl, n1, rfl⟩
  go_wp2
  go_ret
  exact ⟨rfl, n1, rfl⟩

end Go.Proofs.YtbhnjnoblkfckabDoor
