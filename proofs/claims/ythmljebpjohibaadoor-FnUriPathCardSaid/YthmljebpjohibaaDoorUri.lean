/- Places: plain functions on lists of bytes, and walks of the small helpers: digits of codes, codes, paths, what lies under. -/
import Derived.Test.YthmljebpjohibaaDoorCutB
import Derived.Test.YthmljebpjohibaaDoorOwn
namespace Go.Proofs.YthmljebpjohibaaDoor
open Go.RowKit

/-- What a digit of a code says. -/
def hexV (c : UInt8) : Option Nat :=
  if 48 ≤ c.toNat ∧ c.toNat ≤ 57 then some (c.toNat - 48) else if 97 ≤ c.toNat ∧ c.toNat ≤ 102 then some (c.toNat - 87) else if 65 ≤ c.toNat ∧ c.toNat ≤ 70 then some (c.toNat - 55) else none

theorem hexV_lt {c : UInt8} {x : Nat} (h : hexV c = some x) : x < 16 := by
  unfold hexV at h
  split at h
  · simp at h; omega
  · split at h
    · simp at h; omega
    · split at h
      · simp at h; omega
      · cases h

theorem hexV_cases (c : UInt8) : (48 ≤ c.toNat ∧ c.toNat ≤ 57 ∧ hexV c = some (c.toNat - 48)) ∨ (97 ≤ c.toNat ∧ c.toNat ≤ 102 ∧ hexV c = some (c.toNat - 87)) ∨ (65 ≤ c.toNat ∧ c.toNat ≤ 70 ∧ hexV c = some (c.toNat - 55)) ∨
    ((c.toNat < 48 ∨ (58 ≤ c.toNat ∧ c.toNat ≤ 64) ∨ (71 ≤ c.toNat ∧ c.toNat ≤ 96) ∨ 103 ≤ c.toNat) ∧ hexV c = none) := by
  unfold hexV
  by_cases h1 : 48 ≤ c.toNat ∧ c.toNat ≤ 57
  · exact .inl ⟨h1.1, h1.2, if_pos h1⟩
  · by_cases h2 : 97 ≤ c.toNat ∧ c.toNat ≤ 102
    · exact .inr (.inl ⟨h2.1, h2.2, by rw [if_neg h1, if_pos h2]⟩)
    · by_cases h3 : 65 ≤ c.toNat ∧ c.toNat ≤ 70
      · exact .inr (.inr (.inl ⟨h3.1, h3.2, by rw [if_neg h1, if_neg h2, if_pos h3]⟩))
      · exact .inr (.inr (.inr ⟨by omega, by rw [if_neg h1, if_neg h2, if_neg h3]⟩))

theorem hexV_37 : hexV 37 = none := by decide

theorem wrap_u8 (r : Nat) (h : r < 256) : IntKind.u8.wrap (r : Int) = (r : Int) := by simp [IntKind.wrap, IntKind.bits, IntKind.signed]; omega

def hexI (c : UInt8) : Int := match hexV c with | some x => (x : Int) | none => -1

set_option maxHeartbeats 400000 in
theorem l2_hex (c : UInt8) (w : World) :
    Calls Tryd.prog 56 #[.int .u8 c.toNat] w fun e w' => e = .returned (.int .i64 (hexI c)) ∧ w = w' := by
  have hc := c.toNat_lt
  unfold hexI
  rcases hexV_cases c with ⟨h1, h2, e⟩ | ⟨h1, h2, e⟩ | ⟨h1, h2, e⟩ | ⟨hr, e⟩
  · rw [e]; clear e
    generalize c.toNat = n at *
    go_enter Tryd.func56, Tryd.ntmps56
    go_wp2
    go_ret
    exact ⟨by go_num, rfl⟩
  · rw [e]; clear e
    generalize c.toNat = n at *
    go_enter Tryd.func56, Tryd.ntmps56
    go_wp2
    go_ret
    exact ⟨by go_num, rfl⟩
  · rw [e]; clear e
    generalize c.toNat = n at *
    go_enter Tryd.func56, Tryd.ntmps56
    go_wp2
    go_ret
    exact ⟨by go_num, rfl⟩
  · rw [e]; clear e
    generalize c.toNat = n at *
    rcases hr with hr | ⟨h1, h2⟩ | ⟨h1, h2⟩ | hr
    all_goals go_enter Tryd.func56, Tryd.ntmps56
    all_goals go_wp2
    all_goals go_ret
    all_goals exact ⟨rfl, rfl⟩

set_option maxHeartbeats 400000 in
theorem hex_value_some (c : UInt8) (x : Nat) (hx : hexV c = some x) (w : World) :
    Calls Tryd.prog 73 #[.int .u8 c.toNat] w fun e w' => e = .returned (.tuple #[.int .u8 (x : Int), .bool true]) ∧ w = w' := by
  have hc := c.toNat_lt
  rcases hexV_cases c with ⟨h1, h2, e⟩ | ⟨h1, h2, e⟩ | ⟨h1, h2, e⟩ | ⟨hr, e⟩
  · rw [e] at hx; obtain rfl := Option.some.inj hx; clear e hx
    generalize c.toNat = n at *
    go_enter Tryd.func73, Tryd.ntmps73
    go_wp2
    go_ret2
    exact ⟨by go_num, rfl⟩
  · rw [e] at hx; obtain rfl := Option.some.inj hx; clear e hx
    generalize c.toNat = n at *
    go_enter Tryd.func73, Tryd.ntmps73
    go_wp2
    go_ret2
    exact ⟨by go_num, rfl⟩
  · rw [e] at hx; obtain rfl := Option.some.inj hx; clear e hx
    generalize c.toNat = n at *
    go_enter Tryd.func73, Tryd.ntmps73
    go_wp2
    go_ret2
    exact ⟨by go_num, rfl⟩
  · rw [e] at hx; cases hx

set_option maxHeartbeats 400000 in
theorem hex_value_none (c : UInt8) (hx : hexV c = none) (w : World) :
    Calls Tryd.prog 73 #[.int .u8 c.toNat] w fun e w' => e = .returned (.tuple #[.int .u8 0, .bool false]) ∧ w = w' := by
  have hc := c.toNat_lt
  rcases hexV_cases c with ⟨h1, h2, e⟩ | ⟨h1, h2, e⟩ | ⟨h1, h2, e⟩ | ⟨hr, e⟩
  · rw [e] at hx; cases hx
  · rw [e] at hx; cases hx
  · rw [e] at hx; cases hx
  · clear e hx
    generalize c.toNat = n at *
    rcases hr with hr | ⟨h1, h2⟩ | ⟨h1, h2⟩ | hr
    all_goals go_enter Tryd.func73, Tryd.ntmps73
    all_goals go_wp2
    all_goals go_ret2
    all_goals exact ⟨rfl, rfl⟩

/-- The byte that the first three bytes are a code of. -/
def codeL : List UInt8 → Option Nat
  | c :: a :: b :: _ => if c = 37 then (match hexV a, hexV b with | some x, some y => some (x * 16 + y) | _, _ => none) else none
  | _ => none
def codeI (l : List UInt8) : Int := match codeL l with | some x => (x : Int) | none => -1

theorem drop_at (s : ByteArray) (k : Nat) (h : k < s.size) : s.data.toList.drop k = s[k] :: s.data.toList.drop (k + 1) := by
  have hk : k < s.data.toList.length := by rw [← size_len]; exact h
  rw [List.drop_eq_getElem_cons hk]; rfl
theorem drop_end (s : ByteArray) (k : Nat) (h : s.size ≤ k) : s.data.toList.drop k = [] := List.drop_of_length_le (by rw [← size_len]; exact h)

theorem codeL_short {l : List UInt8} (h : l.length < 3) : codeL l = none := by
  match l, h with
  | [], _ => rfl
  | [_], _ => rfl
  | [_, _], _ => rfl
  | _ :: _ :: _ :: _, h => simp at h; omega

theorem codeL_cons (a b : UInt8) (l : List UInt8) : codeI (37 :: a :: b :: l) = if hexI a < 0 then -1 else if hexI b < 0 then -1 else hexI a * 16 + hexI b := by
  unfold codeI codeL hexI
  simp only [if_true]
  cases h1 : hexV a with
  | none => simp
  | some x =>
    cases h2 : hexV b with
    | none => simp
    | some y => simp only; rw [if_neg (by omega), if_neg (by omega)]; omega
theorem codeL_ne {c : UInt8} {l : List UInt8} (h : c ≠ 37) : codeL (c :: l) = none := by
  match l with
  | [] => rfl
  | [_] => rfl
  | _ :: _ :: _ => simp [codeL, h]
theorem hexI_in (c : UInt8) : -1 ≤ hexI c ∧ hexI c < 16 := by
  unfold hexI; cases h1 : hexV c with
  | none => simp
  | some x => have := hexV_lt h1; simp only; omega
theorem codeI_ne {c : UInt8} {l : List UInt8} (h : c ≠ 37) : codeI (c :: l) = -1 := by unfold codeI; rw [codeL_ne h]

set_option maxHeartbeats 400000 in
theorem l2_code (s : ByteArray) (k : Nat) (hk : k < s.size) (w : World) (hs : s.size ≤ maxLen) :
    Calls Tryd.prog 41 #[.string s, .int .i64 k] w fun e w' => e = .returned (.int .i64 (codeI (s.data.toList.drop k))) ∧ w = w' := by
  unfold maxLen at hs
  by_cases h3 : k + 3 ≤ s.size
  · rw [drop_at s k hk, drop_at s (k + 1) (by omega), drop_at s (k + 1 + 1) (by omega)]
    by_cases hc : s[k] = 37
    · rw [hc, codeL_cons]
      have b1 := hexI_in s[k + 1]
      have b2 := hexI_in s[k + 1 + 1]
      have c1 := fun W => l2_hex s[k + 1] W
      have c2 := fun W => l2_hex s[k + 1 + 1] W
      have hc' : ((s[k].toNat : Int) != 37) = false := by rw [hc]; rfl
      clear hc
      generalize hexI s[k + 1] = x at *
      generalize hexI s[k + 1 + 1] = y at *
      obtain ⟨R, hR⟩ : ∃ R : Int, R = if x < 0 then -1 else if y < 0 then -1 else x * 16 + y := ⟨_, rfl⟩
      rw [← hR]
      have HR := Lib.hid hR; clear hR
      go_enter Tryd.func41, Tryd.ntmps41
      go_wp2_with fail
      refine (c1 _).mono ?_
      rintro e w' ⟨rfl, rfl⟩
      go_wp2_with fail
      refine (c2 _).mono ?_
      rintro e w' ⟨rfl, rfl⟩
      clear c1 c2
      by_cases hx : x < 0
      · go_wp2
        go_ret
        exact ⟨by rw [HR.out, if_pos hx]; rfl, rfl⟩
      · by_cases hy : y < 0
        · go_wp2
          go_ret
          exact ⟨by rw [HR.out, if_neg (by omega), if_pos hy]; rfl, rfl⟩
        · go_wp2
          go_ret
          refine ⟨?_, rfl⟩
          rw [HR.out, if_neg (by omega), if_neg (by omega)]; go_num
    · rw [codeI_ne hc]
      have hc' : ((s[k].toNat : Int) != 37) = true := by
        simp only [bne_iff_ne]; intro h
        exact hc (UInt8.toNat_inj.mp (by have e : (37 : UInt8).toNat = 37 := rfl; omega))
      clear hc
      go_enter Tryd.func41, Tryd.ntmps41
      go_wp2
      go_ret
      exact ⟨rfl, rfl⟩
  · have he : codeI (s.data.toList.drop k) = -1 := by unfold codeI; rw [codeL_short (by rw [List.length_drop, ← size_len]; omega)]
    rw [he]; clear he
    go_enter Tryd.func41, Tryd.ntmps41
    go_wp2
    go_ret
    exact ⟨rfl, rfl⟩

def pathL (l : List UInt8) : List UInt8 := (cutL l 63).1

set_option maxHeartbeats 400000 in
theorem spec_path (s : ByteArray) (w : World) (hs : s.size ≤ maxLen) :
    Calls Tryd.prog 24 #[.string s] w fun e w' => e = .returned (strV (pathL s.data.toList)) ∧ ∃ n, w' = w.drewN n := by
  unfold pathL
  have hx := fun W => spec_cut s 63 W hs
  unfold maxLen at hs
  go_enter Tryd.func24, Tryd.ntmps24
  go_wp2_with fail
  refine (hx _).mono ?_
  rintro e w1 ⟨rfl, n1, rfl⟩
  go_wp2
  go_ret
  exact ⟨rfl, n1, rfl⟩

set_option maxHeartbeats 400000 in
theorem impl_path (s : ByteArray) (w : World) (hs : s.size ≤ 281474976710656) :
    Calls Tryd.prog 19 #[.string s] w fun e w' => e = .returned (strV (pathL s.data.toList)) ∧ Below w.heap.size w w' := by
  unfold pathL
  have hx := fun W => textcut s 63 W (by unfold maxLen; omega)
  have hl1 : (ByteArray.mk (cutL s.data.toList 63).1.toArray).size ≤ 281474976710656 := by
    have := cutL_len s.data.toList 63; rw [size_len]; rw [size_len] at hs; simp only; omega
  generalize cutL s.data.toList 63 = r at *
  obtain ⟨r1, r2, r3⟩ := r
  simp only at hl1 hx ⊢
  go_enter Tryd.func19, Tryd.ntmps19
  go_wp2_with fail
  refine (hx _).mono ?_
  rintro e w1 ⟨rfl, n1, rfl⟩
  go_wp2_with fail
  refine (fresh _ _ hl1).mono ?_
  rintro e w2 ⟨rfl, hb1⟩
  go_wp2
  go_ret
  exact ⟨rfl, below_drewN_left hb1⟩
end Go.Proofs.YthmljebpjohibaaDoor
