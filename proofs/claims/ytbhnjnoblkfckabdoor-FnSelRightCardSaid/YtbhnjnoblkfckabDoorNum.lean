/- Walks: numbers as texts. -/
import Derived.Test.YtbhnjnoblkfckabDoorTok
import Derived.Test.YtbhnjnoblkfckabDoorShelf
import Derived.Lib.SmallJoins
import Derived.Lib.AtoiErrMem
import Derived.Lib.AtoiAll
import Derived.Lib.ItoaNum
namespace Go.Proofs.YtbhnjnoblkfckabDoor
open Go.RowKit

theorem dec_small {n : Nat} (h : n < 10) : Lib.decDigits n = [UInt8.ofNat (48 + n)] := by rw [Lib.decDigits, dif_pos h]
theorem dec_big {n : Nat} (h : ¬ n < 10) : Lib.decDigits n = Lib.decDigits (n / 10) ++ [UInt8.ofNat (48 + n % 10)] := by rw [Lib.decDigits, dif_neg h]

def isDig (c : UInt8) : Bool := 48 ≤ c.toNat && c.toNat ≤ 57
def valF (acc : Nat) (l : List UInt8) : Nat := l.foldl (fun a c => a * 10 + (c.toNat - 48)) acc

theorem dig_toNat (d : Nat) (h : d < 10) : (UInt8.ofNat (48 + d)).toNat = 48 + d := by simp; omega

/-- Strong induction on numbers, by tens. -/
theorem tens (P : Nat → Prop) (h0 : ∀ n, n < 10 → P n) (h1 : ∀ n, ¬ n < 10 → P (n / 10) → P n) : ∀ n, P n := by
  intro n
  induction n using Nat.strongRecOn with
  | _ n ih =>
    by_cases h : n < 10
    · exact h0 n h
    · exact h1 n h (ih _ (by omega))

theorem dec_digs : ∀ n, (Lib.decDigits n).all isDig = true := by
  refine tens _ ?_ ?_
  · intro n h
    rw [dec_small h]
    have := dig_toNat n h
    simp only [List.all_cons, List.all_nil, isDig, Bool.and_true, this]
    simp; omega
  · intro n h ih
    rw [dec_big h, List.all_append, ih]
    have := dig_toNat (n % 10) (by omega)
    simp only [List.all_cons, List.all_nil, isDig, Bool.and_true, Bool.true_and, this]
    simp; omega

theorem dec_val : ∀ n, valF 0 (Lib.decDigits n) = n := by
  refine tens _ ?_ ?_
  · intro n h
    rw [dec_small h]
    have := dig_toNat n h
    simp only [valF, List.foldl_cons, List.foldl_nil, this]; omega
  · intro n h ih
    rw [dec_big h]
    have := dig_toNat (n % 10) (by omega)
    unfold valF at ih ⊢
    rw [List.foldl_append, ih]
    simp only [List.foldl_cons, List.foldl_nil, this]; omega

theorem dec_len_le : ∀ (k n : Nat), n < 10 ^ (k + 1) → (Lib.decDigits n).length ≤ k + 1 := by
  intro k
  induction k with
  | zero => intro n h; rw [dec_small (by simpa using h)]; simp
  | succ k ih =>
    intro n h
    by_cases h1 : n < 10
    · rw [dec_small h1]; simp
    · rw [dec_big h1, List.length_append]
      have := ih (n / 10) (by rw [Nat.pow_succ] at h; omega)
      simp; omega
theorem dec_ne : ∀ n, Lib.decDigits n ≠ [] := by
  refine tens _ ?_ ?_
  · intro n h; rw [dec_small h]; simp
  · intro n h _; rw [dec_big h]; simp

theorem valF_mono (l : List UInt8) : ∀ acc, acc ≤ valF acc l := by
  induction l with
  | nil => intro acc; exact Nat.le_refl _
  | cons c l ih =>
    intro acc
    have := ih (acc * 10 + (c.toNat - 48))
    have e : valF acc (c :: l) = valF (acc * 10 + (c.toNat - 48)) l := rfl
    rw [e]; omega
theorem parse_val (l : List UInt8) : ∀ acc, l.all isDig = true → valF acc l < 1000000000000000000 → Lib.parseUint10 acc l = .ok (valF acc l) := by
  induction l with
  | nil => intro acc _ _; rfl
  | cons c l ih =>
    intro acc hd hv
    simp only [List.all_cons, Bool.and_eq_true] at hd
    have e : valF acc (c :: l) = valF (acc * 10 + (c.toNat - 48)) l := rfl
    rw [e] at hv ⊢
    have hm := valF_mono l (acc * 10 + (c.toNat - 48))
    have hc : 48 ≤ c.toNat ∧ c.toNat ≤ 57 := by have := hd.1; unfold isDig at this; simpa using this
    unfold Lib.parseUint10
    rw [if_pos hc, if_neg (by omega), if_neg (by omega)]
    exact ih _ hd.2 hv

theorem atoi_dec (n : Nat) (h : n ≤ 999999) : Lib.atoiAll (Lib.decDigits n) = .ok (n : Int) := by
  have hne := dec_ne n
  have hd := dec_digs n
  have hv := dec_val n
  have hp := parse_val (Lib.decDigits n) 0 hd (by rw [hv]; omega)
  rw [hv] at hp
  cases hl : Lib.decDigits n with
  | nil => exact absurd hl hne
  | cons c r =>
    rw [hl] at hd hp
    simp only [List.all_cons, Bool.and_eq_true] at hd
    have hc : 48 ≤ c.toNat ∧ c.toNat ≤ 57 := by have := hd.1; unfold isDig at this; simpa using this
    unfold Lib.atoiAll
    simp only [if_neg (show ¬ (c.toNat = 43 ∨ c.toNat = 45) from by omega)]
    unfold Lib.parseMag
    rw [if_neg (by simp), hp]
    simp only [if_neg (show ¬ (¬ c.toNat = 45 ∧ 9223372036854775808 ≤ n) from by omega), if_neg (show ¬ (c.toNat = 45 ∧ 9223372036854775808 < n) from by omega), if_neg (show ¬ c.toNat = 45 from by omega)]

/-- What a number's text is read as. -/
def numT (n : Int) : List UInt8 := if 0 ≤ n ∧ n ≤ 999999 then Lib.decDigits n.toNat else []
def numR (l : List UInt8) : Nat × Bool :=
  if 1 ≤ l.length ∧ l.length ≤ 6 ∧ l.all isDig = true ∧ Lib.decDigits (valF 0 l) = l then (valF 0 l, true) else (0, false)

theorem numR_dec (n : Nat) (h : n ≤ 999999) : numR (Lib.decDigits n) = (n, true) := by
  unfold numR
  rw [if_pos ⟨List.length_pos_iff.2 (dec_ne n), dec_len_le 5 n (by omega), dec_digs n, by rw [dec_val]⟩, dec_val]
theorem valF_lt (l : List UInt8) : ∀ acc, l.all isDig = true → valF acc l < (acc + 1) * 10 ^ l.length := by
  induction l with
  | nil => intro acc _; simp [valF]
  | cons c l ih =>
    intro acc hd
    simp only [List.all_cons, Bool.and_eq_true] at hd
    have hc : 48 ≤ c.toNat ∧ c.toNat ≤ 57 := by have := hd.1; unfold isDig at this; simpa using this
    have e : valF acc (c :: l) = valF (acc * 10 + (c.toNat - 48)) l := rfl
    rw [e]
    refine Nat.lt_of_lt_of_le (ih _ hd.2) ?_
    rw [List.length_cons, Nat.pow_succ]
    have : acc * 10 + (c.toNat - 48) + 1 ≤ (acc + 1) * 10 := by omega
    calc (acc * 10 + (c.toNat - 48) + 1) * 10 ^ l.length ≤ (acc + 1) * 10 * 10 ^ l.length := Nat.mul_le_mul_right _ this
      _ = (acc + 1) * (10 ^ l.length * 10) := by rw [Nat.mul_assoc, Nat.mul_comm 10]
theorem numR_yes {l : List UInt8} (h : (numR l).2 = true) : (numR l).1 ≤ 999999 ∧ Lib.decDigits (numR l).1 = l := by
  unfold numR at h ⊢
  by_cases hc : 1 ≤ l.length ∧ l.length ≤ 6 ∧ l.all isDig = true ∧ Lib.decDigits (valF 0 l) = l
  · rw [if_pos hc]
    refine ⟨?_, hc.2.2.2⟩
    have := valF_lt l 0 hc.2.2.1
    have hp : 10 ^ l.length ≤ 10 ^ 6 := Nat.pow_le_pow_right (by omega) hc.2.1
    simp only [Nat.zero_add, Nat.one_mul] at this
    show valF 0 l ≤ 999999
    omega
  · rw [if_neg hc] at h; cases h

theorem below_grow {w : World} (os : Array Obj) : Below w.heap.size w (Go.Sort.grow w os) :=
  ⟨rfl, rfl, rfl, by simp [Go.Sort.grow], fun k hk => by simp only [Go.Sort.grow]; rw [Array.getElem?_append_left hk]⟩

/-- What the number functions read. -/
def Tab (w : World) : Prop := Lib.TabIs Tryd.prog w "internal/strconv.uint64pow10" .u64 Lib.pow10Tab
set_option maxHeartbeats 400000 in
theorem num_ok (n : Int) (w : World) :
    Calls Tryd.prog 27 #[.int .i64 n] w fun e w' => e = .returned (.bool (decide (0 ≤ n ∧ n ≤ 999999))) ∧ w = w' := by
  by_cases h0 : 0 ≤ n
  · by_cases h1 : n ≤ 999999
    · rw [decide_eq_true ⟨h0, h1⟩]
      go_enter Tryd.func27, Tryd.ntmps27
      go_wp2
      go_ret
      exact ⟨rfl, rfl⟩
    · rw [decide_eq_false (fun h => h1 h.2)]
      go_enter Tryd.func27, Tryd.ntmps27
      go_wp2
      go_ret
      exact ⟨rfl, rfl⟩
  · rw [decide_eq_false (fun h => h0 h.1)]
    go_enter Tryd.func27, Tryd.ntmps27
    go_wp2
    go_ret
    exact ⟨rfl, rfl⟩

set_option maxHeartbeats 400000 in
theorem l1_in (n lo hi : Int) (w : World) :
    Calls Tryd.prog 19 #[.int .i64 n, .int .i64 lo, .int .i64 hi] w fun e w' => e = .returned (.bool (decide (lo ≤ n) && decide (n ≤ hi))) ∧ w = w' := by
  by_cases h1 : lo ≤ n
  · by_cases h2 : n ≤ hi
    all_goals
      go_enter Tryd.func19, Tryd.ntmps19
      go_wp2
      go_ret
      exact ⟨by simp [h1, h2], rfl⟩
  · go_enter Tryd.func19, Tryd.ntmps19
    go_wp2
    go_ret
    exact ⟨by simp; omega, rfl⟩

theorem dig_bytes (c : UInt8) : isDig c = (decide (48 ≤ c.toNat) && decide (c.toNat ≤ 57)) := rfl
theorem valF_succ {s : ByteArray} {k : Nat} (hk : k < s.size) : valF 0 (s.data.toList.take (k + 1)) = valF 0 (s.data.toList.take k) * 10 + (s[k].toNat - 48) := by
  rw [take_succ_at (at_get s k hk)]
  unfold valF
  rw [List.foldl_append]; rfl

end Go.Proofs.YtbhnjnoblkfckabDoor
