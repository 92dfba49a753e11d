import Derived.Test.YtbhnjnoblkfckabGreatDoorGA00
import Derived.Test.YtbhnjnoblkfckabGreatDoorShelf
import Derived.Lib.SmallJoins
import Derived.Lib.AtoiErrMem
import Derived.Lib.AtoiAll
import Derived.Lib.ItoaNum
import Derived.Test.YtbhnjnoblkfckabGreatDoorGA01
import Derived.Test.YtbhnjnoblkfckabGreatDoorGA02
import Derived.Lib.Strings
-- from XNum
/- Walks: numbers as texts. -/
namespace Go.Proofs.YtbhnjnoblkfckabGreatDoor
open Go.RowKit

theorem dec_small {n : Nat} (h : n < 10) : Lib.decDigits n = [UInt8.ofNat (48 + n)] := by rw [Lib.decDigits, dif_pos h]
theorem dec_big {n : Nat} (h : ¬ n < 10) : Lib.decDigits n = Lib.decDigits (n / 10) ++ [UInt8.ofNat (48 + n % 10)] := by rw [Lib.decDigits, dif_neg h]

def isDig (c : UInt8) : Bool := 48 ≤ c.toNat && c.toNat ≤ 57
def valF (acc : Nat) (l : List UInt8) : Nat := l.foldl (fun a c => a * 10 + (c.toNat - 48)) acc

theorem dig_toNat (d : Nat) (h : d < 10) : (UInt8.ofNat (48 + d)).toNat = 48 + d := by simp; omega

/-- Strong induction on numbers, by tens. -/
theorem tens (P : Nat → Prop) (h0 : ∀ n, n < 10 → P n) (h1 : ∀ n, ¬ n < 10 → P (n / 10) → P n) : ∀ n, P n := by
  intro n
  induction n using Nat.strongRecOn with
  | _ n ih =>
    by_cases h : n < 10
    · exact h0 n h
    · exact h1 n h (ih _ (by omega))

theorem dec_digs : ∀ n, (Lib.decDigits n).all isDig = true := by
  refine tens _ ?_ ?_
  · intro n h
    rw [dec_small h]
    have := dig_toNat n h
    simp only [List.all_cons, List.all_nil, isDig, Bool.and_true, this]
    simp; omega
  · intro n h ih
    rw [dec_big h, List.all_append, ih]
    have := dig_toNat (n % 10) (by omega)
    simp only [List.all_cons, List.all_nil, isDig, Bool.and_true, Bool.true_and, this]
    simp; omega

theorem dec_val : ∀ n, valF 0 (Lib.decDigits n) = n := by
  refine tens _ ?_ ?_
  · intro n h
    rw [dec_small h]
    have := dig_toNat n h
    simp only [valF, List.foldl_cons, List.foldl_nil, this]; omega
  · intro n h ih
    rw [dec_big h]
    have := dig_toNat (n % 10) (by omega)
    unfold valF at ih ⊢
    rw [List.foldl_append, ih]
    simp only [List.foldl_cons, List.foldl_nil, this]; omega

theorem dec_len_le : ∀ (k n : Nat), n < 10 ^ (k + 1) → (Lib.decDigits n).length ≤ k + 1 := by
  intro k
  induction k with
  | zero => intro n h; rw [dec_small (by simpa using h)]; simp
  | succ k ih =>
    intro n h
    by_cases h1 : n < 10
    · rw [dec_small h1]; simp
    · rw [dec_big h1, List.length_append]
      have := ih (n / 10) (by rw [Nat.pow_succ] at h; omega)
      simp; omega
theorem dec_ne : ∀ n, Lib.decDigits n ≠ [] := by
  refine tens _ ?_ ?_
  · intro n h; rw [dec_small h]; simp
  · intro n h _; rw [dec_big h]; simp

theorem valF_mono (l : List UInt8) : ∀ acc, acc ≤ valF acc l := by
  induction l with
  | nil => intro acc; exact Nat.le_refl _
  | cons c l ih =>
    intro acc
    have := ih (acc * 10 + (c.toNat - 48))
    have e : valF acc (c :: l) = valF (acc * 10 + (c.toNat - 48)) l := rfl
    rw [e]; omega
theorem parse_val (l : List UInt8) : ∀ acc, l.all isDig = true → valF acc l < 1000000000000000000 → Lib.parseUint10 acc l = .ok (valF acc l) := by
  induction l with
  | nil => intro acc _ _; rfl
  | cons c l ih =>
    intro acc hd hv
    simp only [List.all_cons, Bool.and_eq_true] at hd
    have e : valF acc (c :: l) = valF (acc * 10 + (c.toNat - 48)) l := rfl
    rw [e] at hv ⊢
    have hm := valF_mono l (acc * 10 + (c.toNat - 48))
    have hc : 48 ≤ c.toNat ∧ c.toNat ≤ 57 := by have := hd.1; unfold isDig at this; simpa using this
    unfold Lib.parseUint10
    rw [if_pos hc, if_neg (by omega), if_neg (by omega)]
    exact ih _ hd.2 hv

theorem atoi_dec (n : Nat) (h : n ≤ 999999) : Lib.atoiAll (Lib.decDigits n) = .ok (n : Int) := by
  have hne := dec_ne n
  have hd := dec_digs n
  have hv := dec_val n
  have hp := parse_val (Lib.decDigits n) 0 hd (by rw [hv]; omega)
  rw [hv] at hp
  cases hl : Lib.decDigits n with
  | nil => exact absurd hl hne
  | cons c r =>
    rw [hl] at hd hp
    simp only [List.all_cons, Bool.and_eq_true] at hd
    have hc : 48 ≤ c.toNat ∧ c.toNat ≤ 57 := by have := hd.1; unfold isDig at this; simpa using this
    unfold Lib.atoiAll
    simp only [if_neg (show ¬ (c.toNat = 43 ∨ c.toNat = 45) from by omega)]
    unfold Lib.parseMag
    rw [if_neg (by simp), hp]
    simp only [if_neg (show ¬ (¬ c.toNat = 45 ∧ 9223372036854775808 ≤ n) from by omega), if_neg (show ¬ (c.toNat = 45 ∧ 9223372036854775808 < n) from by omega), if_neg (show ¬ c.toNat = 45 from by omega)]

/-- What a number's text is read as. -/
def numT (n : Int) : List UInt8 := if 0 ≤ n ∧ n ≤ 999999 then Lib.decDigits n.toNat else []
def numR (l : List UInt8) : Nat × Bool :=
  if 1 ≤ l.length ∧ l.length ≤ 6 ∧ l.all isDig = true ∧ Lib.decDigits (valF 0 l) = l then (valF 0 l, true) else (0, false)

theorem numR_dec (n : Nat) (h : n ≤ 999999) : numR (Lib.decDigits n) = (n, true) := by
  unfold numR
  rw [if_pos ⟨List.length_pos_iff.2 (dec_ne n), dec_len_le 5 n (by omega), dec_digs n, by rw [dec_val]⟩, dec_val]
theorem valF_lt (l : List UInt8) : ∀ acc, l.all isDig = true → valF acc l < (acc + 1) * 10 ^ l.length := by
  induction l with
  | nil => intro acc _; simp [valF]
  | cons c l ih =>
    intro acc hd
    simp only [List.all_cons, Bool.and_eq_true] at hd
    have hc : 48 ≤ c.toNat ∧ c.toNat ≤ 57 := by have := hd.1; unfold isDig at this; simpa using this
    have e : valF acc (c :: l) = valF (acc * 10 + (c.toNat - 48)) l := rfl
    rw [e]
    refine Nat.lt_of_lt_of_le (ih _ hd.2) ?_
    rw [List.length_cons, Nat.pow_succ]
    have : acc * 10 + (c.toNat - 48) + 1 ≤ (acc + 1) * 10 := by omega
    calc (acc * 10 + (c.toNat - 48) + 1) * 10 ^ l.length ≤ (acc + 1) * 10 * 10 ^ l.length := Nat.mul_le_mul_right _ this
      _ = (acc + 1) * (10 ^ l.length * 10) := by rw [Nat.mul_assoc, Nat.mul_comm 10]
theorem numR_yes {l : List UInt8} (h : (numR l).2 = true) : (numR l).1 ≤ 999999 ∧ Lib.decDigits (numR l).1 = l := by
  unfold numR at h ⊢
  by_cases hc : 1 ≤ l.length ∧ l.length ≤ 6 ∧ l.all isDig = true ∧ Lib.decDigits (valF 0 l) = l
  · rw [if_pos hc]
    refine ⟨?_, hc.2.2.2⟩
    have := valF_lt l 0 hc.2.2.1
    have hp : 10 ^ l.length ≤ 10 ^ 6 := Nat.pow_le_pow_right (by omega) hc.2.1
    simp only [Nat.zero_add, Nat.one_mul] at this
    show valF 0 l ≤ 999999
    omega
  · rw [if_neg hc] at h; cases h

theorem below_grow {w : World} (os : Array Obj) : Below w.heap.size w (Go.Sort.grow w os) :=
  ⟨rfl, rfl, rfl, by simp [Go.Sort.grow], fun k hk => by simp only [Go.Sort.grow]; rw [Array.getElem?_append_left hk]⟩

/-- What the number functions read. -/
def Tab (w : World) : Prop := Lib.TabIs Tryz.prog w "internal/strconv.uint64pow10" .u64 Lib.pow10Tab
theorem gTabN : Tryz.prog.globalNamed "internal/strconv.uint64pow10" = some 2 := by kernel_rfl
theorem Tab.below {w w' : World} {B : Nat} (h : Tab w) (hb : Below B w w') (hB : w.heap.size ≤ B) : Tab w' := Joins.tab_stays gTabN h hb hB

set_option maxHeartbeats 400000 in
theorem num_ok (n : Int) (w : World) :
    Calls Tryz.prog 54 #[.int .i64 n] w fun e w' => e = .returned (.bool (decide (0 ≤ n ∧ n ≤ 999999))) ∧ w = w' := by
  by_cases h0 : 0 ≤ n
  · by_cases h1 : n ≤ 999999
    · rw [decide_eq_true ⟨h0, h1⟩]
      go_enter Tryz.func54, Tryz.ntmps54
      go_wp2
      go_ret
      exact ⟨rfl, rfl⟩
    · rw [decide_eq_false (fun h => h1 h.2)]
      go_enter Tryz.func54, Tryz.ntmps54
      go_wp2
      go_ret
      exact ⟨rfl, rfl⟩
  · rw [decide_eq_false (fun h => h0 h.1)]
    go_enter Tryz.func54, Tryz.ntmps54
    go_wp2
    go_ret
    exact ⟨rfl, rfl⟩

set_option maxHeartbeats 400000 in
theorem impl_numtext (n : Int) (w : World) (h0 : -9223372036854775808 ≤ n) (h1 : n ≤ 9223372036854775807) (h : Tab w) :
    Calls Tryz.prog 17 #[.int .i64 n] w fun e w' => e = .returned (strV (numT n)) ∧ Below w.heap.size w w' := by
  by_cases hr : 0 ≤ n ∧ n ≤ 999999
  · have e : numT n = Lib.itoa n := by
      unfold numT Lib.itoa; rw [if_pos hr, if_neg (by omega)]
    rw [e]
    clear e
    have hN := num_ok n w
    rw [decide_eq_true hr] at hN
    obtain ⟨hr1, hr2⟩ := hr
    go_enter Tryz.func17, Tryz.ntmps17
    go_wp2_with fail
    refine hN.mono ?_
    rintro e w0 ⟨rfl, rfl⟩
    go_wp2_with fail
    refine (Tryz.strconv_Itoa n h0 h1 _ h).mono ?_
    rintro e w1 ⟨rfl, k, os, rfl⟩
    go_wp2
    go_ret
    exact ⟨rfl, below_drewN_left (n := k) (below_grow (w := w.drewN k) os)⟩
  · have e : numT n = [] := by unfold numT; rw [if_neg hr]
    rw [e]
    clear e h
    have hN := num_ok n w
    rw [decide_eq_false hr] at hN
    clear hr
    go_enter Tryz.func17, Tryz.ntmps17
    go_wp2_with fail
    refine hN.mono ?_
    rintro e w0 ⟨rfl, rfl⟩
    go_wp2
    go_ret
    exact ⟨rfl, Below.refl _ _⟩

set_option maxHeartbeats 400000 in
theorem plain_any (n : Nat) (w : World) (hn : n < 100000000) :
    Calls Tryz.prog 110 #[.int .i64 n] w fun e w' => e = .returned (strV (Lib.decDigits n)) ∧ Below w.heap.size w w' := by
  go_enter Tryz.func110, Tryz.ntmps110
  go_wp2_with fail
  go_loopw [0, 3] (fun x out wr => ∃ f j acc, x = .int .i64 (j : Nat) ∧ out = .string ⟨(acc : List UInt8).toArray⟩ ∧ j < 10 ^ f ∧ f ≤ 8 ∧ acc.length + f ≤ 8 ∧ Lib.decDigits j ++ acc = Lib.decDigits n ∧ Below w.heap.size w wr) (fun x _ _ => (intOf x).toNat)
  case atStart => exact ⟨8, n, [], rfl, rfl, by omega, by omega, by simp, by simp, Below.refl _ _⟩
  case round =>
    obtain ⟨f, j, acc, rfl, rfl, hj, hf, hlen, hd, hb⟩ := hrel
    have HD := Lib.hid hd; clear hd
    have hj7 : j < 100000000 := Nat.lt_of_lt_of_le hj (Nat.le_trans (Nat.pow_le_pow_right (by omega) hf) (by decide))
    have hsz : (ByteArray.mk acc.toArray).size ≤ 8 := by rw [size_len]; simp; omega
    have hsl : acc.length ≤ 8 := by omega
    by_cases hz : 9 < j
    · have hcv := fun W => run_conv1 (P := Tryz.prog) 37 9 5 5 Tryz.underlying37 Tryz.underlying5 Tryz.underlying9 W (48 + (j : Int) % 10) (by omega) (by omega)
      have hx : UInt8.ofNat (48 + (j : Int) % 10).toNat = UInt8.ofNat (48 + j % 10) := by congr 1
      rw [hx] at hcv
      clear hx
      generalize hc : UInt8.ofNat (48 + j % 10) = c at hcv
      have HC := Lib.hid hc; clear hc
      go_wp2
      go_roundw
      case rel =>
        cases f with
        | zero => simp at hj; omega
        | succ f =>
          refine ⟨f, j / 10, c :: acc, by go_num, ?_, ?_, by omega, ?_, ?_, hb.alloc hb.size _⟩
          · exact congrArg Value.string (cat_mk [c] acc)
          · rw [Nat.pow_succ] at hj; omega
          · simp only [List.length_cons]; omega
          · rw [← HD.out, dec_big (n := j) (by omega), HC.out, List.append_assoc]; rfl
      case measure => simp [intOf]; omega
    · have hcv := fun W => run_conv1 (P := Tryz.prog) 37 9 5 5 Tryz.underlying37 Tryz.underlying5 Tryz.underlying9 W (48 + (j : Int)) (by omega) (by omega)
      have hx : UInt8.ofNat (48 + (j : Int)).toNat = UInt8.ofNat (48 + j) := by congr 1
      rw [hx] at hcv
      clear hx
      generalize hc : UInt8.ofNat (48 + j) = c at hcv
      have HC := Lib.hid hc; clear hc
      go_wp2
      go_ret
      refine ⟨?_, hb.alloc hb.size _⟩
      have e : Lib.decDigits n = c :: acc := by rw [← HD.out, dec_small (by omega), HC.out]; rfl
      rw [e]
      exact congrArg (fun s => Ending.returned (Value.string s)) (cat_mk [c] acc)

set_option maxHeartbeats 400000 in
theorem l1_in (n lo hi : Int) (w : World) :
    Calls Tryz.prog 69 #[.int .i64 n, .int .i64 lo, .int .i64 hi] w fun e w' => e = .returned (.bool (decide (lo ≤ n) && decide (n ≤ hi))) ∧ w = w' := by
  by_cases h1 : lo ≤ n
  · by_cases h2 : n ≤ hi
    all_goals
      go_enter Tryz.func69, Tryz.ntmps69
      go_wp2
      go_ret
      exact ⟨by simp [h1, h2], rfl⟩
  · go_enter Tryz.func69, Tryz.ntmps69
    go_wp2
    go_ret
    exact ⟨by simp; omega, rfl⟩

set_option maxHeartbeats 400000 in
theorem spec_numtext (n : Int) (w : World) :
    Calls Tryz.prog 63 #[.int .i64 n] w fun e w' => e = .returned (strV (numT n)) ∧ Below w.heap.size w w' := by
  by_cases hr : 0 ≤ n ∧ n ≤ 999999
  · obtain ⟨hr1, hr2⟩ := hr
    have e : numT n = Lib.decDigits n.toNat := by unfold numT; rw [if_pos ⟨hr1, hr2⟩]
    have hb : (decide ((0 : Int) ≤ n) && decide (n ≤ 999999)) = true := by simp [hr1, hr2]
    rw [e]
    clear e
    obtain ⟨k, rfl⟩ := Int.eq_ofNat_of_zero_le hr1
    rw [Int.toNat_natCast]
    have HB := Lib.hid hb; clear hb
    go_enter Tryz.func63, Tryz.ntmps63
    go_wp2_with fail
    refine (l1_in _ _ _ _).mono ?_
    rintro e w' ⟨rfl, rfl⟩
    rw [HB.out]
    go_wp2_with fail
    refine (plain_any k _ (by omega)).mono ?_
    rintro e w' ⟨rfl, hb⟩
    go_wp2
    go_ret
    exact ⟨rfl, hb⟩
  · have e : numT n = [] := by unfold numT; rw [if_neg hr]
    have hb : (decide ((0 : Int) ≤ n) && decide (n ≤ 999999)) = false := by
      by_cases h1 : 0 ≤ n
      · have : ¬ n ≤ 999999 := fun h2 => hr ⟨h1, h2⟩
        simp [this]
      · simp [h1]
    rw [e]
    clear e hr
    have HB := Lib.hid hb; clear hb
    go_enter Tryz.func63, Tryz.ntmps63
    go_wp2_with fail
    refine (l1_in _ _ _ _).mono ?_
    rintro e w' ⟨rfl, rfl⟩
    rw [HB.out]
    go_wp2
    go_ret
    exact ⟨rfl, Below.refl _ _⟩

theorem dig_bytes (c : UInt8) : isDig c = (decide (48 ≤ c.toNat) && decide (c.toNat ≤ 57)) := rfl
theorem valF_succ {s : ByteArray} {k : Nat} (hk : k < s.size) : valF 0 (s.data.toList.take (k + 1)) = valF 0 (s.data.toList.take k) * 10 + (s[k].toNat - 48) := by
  rw [take_succ_at (at_get s k hk)]
  unfold valF
  rw [List.foldl_append]; rfl

set_option maxHeartbeats 800000 in
theorem spec_numread (s : ByteArray) (w : World) (hs : s.size ≤ maxLen) :
    Calls Tryz.prog 62 #[.string s] w fun e w' => e = .returned (.tuple #[.int .i64 ((numR s.data.toList).1 : Int), .bool (numR s.data.toList).2]) ∧ Below w.heap.size w w' := by
  unfold maxLen at hs
  have hlen := size_len s
  by_cases hl : 1 ≤ s.size ∧ s.size ≤ 6
  · obtain ⟨hl1, hl2⟩ := hl
    have hz : ((s.size : Int) == 0) = false := beq_eq_false_iff_ne.2 (by omega)
    have HLEN := Lib.hid hlen; clear hlen
    go_enter Tryz.func62, Tryz.ntmps62
    go_wp2_with fail
    go_loopw [4, 5] (fun n i wr => ∃ k : Nat, k ≤ s.size ∧ i = .int .i64 k ∧ n = .int .i64 (valF 0 (s.data.toList.take k) : Nat) ∧ (s.data.toList.take k).all isDig = true ∧ wr = w) (fun _ i _ => s.size - (intOf i).toNat)
    case atStart => exact ⟨0, Nat.zero_le _, rfl, rfl, by simp, rfl⟩
    case round =>
      obtain ⟨k, hk, rfl, rfl, hall, rfl⟩ := hrel
      have hvlt := valF_lt (s.data.toList.take k) 0 hall
      have hpl : (s.data.toList.take k).length ≤ 6 := by rw [List.length_take]; omega
      have hpw : 10 ^ (s.data.toList.take k).length ≤ 10 ^ 6 := Nat.pow_le_pow_right (by omega) hpl
      have hv6 : valF 0 (s.data.toList.take k) < 1000000 := by omega
      clear hvlt hpl hpw
      by_cases hlt : k < s.size
      · have hsucc := valF_succ hlt
        have hdg := dig_bytes s[k]
        have hstep := fun h => all_take_succ (p := isDig) hlt hall h
        have hfalse := fun h => all_false_at (p := isDig) hlt h
        have hc8 := s[k].toNat_lt
        generalize valF 0 (s.data.toList.take k) = v at *
        have HS := Lib.hid hsucc; have HD := Lib.hid hdg; have HST := Lib.hid hstep; have HF := Lib.hid hfalse
        clear hsucc hdg hstep hfalse
        by_cases hd : 48 ≤ s[k].toNat ∧ s[k].toNat ≤ 57
        · obtain ⟨hd1, hd2⟩ := hd
          go_wp2
          go_roundw
          case rel =>
            refine ⟨k + 1, by omega, by go_num, ?_, HST.out (by rw [HD.out]; simp [hd1, hd2]), by trivial⟩
            rw [HS.out]; go_num
          case measure => simp [intOf]; omega
        · have hr : numR s.data.toList = (0, false) := by
            unfold numR
            rw [if_neg]
            rintro ⟨_, _, h3, _⟩
            rw [HF.out (by rw [HD.out]; simp; omega)] at h3; cases h3
          have HR := Lib.hid hr; clear hr
          have hd' : s[k].toNat < 48 ∨ (48 ≤ s[k].toNat ∧ 57 < s[k].toNat) := by omega
          rcases hd' with hd' | ⟨hd1, hd2⟩
          all_goals
            go_wp2
            go_ret2
            rw [HR.out]
            exact ⟨rfl, Below.refl _ _⟩
      · have hks : s.data.toList.length ≤ k := by rw [← HLEN.out]; omega
        rw [List.take_of_length_le hks] at hall hv6 ⊢
        have hnum : numR s.data.toList = if Lib.decDigits (valF 0 s.data.toList) = s.data.toList then (valF 0 s.data.toList, true) else (0, false) := by
          unfold numR
          by_cases h : Lib.decDigits (valF 0 s.data.toList) = s.data.toList
          · rw [if_pos h, if_pos ⟨by rw [← HLEN.out]; exact hl1, by rw [← HLEN.out]; exact hl2, hall, h⟩]
          · rw [if_neg h, if_neg (fun hh => h hh.2.2.2)]
        clear hall
        have HN := Lib.hid hnum; clear hnum
        generalize hvv : valF 0 s.data.toList = v at *
        clear hvv
        by_cases hq : Lib.decDigits v = s.data.toList
        · have hbs : (⟨(Lib.decDigits v).toArray⟩ : ByteArray) = s := by rw [hq]
          have HB := Lib.hid hbs; have HQ := Lib.hid hq; clear hbs hq
          go_wp2_with fail
          refine (plain_any v _ (by omega)).mono ?_
          rintro e w1 ⟨rfl, hb⟩
          simp only [strV]
          rw [HB.out]
          go_wp2
          go_ret2
          rw [HN.out, if_pos HQ.out]
          exact ⟨rfl, hb⟩
        · have hbs : (Lib.decDigits v == s.toList) = false := beq_eq_false_iff_ne.2 (by rw [Lib.toList_data]; exact hq)
          have HB := Lib.hid hq; clear hq
          go_wp2_with fail
          refine (plain_any v _ (by omega)).mono ?_
          rintro e w1 ⟨rfl, hb⟩
          go_wp2
          go_ret2
          rw [HN.out, if_neg HB.out]
          exact ⟨rfl, hb⟩
  · have hr : numR s.data.toList = (0, false) := by
      unfold numR
      rw [if_neg]
      rintro ⟨h1, h2, _⟩
      exact hl ⟨by omega, by omega⟩
    rw [hr]
    clear hr
    have hl' : s.size = 0 ∨ (1 ≤ s.size ∧ 6 < s.size) := by omega
    clear hlen
    rcases hl' with hl' | ⟨h1, h2⟩
    · have hz : ((s.size : Int) == 0) = true := by simp [hl']
      go_enter Tryz.func62, Tryz.ntmps62
      go_wp2
      go_ret2
      exact ⟨rfl, Below.refl _ _⟩
    · have hz : ((s.size : Int) == 0) = false := beq_eq_false_iff_ne.2 (by omega)
      go_enter Tryz.func62, Tryz.ntmps62
      go_wp2
      go_ret2
      exact ⟨rfl, Below.refl _ _⟩
end Go.Proofs.YtbhnjnoblkfckabGreatDoor

-- from XBod
/- Walks: which bodies are valid. -/
namespace Go.Proofs.YtbhnjnoblkfckabGreatDoor
open Go.RowKit

def bodyB (l : List UInt8) : Bool := decide (l.length ≤ 20) && printB l
set_option maxHeartbeats 800000 in
theorem l4_body (s : ByteArray) (w : World) (hs : s.size ≤ maxLen) :
    Calls Tryz.prog 88 #[.string s] w fun e w' => e = .returned (.bool (bodyB s.data.toList)) ∧ w = w' := by
  unfold maxLen at hs
  by_cases h1 : s.size ≤ 20
  · have hbase : bodyB s.data.toList = printB s.data.toList := by simp [bodyB, h1]
    have HB := Lib.hid hbase; clear hbase
    go_enter Tryz.func88, Tryz.ntmps88
    go_wp2_with fail
    go_loop [3] (fun i => ∃ k : Nat, k ≤ s.size ∧ i = .int .i64 k ∧ (s.data.toList.take k).all printC = true) (fun i => s.size - (intOf i).toNat)
    case atStart => exact ⟨0, Nat.zero_le _, rfl, by simp⟩
    case round =>
      obtain ⟨k, hk, rfl, hall⟩ := hrel
      by_cases hlt : k < s.size
      · by_cases hp : printC s[k] = true
        · have hstep := all_take_succ hlt hall hp
          simp only [printC, Bool.and_eq_true, decide_eq_true_eq] at hp
          obtain ⟨p1, p2⟩ := hp
          have HS := Lib.hid hstep
          clear hstep hall
          go_wp2
          go_round
          case rel => exact ⟨k + 1, by omega, by go_num, HS.out⟩
          case measure => simp [intOf]; omega
        · have hf : printB s.data.toList = false := all_false_at hlt (by simpa using hp)
          have HF := Lib.hid (HB.out.trans hf)
          have hp' : s[k].toNat < 32 ∨ 126 < s[k].toNat := by
            simp only [printC, Bool.and_eq_true, decide_eq_true_eq] at hp; omega
          clear hf hp hall
          rcases hp' with hp' | hp'
          · go_wp2
            go_ret
            rw [HF.out]; exact ⟨rfl, rfl⟩
          · have hp2 : 32 ≤ s[k].toNat := by omega
            go_wp2
            go_ret
            rw [HF.out]; exact ⟨rfl, rfl⟩
      · go_wp2
        go_ret
        have hf : printB s.data.toList = true := all_of_take (by omega) hall
        rw [HB.out, hf]; exact ⟨rfl, rfl⟩
  · have hf : bodyB s.data.toList = false := by simp [bodyB, h1]
    have HF := Lib.hid hf; clear hf
    go_enter Tryz.func88, Tryz.ntmps88
    go_wp2
    go_ret
    rw [HF.out]; exact ⟨rfl, rfl⟩

set_option maxHeartbeats 800000 in
theorem impl_bodyok (s : ByteArray) (m : Nat) (w : World) (hs : s.size ≤ maxLen) :
    Calls Tryz.prog 82 #[.string s, .int .i64 (m : Nat)] w fun e w' => e = .returned (.bool (decide (s.data.toList.length ≤ m) && printB s.data.toList)) ∧ w = w' := by
  have hP := fun W => printable s W hs
  rw [← size_len]
  unfold maxLen at hs
  generalize printB s.data.toList = pb at *
  by_cases hm : s.size ≤ m
  · have i1 : (s.size : Int) ≤ m := by omega
    rw [decide_eq_true hm, Bool.true_and]
    go_enter Tryz.func82, Tryz.ntmps82
    go_wp2_with fail
    refine (hP _).mono ?_
    rintro e w1 ⟨rfl, rfl⟩
    go_wp2
    go_ret
    exact ⟨rfl, rfl⟩
  · have i1 : ¬ (s.size : Int) ≤ m := by omega
    rw [decide_eq_false hm, Bool.false_and]
    go_enter Tryz.func82, Tryz.ntmps82
    go_wp2
    go_ret
    exact ⟨rfl, rfl⟩
end Go.Proofs.YtbhnjnoblkfckabGreatDoor

-- from XHedD
/- Requests: what they are, their texts, and what is read of a text, as plain functions. -/
namespace Go.Proofs.YtbhnjnoblkfckabGreatDoor

/-- A request. -/
structure Hd where
  verb : ByteArray
  target : ByteArray
  host : ByteArray
  fs : List (ByteArray × ByteArray)
  body : ByteArray

def bGet : List UInt8 := [103, 101, 116]
def bPut : List UInt8 := [112, 117, 116]
def bPurge : List UInt8 := [112, 117, 114, 103, 101]
def bHost : List UInt8 := [104, 111, 115, 116]
def bLength : List UInt8 := [108, 101, 110, 103, 116, 104]
def bTransfer : List UInt8 := [116, 114, 97, 110, 115, 102, 101, 114]
def bHttp : List UInt8 := [104, 116, 116, 112, 58, 47, 47]

def verbB (l : List UInt8) : Bool := l == bGet || l == bPut || l == bPurge
def ownB (l : List UInt8) : Bool := l == bHost || l == bLength || l == bTransfer
/-- Lines, each with its end. -/
def joinL (ls : List (List UInt8)) : List UInt8 := ls.flatMap (· ++ [10])
def lenLines (b : List UInt8) : List (List UInt8) := if b = [] then [] else [bLength ++ 58 :: 32 :: Lib.decDigits b.length]
def hedLines (h : Hd) : List (List UInt8) :=
  (h.verb.data.toList ++ 32 :: h.target.data.toList) :: (bHost ++ 58 :: 32 :: h.host.data.toList) :: ((h.fs.map fun f => (fdT f).data.toList) ++ lenLines h.body.data.toList)
/-- The text ahead of the body. -/
def headT (h : Hd) : List UInt8 := joinL (hedLines h) ++ [10]
def hedT (h : Hd) : List UInt8 := headT h ++ h.body.data.toList

def hedB (h : Hd) : Bool :=
  verbB h.verb.data.toList && decide (canonL h.target.data.toList = some h.target.data.toList) && hostB h.host.data.toList && decide (h.fs.length ≤ 6) && bodyB h.body.data.toList &&
  (decide (h.body.data.toList = []) || h.verb.data.toList == bPut) && (h.fs.all fun f => fdB f && !ownB f.1.data.toList) && decide ((headT h).length ≤ 300)

/-- The lines ahead of the first empty one, how many bytes they have with that, and whether there is one. -/
def linesL : Nat → List UInt8 → Nat → List (List UInt8) × Nat × Bool
  | 0, _, used => ([], used, false)
  | f + 1, rest, used =>
    if 300 < used then ([], used, false)
    else if (cutL rest 10).2.2 = false then ([], used + rest.length, false)
    else if (cutL rest 10).1 = [] then ([], used + 1, true)
    else ((cutL rest 10).1 :: (linesL f (cutL rest 10).2.1 (used + (cutL rest 10).1.length + 1)).1, (linesL f (cutL rest 10).2.1 (used + (cutL rest 10).1.length + 1)).2)

def targetL (l : List UInt8) : Option (List UInt8 × List UInt8) :=
  if bHttp.isPrefixOf l = true then
    (if (cutL (l.drop 7) 47).2.2 = true ∧ hostB (hostC (cutL (l.drop 7) 47).1) = true then (canonL (47 :: (cutL (l.drop 7) 47).2.1)).map fun p => (p, hostC (cutL (l.drop 7) 47).1) else none)
  else (canonL l).map fun p => (p, [])
/-- The verb, the place, and of whom, if the line says so. -/
def firstL (line : List UInt8) : Option (List UInt8 × List UInt8 × List UInt8) :=
  if (cutL line 32).2.2 = true ∧ verbB (cutL line 32).1 = true then (targetL (cutL line 32).2.1).map fun t => ((cutL line 32).1, t.1, t.2) else none
def fieldsL (ls : List (List UInt8)) : Option (List (ByteArray × ByteArray)) := if ls.length ≤ 8 ∧ ls.all rdB = true then some (ls.map rdF) else none
def othersL (fs : List (ByteArray × ByteArray)) : List (ByteArray × ByteArray) := fs.filter fun f => !ownB f.1.data.toList
def sizeL (verb : List UInt8) (fs : List (ByteArray × ByteArray)) : Option Nat :=
  if 0 < (allTo fs ⟨bTransfer.toArray⟩ fs.length).length then none
  else match allTo fs ⟨bLength.toArray⟩ fs.length with
    | [] => some 0
    | [x] => if (numR x.data.toList).2 = true ∧ (numR x.data.toList).1 ≤ 20 ∧ ((numR x.data.toList).1 = 0 ∨ verb = bPut) then some (numR x.data.toList).1 else none
    | _ => none
/-- A request of its lines, but for its body, and how long that is. -/
def wholeL (ls : List (List UInt8)) : Option (Hd × Nat) :=
  match ls with
  | [] => none
  | l :: ls => match firstL l, fieldsL ls with
    | some (verb, place, named), some fs => match oneOf (allTo fs ⟨bHost.toArray⟩ fs.length) with
      | (value, true) =>
        if hostB (hostC value.data.toList) = true ∧ (named = [] ∨ named = hostC value.data.toList) ∧ (othersL fs).length ≤ 6 then
          (sizeL verb fs).map fun n => (⟨⟨verb.toArray⟩, ⟨place.toArray⟩, ⟨(hostC value.data.toList).toArray⟩, othersL fs, ⟨#[]⟩⟩, n)
        else none
      | _ => none
    | _, _ => none
def noHd : Hd := ⟨⟨#[]⟩, ⟨#[]⟩, ⟨#[]⟩, [], ⟨#[]⟩⟩
/-- What is read of a text: the request, its bytes, and what it is. -/
def readL (s : List UInt8) : Hd × Nat × Nat :=
  if 300 < (linesL 302 s 0).2.1 then (noHd, 0, 3)
  else if (linesL 302 s 0).2.2 = false then (noHd, 0, 2)
  else match wholeL (linesL 302 s 0).1 with
    | none => (noHd, 0, 3)
    | some (h, n) =>
      if s.length < (linesL 302 s 0).2.1 + n then (noHd, 0, 2)
      else if hedB { h with body := ⟨((s.drop (linesL 302 s 0).2.1).take n).toArray⟩ } = true then ({ h with body := ⟨((s.drop (linesL 302 s 0).2.1).take n).toArray⟩ }, (linesL 302 s 0).2.1 + n, 1) else (noHd, 0, 3)

end Go.Proofs.YtbhnjnoblkfckabGreatDoor

-- from XHstW
/- Walks: hosts, verbs, names of a request's own, bodies, by the specification. -/
namespace Go.Proofs.YtbhnjnoblkfckabGreatDoor
open Go.RowKit

set_option maxHeartbeats 400000 in
theorem l4_verb (s : ByteArray) (w : World) :
    Calls Tryz.prog 87 #[.string s] w fun e w' => e = .returned (.bool (verbB s.data.toList)) ∧ w = w' := by
  have he : verbB s.data.toList = (s.toList == [103, 101, 116] || s.toList == [112, 117, 116] || s.toList == [112, 117, 114, 103, 101]) := by rw [Lib.toList_data]; rfl
  have HE := Lib.hid he; clear he
  go_enter Tryz.func87, Tryz.ntmps87
  go_wp2
  all_goals go_ret
  all_goals (refine ⟨?_, rfl⟩; rw [HE.out])
  · rename_i h; rw [h]; rfl
  · rename_i h1 h; rw [h]; rfl
  · rfl

set_option maxHeartbeats 400000 in
theorem l4_own (s : ByteArray) (w : World) :
    Calls Tryz.prog 90 #[.string s] w fun e w' => e = .returned (.bool (ownB s.data.toList)) ∧ w = w' := by
  have he : ownB s.data.toList = (s.toList == [104, 111, 115, 116] || s.toList == [108, 101, 110, 103, 116, 104] || s.toList == [116, 114, 97, 110, 115, 102, 101, 114]) := by rw [Lib.toList_data]; rfl
  have HE := Lib.hid he; clear he
  go_enter Tryz.func90, Tryz.ntmps90
  go_wp2
  all_goals go_ret
  all_goals (refine ⟨?_, rfl⟩; rw [HE.out])
  · rename_i h; rw [h]; rfl
  · rename_i h1 h; rw [h]; rfl
  · rfl

/-- No part is longer than the text. -/
theorem parts_le {c : UInt8} : ∀ {l p : List UInt8}, p ∈ partsL l c → p.length ≤ l.length := by
  intro l
  induction l with
  | nil => intro p h; have : p = [] := by simpa [partsL] using h
           subst this; exact Nat.le_refl _
  | cons x l ih =>
    intro p h
    have e1 : partsL (x :: l) c = if x = c then [] :: partsL l c else match partsL l c with
      | [] => [[x]]
      | p :: ps => (x :: p) :: ps := rfl
    rw [e1] at h
    by_cases hx : x = c
    · rw [if_pos hx] at h
      rcases List.mem_cons.1 h with rfl | h
      · simp
      · have := ih h; simp; omega
    · rw [if_neg hx] at h
      cases hp : partsL l c with
      | nil => exact absurd hp (partsL_ne l c)
      | cons q qs =>
        rw [hp] at h
        dsimp only at h
        rcases List.mem_cons.1 h with rfl | h
        · have := ih (p := q) (by rw [hp]; exact List.mem_cons_self ..); simp; omega
        · have := ih (p := p) (by rw [hp]; exact List.mem_cons_of_mem _ h); simp; omega

set_option maxHeartbeats 3200000 in
theorem spec_host (s : ByteArray) (w : World) (hs : s.size ≤ 1048576) :
    Calls Tryz.prog 86 #[.string s] w fun e w' => e = .returned (.tuple #[.string (hostR s.data.toList).1, .bool (hostR s.data.toList).2]) ∧ Below w.heap.size w w' := by
  have hL := fun W => spec_lower s W hs
  have hlen : (lowL s.data.toList).length = s.size := by rw [low_len, size_len]
  have hR : hostR s.data.toList = if hostB (stripL (lowL s.data.toList)) = true then (⟨(stripL (lowL s.data.toList)).toArray⟩, true) else (⟨#[]⟩, false) := rfl
  generalize lowL s.data.toList = t at *
  unfold strV at hL
  have hstrip : stripL t = if 3 < s.size ∧ t.drop (s.size - 3) = [58, 56, 48] then t.take (s.size - 3) else t := by unfold stripL; rw [hlen]
  have hts : (ByteArray.mk t.toArray).size = s.size := by rw [size_len]; simpa using hlen
  have hdr : (ByteArray.mk t.toArray).extract (s.size - 3) s.size = ⟨(t.drop (s.size - 3)).toArray⟩ := by
    have := ext_drop (ByteArray.mk t.toArray) (s.size - 3)
    rw [hts] at this
    rw [this]
  have htk : (ByteArray.mk t.toArray).extract 0 (s.size - 3) = ⟨(t.take (s.size - 3)).toArray⟩ := by
    rw [ext_take]
  obtain ⟨X, hX⟩ : ∃ X : ByteArray, X = ⟨(stripL t).toArray⟩ := ⟨_, rfl⟩
  have hXl : X.data.toList = stripL t := by rw [hX]
  have HX := Lib.hid hX; have HXl := Lib.hid hXl
  have hXs : X.size ≤ 1048576 := by
    rw [size_len, hXl, hstrip]
    split
    · rw [List.length_take]; omega
    · omega
  by_cases h3 : 3 < s.size
  · by_cases hd : t.drop (s.size - 3) = [58, 56, 48]
    · rw [if_pos ⟨h3, hd⟩] at hstrip
      have hy : (ByteArray.mk t.toArray).extract 0 (s.size - 3) = X := by rw [htk, hX, hstrip]
      have he : (((ByteArray.mk t.toArray).extract (s.size - 3) s.size).toList == [58, 56, 48]) = true := by rw [hdr, Lib.toList_data]; simp [hd]
      have i1 : (3 : Int) < (s.size : Int) := by omega
      clear hdr htk hd hstrip
      generalize (ByteArray.mk t.toArray) = T at *
      have HY := Lib.hid hy; clear hy
      clear hX hXl
      go_enter Tryz.func86, Tryz.ntmps86
      go_wp2_with fail
      refine (hL _).mono ?_
      rintro e w1 ⟨rfl, hb1⟩
      go_wp2_with fail
      rw [HY.out]
      refine (spec_parts X 46 _ hXs).mono ?_
      rintro e w2 ⟨v, rfl, ho, hb2⟩

      have hSl : (stripL t).length = X.size := by rw [size_len, HXl.out]
      have ho' := ho
      rw [HXl.out] at ho
      have hne := partsL_ne (stripL t) 46
      have hpos : 0 < (partsL (stripL t) 46).length := by
        cases hp : partsL (stripL t) 46 with
        | nil => exact absurd hp hne
        | cons => simp
      obtain ⟨g, cap, rfl⟩ := own_form ho hpos
      have hplen := partsL_len (stripL t) 46
      have hcell : ∀ j p, (partsL (stripL t) 46)[j]? = some p → w2.cell? ⟨g, j, none⟩ = some (.string ⟨p.toArray⟩) := fun j p hj => own_cell ho (by rw [List.getElem?_map, hj]; rfl)
      have hgl := (ho.lt g rfl).2
      have hplB : ∀ p ∈ partsL (stripL t) 46, p.length ≤ (stripL t).length := fun p hp => parts_le hp
      have HCell := Lib.hid hcell; have HPl := Lib.hid hplB
      have hbel := hb1.trans (hb2.mono hb1.size)
      have HBel := Lib.hid hbel
      have hhb : hostB (stripL t) = (decide ((stripL t).length ≤ 20) && (partsL (stripL t) 46).all tokB) := rfl
      have HH := Lib.hid hhb
      clear ho ho' hcell hplB hne hb1 hb2 hbel hhb hL
      generalize hPs : partsL (stripL t) 46 = Ps at *
      have HPs := Lib.hid hPs
      clear hPs
      by_cases h20 : X.size ≤ 20
      · go_wp2_with fail
        go_loopw [6] (fun i wr => ∃ k : Nat, k ≤ Ps.length ∧ i = .int .i64 k ∧ (Ps.take k).all tokB = true ∧ wr = w2) (fun i _ => Ps.length - (intOf i).toNat)
        case atStart => exact ⟨0, Nat.zero_le _, rfl, by simp, rfl⟩
        case round =>
          obtain ⟨k, hk, rfl, hall, rfl⟩ := hrel
          by_cases hlt : k < Ps.length
          · have hgk : Ps[k]? = some Ps[k] := List.getElem?_eq_getElem hlt
            have c0 := HCell.out k _ hgk
            have hpk := HPl.out Ps[k] (List.getElem_mem hlt)
            have htk : Ps.take (k + 1) = Ps.take k ++ [Ps[k]] := by rw [List.take_add_one, hgk]; rfl
            have hmem : Ps[k] ∈ Ps := List.getElem_mem hlt
            generalize Ps[k] = p at *
            have hT := fun W => spec_tok ⟨p.toArray⟩ W (by unfold maxLen; rw [size_len]; simp only; omega)
            have hpl : (ByteArray.mk p.toArray).data.toList = p := by simp
            rw [hpl] at hT
            have HTk := Lib.hid htk
            clear htk hpl hgk
            cases htp : tokB p
            · rw [htp] at hT
              have hf : hostB (stripL t) = false := by
                rw [HH.out]
                have : Ps.all tokB = false := by
                  rw [Bool.eq_false_iff]; intro h
                  rw [List.all_eq_true] at h
                  rw [h p hmem] at htp; cases htp
                rw [this, Bool.and_false]
              rw [hf] at hR
              have HF := Lib.hid hR
              clear hf htp hmem hR
              go_wp2_with fail
              refine (hT _).mono ?_
              rintro e w3 ⟨rfl, rfl⟩
              go_wp2
              go_ret2
              rw [HF.out]
              exact ⟨rfl, HBel.out⟩
            · rw [htp] at hT
              have hall' : (Ps.take (k + 1)).all tokB = true := by rw [HTk.out, List.all_append, hall]; simp [htp]
              have HA := Lib.hid hall'
              clear hall' htp hmem hall
              go_wp2_with fail
              refine (hT _).mono ?_
              rintro e w3 ⟨rfl, rfl⟩
              go_wp2
              go_roundw
              case rel => exact ⟨k + 1, by omega, by go_num, HA.out, trivial⟩
              case measure => simp [intOf]; omega
          · have hkn : k = Ps.length := by omega
            subst hkn
            rw [List.take_of_length_le (Nat.le_refl _)] at hall
            have hf : hostB (stripL t) = true := by
              rw [HH.out, hall, Bool.and_true, decide_eq_true_eq, ← HXl.out, ← size_len]; exact h20
            rw [hf, if_pos rfl, ← HX.out] at hR
            have HF := Lib.hid hR
            clear hf hR hall
            go_wp2
            go_ret2
            rw [HF.out]
            exact ⟨rfl, HBel.out⟩
      · have hf : hostB (stripL t) = false := by
          rw [HH.out, decide_eq_false (by rw [← HXl.out, ← size_len]; exact h20), Bool.false_and]
        rw [hf] at hR
        have HF := Lib.hid hR
        clear hf hR
        go_wp2
        go_ret2
        rw [HF.out]
        exact ⟨rfl, HBel.out⟩
    · rw [if_neg (fun h => hd h.2)] at hstrip
      have hy : X = (ByteArray.mk t.toArray) := by rw [hX, hstrip]
      have he : (((ByteArray.mk t.toArray).extract (s.size - 3) s.size).toList == [58, 56, 48]) = false := by rw [hdr, Lib.toList_data]; simpa using hd
      have i1 : (3 : Int) < (s.size : Int) := by omega
      clear hdr htk hd hstrip
      generalize (ByteArray.mk t.toArray) = T at *
      subst hy
      clear hX hXl
      go_enter Tryz.func86, Tryz.ntmps86
      go_wp2_with fail
      refine (hL _).mono ?_
      rintro e w1 ⟨rfl, hb1⟩
      go_wp2_with fail
      refine (spec_parts X 46 _ hXs).mono ?_
      rintro e w2 ⟨v, rfl, ho, hb2⟩

      have hSl : (stripL t).length = X.size := by rw [size_len, HXl.out]
      have ho' := ho
      rw [HXl.out] at ho
      have hne := partsL_ne (stripL t) 46
      have hpos : 0 < (partsL (stripL t) 46).length := by
        cases hp : partsL (stripL t) 46 with
        | nil => exact absurd hp hne
        | cons => simp
      obtain ⟨g, cap, rfl⟩ := own_form ho hpos
      have hplen := partsL_len (stripL t) 46
      have hcell : ∀ j p, (partsL (stripL t) 46)[j]? = some p → w2.cell? ⟨g, j, none⟩ = some (.string ⟨p.toArray⟩) := fun j p hj => own_cell ho (by rw [List.getElem?_map, hj]; rfl)
      have hgl := (ho.lt g rfl).2
      have hplB : ∀ p ∈ partsL (stripL t) 46, p.length ≤ (stripL t).length := fun p hp => parts_le hp
      have HCell := Lib.hid hcell; have HPl := Lib.hid hplB
      have hbel := hb1.trans (hb2.mono hb1.size)
      have HBel := Lib.hid hbel
      have hhb : hostB (stripL t) = (decide ((stripL t).length ≤ 20) && (partsL (stripL t) 46).all tokB) := rfl
      have HH := Lib.hid hhb
      clear ho ho' hcell hplB hne hb1 hb2 hbel hhb hL
      generalize hPs : partsL (stripL t) 46 = Ps at *
      have HPs := Lib.hid hPs
      clear hPs
      by_cases h20 : X.size ≤ 20
      · go_wp2_with fail
        go_loopw [6] (fun i wr => ∃ k : Nat, k ≤ Ps.length ∧ i = .int .i64 k ∧ (Ps.take k).all tokB = true ∧ wr = w2) (fun i _ => Ps.length - (intOf i).toNat)
        case atStart => exact ⟨0, Nat.zero_le _, rfl, by simp, rfl⟩
        case round =>
          obtain ⟨k, hk, rfl, hall, rfl⟩ := hrel
          by_cases hlt : k < Ps.length
          · have hgk : Ps[k]? = some Ps[k] := List.getElem?_eq_getElem hlt
            have c0 := HCell.out k _ hgk
            have hpk := HPl.out Ps[k] (List.getElem_mem hlt)
            have htk : Ps.take (k + 1) = Ps.take k ++ [Ps[k]] := by rw [List.take_add_one, hgk]; rfl
            have hmem : Ps[k] ∈ Ps := List.getElem_mem hlt
            generalize Ps[k] = p at *
            have hT := fun W => spec_tok ⟨p.toArray⟩ W (by unfold maxLen; rw [size_len]; simp only; omega)
            have hpl : (ByteArray.mk p.toArray).data.toList = p := by simp
            rw [hpl] at hT
            have HTk := Lib.hid htk
            clear htk hpl hgk
            cases htp : tokB p
            · rw [htp] at hT
              have hf : hostB (stripL t) = false := by
                rw [HH.out]
                have : Ps.all tokB = false := by
                  rw [Bool.eq_false_iff]; intro h
                  rw [List.all_eq_true] at h
                  rw [h p hmem] at htp; cases htp
                rw [this, Bool.and_false]
              rw [hf] at hR
              have HF := Lib.hid hR
              clear hf htp hmem hR
              go_wp2_with fail
              refine (hT _).mono ?_
              rintro e w3 ⟨rfl, rfl⟩
              go_wp2
              go_ret2
              rw [HF.out]
              exact ⟨rfl, HBel.out⟩
            · rw [htp] at hT
              have hall' : (Ps.take (k + 1)).all tokB = true := by rw [HTk.out, List.all_append, hall]; simp [htp]
              have HA := Lib.hid hall'
              clear hall' htp hmem hall
              go_wp2_with fail
              refine (hT _).mono ?_
              rintro e w3 ⟨rfl, rfl⟩
              go_wp2
              go_roundw
              case rel => exact ⟨k + 1, by omega, by go_num, HA.out, trivial⟩
              case measure => simp [intOf]; omega
          · have hkn : k = Ps.length := by omega
            subst hkn
            rw [List.take_of_length_le (Nat.le_refl _)] at hall
            have hf : hostB (stripL t) = true := by
              rw [HH.out, hall, Bool.and_true, decide_eq_true_eq, ← HXl.out, ← size_len]; exact h20
            rw [hf, if_pos rfl, ← HX.out] at hR
            have HF := Lib.hid hR
            clear hf hR hall
            go_wp2
            go_ret2
            rw [HF.out]
            exact ⟨rfl, HBel.out⟩
      · have hf : hostB (stripL t) = false := by
          rw [HH.out, decide_eq_false (by rw [← HXl.out, ← size_len]; exact h20), Bool.false_and]
        rw [hf] at hR
        have HF := Lib.hid hR
        clear hf hR
        go_wp2
        go_ret2
        rw [HF.out]
        exact ⟨rfl, HBel.out⟩
  · rw [if_neg (fun h => h3 h.1)] at hstrip
    have hy : X = (ByteArray.mk t.toArray) := by rw [hX, hstrip]
    have i1 : ¬ (3 : Int) < (s.size : Int) := by omega
    clear hdr htk hstrip
    generalize (ByteArray.mk t.toArray) = T at *
    subst hy
    clear hX hXl
    go_enter Tryz.func86, Tryz.ntmps86
    go_wp2_with fail
    refine (hL _).mono ?_
    rintro e w1 ⟨rfl, hb1⟩
    go_wp2_with fail
    refine (spec_parts X 46 _ hXs).mono ?_
    rintro e w2 ⟨v, rfl, ho, hb2⟩

    have hSl : (stripL t).length = X.size := by rw [size_len, HXl.out]
    have ho' := ho
    rw [HXl.out] at ho
    have hne := partsL_ne (stripL t) 46
    have hpos : 0 < (partsL (stripL t) 46).length := by
      cases hp : partsL (stripL t) 46 with
      | nil => exact absurd hp hne
      | cons => simp
    obtain ⟨g, cap, rfl⟩ := own_form ho hpos
    have hplen := partsL_len (stripL t) 46
    have hcell : ∀ j p, (partsL (stripL t) 46)[j]? = some p → w2.cell? ⟨g, j, none⟩ = some (.string ⟨p.toArray⟩) := fun j p hj => own_cell ho (by rw [List.getElem?_map, hj]; rfl)
    have hgl := (ho.lt g rfl).2
    have hplB : ∀ p ∈ partsL (stripL t) 46, p.length ≤ (stripL t).length := fun p hp => parts_le hp
    have HCell := Lib.hid hcell; have HPl := Lib.hid hplB
    have hbel := hb1.trans (hb2.mono hb1.size)
    have HBel := Lib.hid hbel
    have hhb : hostB (stripL t) = (decide ((stripL t).length ≤ 20) && (partsL (stripL t) 46).all tokB) := rfl
    have HH := Lib.hid hhb
    clear ho ho' hcell hplB hne hb1 hb2 hbel hhb hL
    generalize hPs : partsL (stripL t) 46 = Ps at *
    have HPs := Lib.hid hPs
    clear hPs
    by_cases h20 : X.size ≤ 20
    · go_wp2_with fail
      go_loopw [6] (fun i wr => ∃ k : Nat, k ≤ Ps.length ∧ i = .int .i64 k ∧ (Ps.take k).all tokB = true ∧ wr = w2) (fun i _ => Ps.length - (intOf i).toNat)
      case atStart => exact ⟨0, Nat.zero_le _, rfl, by simp, rfl⟩
      case round =>
        obtain ⟨k, hk, rfl, hall, rfl⟩ := hrel
        by_cases hlt : k < Ps.length
        · have hgk : Ps[k]? = some Ps[k] := List.getElem?_eq_getElem hlt
          have c0 := HCell.out k _ hgk
          have hpk := HPl.out Ps[k] (List.getElem_mem hlt)
          have htk : Ps.take (k + 1) = Ps.take k ++ [Ps[k]] := by rw [List.take_add_one, hgk]; rfl
          have hmem : Ps[k] ∈ Ps := List.getElem_mem hlt
          generalize Ps[k] = p at *
          have hT := fun W => spec_tok ⟨p.toArray⟩ W (by unfold maxLen; rw [size_len]; simp only; omega)
          have hpl : (ByteArray.mk p.toArray).data.toList = p := by simp
          rw [hpl] at hT
          have HTk := Lib.hid htk
          clear htk hpl hgk
          cases htp : tokB p
          · rw [htp] at hT
            have hf : hostB (stripL t) = false := by
              rw [HH.out]
              have : Ps.all tokB = false := by
                rw [Bool.eq_false_iff]; intro h
                rw [List.all_eq_true] at h
                rw [h p hmem] at htp; cases htp
              rw [this, Bool.and_false]
            rw [hf] at hR
            have HF := Lib.hid hR
            clear hf htp hmem hR
            go_wp2_with fail
            refine (hT _).mono ?_
            rintro e w3 ⟨rfl, rfl⟩
            go_wp2
            go_ret2
            rw [HF.out]
            exact ⟨rfl, HBel.out⟩
          · rw [htp] at hT
            have hall' : (Ps.take (k + 1)).all tokB = true := by rw [HTk.out, List.all_append, hall]; simp [htp]
            have HA := Lib.hid hall'
            clear hall' htp hmem hall
            go_wp2_with fail
            refine (hT _).mono ?_
            rintro e w3 ⟨rfl, rfl⟩
            go_wp2
            go_roundw
            case rel => exact ⟨k + 1, by omega, by go_num, HA.out, trivial⟩
            case measure => simp [intOf]; omega
        · have hkn : k = Ps.length := by omega
          subst hkn
          rw [List.take_of_length_le (Nat.le_refl _)] at hall
          have hf : hostB (stripL t) = true := by
            rw [HH.out, hall, Bool.and_true, decide_eq_true_eq, ← HXl.out, ← size_len]; exact h20
          rw [hf, if_pos rfl, ← HX.out] at hR
          have HF := Lib.hid hR
          clear hf hR hall
          go_wp2
          go_ret2
          rw [HF.out]
          exact ⟨rfl, HBel.out⟩
    · exact absurd (by omega) h20
end Go.Proofs.YtbhnjnoblkfckabGreatDoor

-- from XHstI
/- Walks: hosts, by the program. -/
namespace Go.Proofs.YtbhnjnoblkfckabGreatDoor
open Go.RowKit

/-- Without ':80' at the end. -/
def trimP (l : List UInt8) : List UInt8 := Lib.trimSuffix l [58, 56, 48]
theorem trim_host (l : List UInt8) : hostR l = if hostB (trimP (lowL l)) = true then (⟨(trimP (lowL l)).toArray⟩, true) else (⟨#[]⟩, false) := by
  have key : ∀ t : List UInt8, (hostB (stripL t) = true → trimP t = stripL t) ∧ (hostB (stripL t) = false → hostB (trimP t) = false) := by
    intro t
    unfold trimP Lib.trimSuffix
    rw [← Lib.hasSuffix_of_drop]
    simp only [List.length_cons, List.length_nil, Nat.zero_add, Nat.reduceAdd]
    unfold stripL
    by_cases h3 : 3 < t.length
    · by_cases hd : t.drop (t.length - 3) = [58, 56, 48]
      · rw [if_pos ⟨h3, hd⟩, hd]
        have : (decide (3 ≤ t.length) && ([58, 56, 48] : List UInt8) == [58, 56, 48]) = true := by simp; omega
        rw [if_pos this]
        exact ⟨fun _ => rfl, fun h => h⟩
      · rw [if_neg (fun h => hd h.2)]
        have : (decide (3 ≤ t.length) && (t.drop (t.length - 3)) == [58, 56, 48]) = false := by
          rw [Bool.and_eq_false_iff]; right; simpa using hd
        rw [if_neg (by rw [this]; decide)]
        exact ⟨fun _ => rfl, fun h => h⟩
    · rw [if_neg (fun h => h3 h.1)]
      by_cases hs : (decide (3 ≤ t.length) && (t.drop (t.length - 3)) == [58, 56, 48]) = true
      · rw [if_pos hs]
        rw [Bool.and_eq_true, decide_eq_true_eq, beq_iff_eq] at hs
        have hl : t.length = 3 := by omega
        have ht : t = [58, 56, 48] := by
          have := hs.2
          rw [hl] at this
          simpa using this
        subst ht
        refine ⟨fun h => absurd h (by decide), fun _ => by decide⟩
      · rw [if_neg hs]
        exact ⟨fun _ => rfl, fun h => h⟩
  unfold hostR hostC
  obtain ⟨k1, k2⟩ := key (lowL l)
  cases hb : hostB (stripL (lowL l))
  · rw [k2 hb]; rfl
  · rw [k1 hb, hb]

set_option maxHeartbeats 1600000 in
theorem impl_host (s : ByteArray) (w : World) (hs : s.size ≤ 1048576) (hcls : Cls w) :
    Calls Tryz.prog 125 #[.string s] w fun e w' => e = .returned (.tuple #[.string (hostR s.data.toList).1, .bool (hostR s.data.toList).2]) ∧ Below w.heap.size w w' := by
  have hL := fun W hW => impl_lower s W (by unfold maxLen; omega) hW
  have hlen : (lowL s.data.toList).length = s.size := by rw [low_len, size_len]
  have hR := trim_host s.data.toList
  generalize lowL s.data.toList = t at *
  unfold strV at hL
  have hts : (ByteArray.mk t.toArray).size = s.size := by rw [size_len]; simpa using hlen
  have htl : (ByteArray.mk t.toArray).data.toList = t := by simp
  have hT := fun W => Tryz.strings_TrimSuffix ⟨t.toArray⟩ ⟨#[58, 56, 48]⟩ W (by rw [hts]; omega)
  rw [htl] at hT
  have hple : (trimP t).length ≤ s.size := by rw [← hlen]; exact Lib.trimSuffix_le _ _
  have hT' : ∀ W, Calls Tryz.prog 156 #[.string ⟨t.toArray⟩, .string ⟨#[58, 56, 48]⟩] W fun e w' => e = .returned (.string ⟨(trimP t).toArray⟩) ∧ w' = W := hT
  clear hT htl
  generalize trimP t = p at *
  have hXl : (ByteArray.mk p.toArray).data.toList = p := by simp
  have hXs : (ByteArray.mk p.toArray).size = p.length := by rw [size_len]
  generalize hX : (ByteArray.mk p.toArray) = X at *
  have hPar := fun W => impl_parts X 46 W (by omega)
  rw [hXl] at hPar
  have HXl := Lib.hid hXl; clear hXl hX
  have HR := Lib.hid hR; clear hR
  generalize (ByteArray.mk t.toArray) = T at *
  go_enter Tryz.func125, Tryz.ntmps125
  go_wp2_with fail
  refine (hL _ hcls).mono ?_
  rintro e w1 ⟨rfl, hb1⟩
  go_wp2_with fail
  refine (hT' _).mono ?_
  rintro e w2 ⟨rfl, rfl⟩
  clear hT' hL
  by_cases h20 : X.size ≤ 20
  · go_wp2_with fail
    refine (hPar _).mono ?_
    rintro e w2 ⟨v, rfl, ho, hb2⟩
    have hne := partsL_ne p 46
    have hpos : 0 < (partsL p 46).length := by
      cases hp : partsL p 46 with
      | nil => exact absurd hp hne
      | cons => simp
    obtain ⟨g, cap, rfl⟩ := own_form ho hpos
    have hplen := partsL_len p 46
    have hcell : ∀ j x, (partsL p 46)[j]? = some x → w2.cell? ⟨g, j, none⟩ = some (.string ⟨x.toArray⟩) := fun j x hj => own_cell ho (by rw [List.getElem?_map, hj]; rfl)
    have hgl := (ho.lt g rfl).2
    have hplB : ∀ x ∈ partsL p 46, x.length ≤ p.length := fun x hp => parts_le hp
    have HCell := Lib.hid hcell; have HPl := Lib.hid hplB
    have hbel := hb1.trans (hb2.mono hb1.size)
    have HBel := Lib.hid hbel
    have hhb : hostB p = (decide (p.length ≤ 20) && (partsL p 46).all tokB) := rfl
    have HH := Lib.hid hhb
    have hcls2 := (hcls.below hb1 (Nat.le_refl _)).below hb2 (Nat.le_refl _)
    clear ho hcell hplB hne hb1 hb2 hbel hhb hPar hcls
    generalize hPs : partsL p 46 = Ps at *
    have HPs := Lib.hid hPs
    clear hPs
    go_wp2_with fail
    go_loopw [16] (fun i wr => ∃ k : Nat, k ≤ Ps.length ∧ i = .int .i64 k ∧ (Ps.take k).all tokB = true ∧ wr = w2) (fun i _ => Ps.length - (intOf i).toNat)
    case atStart => exact ⟨0, Nat.zero_le _, rfl, by simp, rfl⟩
    case round =>
      obtain ⟨k, hk, rfl, hall, rfl⟩ := hrel
      by_cases hlt : k < Ps.length
      · have hgk : Ps[k]? = some Ps[k] := List.getElem?_eq_getElem hlt
        have c0 := HCell.out k _ hgk
        have hpk := HPl.out Ps[k] (List.getElem_mem hlt)
        have htk : Ps.take (k + 1) = Ps.take k ++ [Ps[k]] := by rw [List.take_add_one, hgk]; rfl
        have hmem : Ps[k] ∈ Ps := List.getElem_mem hlt
        generalize Ps[k] = q at *
        have hT := fun W hW => impl_tok ⟨q.toArray⟩ W (by unfold maxLen; rw [size_len]; simp only; omega) hW
        have hpl : (ByteArray.mk q.toArray).data.toList = q := by simp
        rw [hpl] at hT
        have HTk := Lib.hid htk
        clear htk hpl hgk
        cases htp : tokB q
        · rw [htp] at hT
          have hf : hostB p = false := by
            rw [HH.out]
            have : Ps.all tokB = false := by
              rw [Bool.eq_false_iff]; intro h
              rw [List.all_eq_true] at h
              rw [h q hmem] at htp; cases htp
            rw [this, Bool.and_false]
          have hr := HR.out
          rw [hf] at hr
          have HF := Lib.hid hr
          clear hf htp hmem hr
          go_wp2_with fail
          refine (hT _ hcls2).mono ?_
          rintro e w3 ⟨rfl, rfl⟩
          go_wp2
          go_ret2
          rw [HF.out]
          exact ⟨rfl, HBel.out⟩
        · rw [htp] at hT
          have hall' : (Ps.take (k + 1)).all tokB = true := by rw [HTk.out, List.all_append, hall]; simp [htp]
          have HA := Lib.hid hall'
          clear hall' htp hmem hall
          go_wp2_with fail
          refine (hT _ hcls2).mono ?_
          rintro e w3 ⟨rfl, rfl⟩
          go_wp2
          go_roundw
          case rel => exact ⟨k + 1, by omega, by go_num, HA.out, trivial⟩
          case measure => simp [intOf]; omega
      · have hkn : k = Ps.length := by omega
        subst hkn
        rw [List.take_of_length_le (Nat.le_refl _)] at hall
        have hf : hostB p = true := by
          rw [HH.out, hall, Bool.and_true, decide_eq_true_eq, ← hXs]; exact h20
        have hr := HR.out
        rw [hf, if_pos rfl] at hr
        have HF := Lib.hid hr
        clear hf hr hall
        go_wp2
        go_ret2
        rw [HF.out]
        exact ⟨rfl, HBel.out⟩
  · have hf : hostB p = false := by unfold hostB; rw [decide_eq_false (by rw [← hXs]; exact h20), Bool.false_and]
    have hr := HR.out
    rw [hf] at hr
    have HF := Lib.hid hr
    have HB := Lib.hid hb1
    clear hf hr hb1
    go_wp2
    go_ret2
    rw [HF.out]
    exact ⟨rfl, HB.out⟩
end Go.Proofs.YtbhnjnoblkfckabGreatDoor

