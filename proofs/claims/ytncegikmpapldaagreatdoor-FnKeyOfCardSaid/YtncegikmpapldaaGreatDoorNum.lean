/- Walks: numbers as texts. -/
import Derived.Test.YtncegikmpapldaaGreatDoorTok
import Derived.Test.YtncegikmpapldaaGreatDoorShelf
import Derived.Lib.SmallJoins
import Derived.Lib.AtoiErrMem
import Derived.Lib.AtoiAll
namespace Go.Proofs.YtncegikmpapldaaGreatDoor
open Go.RowKit

theorem dec_small {n : Nat} (h : n < 10) : Lib.decDigits n = [UInt8.ofNat (48 + n)] := by rw [Lib.decDigits, dif_pos h]
theorem dec_big {n : Nat} (h : ¬ n < 10) : Lib.decDigits n = Lib.decDigits (n / 10) ++ [UInt8.ofNat (48 + n % 10)] := by rw [Lib.decDigits, dif_neg h]

def isDig (c : UInt8) : Bool := 48 ≤ c.toNat && c.toNat ≤ 57
def valF (acc : Nat) (l : List UInt8) : Nat := l.foldl (fun a c => a * 10 + (c.toNat - 48)) acc

theorem dig_toNat (d : Nat) (h : d < 10) : (UInt8.ofNat (48 + d)).toNat = 48 + d := by simp; omega

/-- Strong induction on numbers, by tens. -/
theorem tens (P : Nat → Prop) (h0 : ∀ n, n < 10 → P n) (h1 : ∀ n, ¬ n < 10 → P (n / 10) → P n) : ∀ n, P n := by
  intro n
  induction n using Nat.strongRecOn with
  | _ n ih =>
    by_cases h : n < 10
    · exact h0 n h
    · exact h1 n h (ih _ (by omega))

theorem dec_digs : ∀ n, (Lib.decDigits n).all isDig = true := by
  refine tens _ ?_ ?_
  · intro n h
    rw [dec_small h]
    have := dig_toNat n h
    simp only [List.all_cons, List.all_nil, isDig, Bool.and_true, this]
    simp; omega
  · intro n h ih
    rw [dec_big h, List.all_append, ih]
    have := dig_toNat (n % 10) (by omega)
    simp only [List.all_cons, List.all_nil, isDig, Bool.and_true, Bool.true_and, this]
    simp; omega

theorem dec_val : ∀ n, valF 0 (Lib.decDigits n) = n := by
  refine tens _ ?_ ?_
  · intro n h
    rw [dec_small h]
    have := dig_toNat n h
    simp only [valF, List.foldl_cons, List.foldl_nil, this]; omega
  · intro n h ih
    rw [dec_big h]
    have := dig_toNat (n % 10) (by omega)
    unfold valF at ih ⊢
    rw [List.foldl_append, ih]
    simp only [List.foldl_cons, List.foldl_nil, this]; omega

theorem dec_len_le : ∀ (k n : Nat), n < 10 ^ (k + 1) → (Lib.decDigits n).length ≤ k + 1 := by
  intro k
  induction k with
  | zero => intro n h; rw [dec_small (by simpa using h)]; simp
  | succ k ih =>
    intro n h
    by_cases h1 : n < 10
    · rw [dec_small h1]; simp
    · rw [dec_big h1, List.length_append]
      have := ih (n / 10) (by rw [Nat.pow_succ] at h; omega)
      simp; omega
theorem dec_ne : ∀ n, Lib.decDigits n ≠ [] := by
  refine tens _ ?_ ?_
  · intro n h; rw [dec_small h]; simp
  · intro n h _; rw [dec_big h]; simp

theorem valF_mono (l : List UInt8) : ∀ acc, acc ≤ valF acc l := by
  induction l with
  | nil => intro acc; exact Nat.le_refl _
  | cons c l ih =>
    intro acc
    have := ih (acc * 10 + (c.toNat - 48))
    have e : valF acc (c :: l) = valF (acc * 10 + (c.toNat - 48)) l := rfl
    rw [e]; omega
theorem parse_val (l : List UInt8) : ∀ acc, l.all isDig = true → valF acc l < 1000000000000000000 → Lib.parseUint10 acc l = .ok (valF acc l) := by
  induction l with
  | nil => intro acc _ _; rfl
  | cons c l ih =>
    intro acc hd hv
    simp only [List.all_cons, Bool.and_eq_true] at hd
    have e : valF acc (c :: l) = valF (acc * 10 + (c.toNat - 48)) l := rfl
    rw [e] at hv ⊢
    have hm := valF_mono l (acc * 10 + (c.toNat - 48))
    have hc : 48 ≤ c.toNat ∧ c.toNat ≤ 57 := by have := hd.1; unfold isDig at this; simpa using this
    unfold Lib.parseUint10
    rw [if_pos hc, if_neg (by omega), if_neg (by omega)]
    exact ih _ hd.2 hv

theorem atoi_dec (n : Nat) (h : n ≤ 999999) : Lib.atoiAll (Lib.decDigits n) = .ok (n : Int) := by
  have hne := dec_ne n
  have hd := dec_digs n
  have hv := dec_val n
  have hp := parse_val (Lib.decDigits n) 0 hd (by rw [hv]; omega)
  rw [hv] at hp
  cases hl : Lib.decDigits n with
  | nil => exact absurd hl hne
  | cons c r =>
    rw [hl] at hd hp
    simp only [List.all_cons, Bool.and_eq_true] at hd
    have hc : 48 ≤ c.toNat ∧ c.toNat ≤ 57 := by have := hd.1; unfold isDig at this; simpa using this
    unfold Lib.atoiAll
    simp only [if_neg (show ¬ (c.toNat = 43 ∨ c.toNat = 45) from by omega)]
    unfold Lib.parseMag
    rw [if_neg (by simp), hp]
    simp only [if_neg (show ¬ (¬ c.toNat = 45 ∧ 9223372036854775808 ≤ n) from by omega), if_neg (show ¬ (c.toNat = 45 ∧ 9223372036854775808 < n) from by omega), if_neg (show ¬ c.toNat = 45 from by omega)]

/-- What a number's text is read as. -/
def numT (n : Int) : List UInt8 := if 0 ≤ n ∧ n ≤ 999999 then Lib.decDigits n.toNat else []
def numR (l : List UInt8) : Nat × Bool :=
  if 1 ≤ l.length ∧ l.length ≤ 6 ∧ l.all isDig = true ∧ Lib.decDigits (valF 0 l) = l then (valF 0 l, true) else (0, false)

theorem numR_dec (n : Nat) (h : n ≤ 999999) : numR (Lib.decDigits n) = (n, true) := by
  unfold numR
  rw [if_pos ⟨List.length_pos_iff.2 (dec_ne n), dec_len_le 5 n (by omega), dec_digs n, by rw [dec_val]⟩, dec_val]
theorem valF_lt (l : List UInt8) : ∀ acc, l.all isDig = true → valF acc l < (acc + 1) * 10 ^ l.length := by
  induction l with
  | nil => intro acc _; simp [valF]
  | cons c l ih =>
    intro acc hd
    simp only [List.all_cons, Bool.and_eq_true] at hd
    have hc : 48 ≤ c.toNat ∧ c.toNat ≤ 57 := by have := hd.1; unfold isDig at this; simpa using this
    have e : valF acc (c :: l) = valF (acc * 10 + (c.toNat - 48)) l := rfl
    rw [e]
    refine Nat.lt_of_lt_of_le (ih _ hd.2) ?_
    rw [List.length_cons, Nat.pow_succ]
    have : acc * 10 + (c.toNat - 48) + 1 ≤ (acc + 1) * 10 := by omega
    calc (acc * 10 + (c.toNat - 48) + 1) * 10 ^ l.length ≤ (acc + 1) * 10 * 10 ^ l.length := Nat.mul_le_mul_right _ this
      _ = (acc + 1) * (10 ^ l.length * 10) := by rw [Nat.mul_assoc, Nat.mul_comm 10]
theorem numR_yes {l : List UInt8} (h : (numR l).2 = true) : (numR l).1 ≤ 999999 ∧ Lib.decDigits (numR l).1 = l := by
  unfold numR at h ⊢
  by_cases hc : 1 ≤ l.length ∧ l.length ≤ 6 ∧ l.all isDig = true ∧ Lib.decDigits (valF 0 l) = l
  · rw [if_pos hc]
    refine ⟨?_, hc.2.2.2⟩
    have := valF_lt l 0 hc.2.2.1
    have hp : 10 ^ l.length ≤ 10 ^ 6 := Nat.pow_le_pow_right (by omega) hc.2.1
    simp only [Nat.zero_add, Nat.one_mul] at this
    show valF 0 l ≤ 999999
    omega
  · rw [if_neg hc] at h; cases h

theorem below_grow {w : World} (os : Array Obj) : Below w.heap.size w (Go.Sort.grow w os) :=
  ⟨rfl, rfl, rfl, by simp [Go.Sort.grow], fun k hk => by simp only [Go.Sort.grow]; rw [Array.getElem?_append_left hk]⟩

/-- What the number functions read. -/
def Tab (w : World) : Prop := Lib.TabIs Tryz.prog w "internal/strconv.uint64pow10" .u64 Lib.pow10Tab
theorem gTabN : Tryz.prog.globalNamed "internal/strconv.uint64pow10" = some 5 := by kernel_rfl
theorem Tab.below {w w' : World} {B : Nat} (h : Tab w) (hb : Below B w w') (hB : w.heap.size ≤ B) : Tab w' := Joins.tab_stays gTabN h hb hB

set_option maxHeartbeats 400000 in
theorem num_ok (n : Int) (w : World) :
    Calls Tryz.prog 85 #[.int .i64 n] w fun e w' => e = .returned (.bool (decide (0 ≤ n ∧ n ≤ 999999))) ∧ w = w' := by
  by_cases h0 : 0 ≤ n
  · by_cases h1 : n ≤ 999999
    · rw [decide_eq_true ⟨h0, h1⟩]
      go_enter Tryz.func85, Tryz.ntmps85
      go_wp2
      go_ret
      exact ⟨rfl, rfl⟩
    · rw [decide_eq_false (fun h => h1 h.2)]
      go_enter Tryz.func85, Tryz.ntmps85
      go_wp2
      go_ret
      exact ⟨rfl, rfl⟩
  · rw [decide_eq_false (fun h => h0 h.1)]
    go_enter Tryz.func85, Tryz.ntmps85
    go_wp2
    go_ret
    exact ⟨rfl, rfl⟩

set_option maxHeartbeats 400000 in
theorem impl_numtext (n : Int) (w : World) (h0 : -9223372036854775808 ≤ n) (h1 : n ≤ 9223372036854775807) (h : Tab w) :
    Calls Tryz.prog 40 #[.int .i64 n] w fun e w' => e = .returned (strV (numT n)) ∧ Below w.heap.size w w' := by
  by_cases hr : 0 ≤ n ∧ n ≤ 999999
  · have e : numT n = Lib.itoa n := by
      unfold numT Lib.itoa; rw [if_pos hr, if_neg (by omega)]
    rw [e]
    clear e
    have hN := num_ok n w
    rw [decide_eq_true hr] at hN
    obtain ⟨hr1, hr2⟩ := hr
    go_enter Tryz.func40, Tryz.ntmps40
    go_wp2_with fail
    refine hN.mono ?_
    rintro e w0 ⟨rfl, rfl⟩
    go_wp2_with fail
    refine (Tryz.strconv_Itoa n h0 h1 _ h).mono ?_
    rintro e w1 ⟨rfl, k, os, rfl⟩
    go_wp2
    go_ret
    exact ⟨rfl, below_drewN_left (n := k) (below_grow (w := w.drewN k) os)⟩
  · have e : numT n = [] := by unfold numT; rw [if_neg hr]
    rw [e]
    clear e h
    have hN := num_ok n w
    rw [decide_eq_false hr] at hN
    clear hr
    go_enter Tryz.func40, Tryz.ntmps40
    go_wp2_with fail
    refine hN.mono ?_
    rintro e w0 ⟨rfl, rfl⟩
    go_wp2
    go_ret
    exact ⟨rfl, Below.refl _ _⟩

set_option maxHeartbeats 400000 in
theorem plain_any (n : Nat) (w : World) (hn : n < 100000000) :
    Calls Tryz.prog 84 #[.int .i64 n] w fun e w' => e = .returned (strV (Lib.decDigits n)) ∧ Below w.heap.size w w' := by
  go_enter Tryz.func84, Tryz.ntmps84
  go_wp2_with fail
  go_loopw [0, 3] (fun x out wr => ∃ f j acc, x = .int .i64 (j : Nat) ∧ out = .string ⟨(acc : List UInt8).toArray⟩ ∧ j < 10 ^ f ∧ f ≤ 8 ∧ acc.length + f ≤ 8 ∧ Lib.decDigits j ++ acc = Lib.decDigits n ∧ Below w.heap.size w wr) (fun x _ _ => (intOf x).toNat)
  case atStart => exact ⟨8, n, [], rfl, rfl, by omega, by omega, by simp, by simp, Below.refl _ _⟩
  case round =>
    obtain ⟨f, j, acc, rfl, rfl, hj, hf, hlen, hd, hb⟩ := hrel
    have HD := Lib.hid hd; clear hd
    have hj7 : j < 100000000 := Nat.lt_of_lt_of_le hj (Nat.le_trans (Nat.pow_le_pow_right (by omega) hf) (by decide))
    have hsz : (ByteArray.mk acc.toArray).size ≤ 8 := by rw [size_len]; simp; omega
    have hsl : acc.length ≤ 8 := by omega
    by_cases hz : 9 < j
    · have hcv := fun W => run_conv1 (P := Tryz.prog) 22 9 5 5 Tryz.underlying22 Tryz.underlying5 Tryz.underlying9 W (48 + (j : Int) % 10) (by omega) (by omega)
      have hx : UInt8.ofNat (48 + (j : Int) % 10).toNat = UInt8.ofNat (48 + j % 10) := by congr 1
      rw [hx] at hcv
      clear hx
      generalize hc : UInt8.ofNat (48 + j % 10) = c at hcv
      have HC := Lib.hid hc; clear hc
      go_wp2
      go_roundw
      case rel =>
        cases f with
        | zero => simp at hj; omega
        | succ f =>
          refine ⟨f, j / 10, c :: acc, by go_num, ?_, ?_, by omega, ?_, ?_, hb.alloc hb.size _⟩
          · exact congrArg Value.string (cat_mk [c] acc)
          · rw [Nat.pow_succ] at hj; omega
          · simp only [List.length_cons]; omega
          · rw [← HD.out, dec_big (n := j) (by omega), HC.out, List.append_assoc]; rfl
      case measure => simp [intOf]; omega
    · have hcv := fun W => run_conv1 (P := Tryz.prog) 22 9 5 5 Tryz.underlying22 Tryz.underlying5 Tryz.underlying9 W (48 + (j : Int)) (by omega) (by omega)
      have hx : UInt8.ofNat (48 + (j : Int)).toNat = UInt8.ofNat (48 + j) := by congr 1
      rw [hx] at hcv
      clear hx
      generalize hc : UInt8.ofNat (48 + j) = c at hcv
      have HC := Lib.hid hc; clear hc
      go_wp2
      go_ret
      refine ⟨?_, hb.alloc hb.size _⟩
      have e : Lib.decDigits n = c :: acc := by rw [← HD.out, dec_small (by omega), HC.out]; rfl
      rw [e]
      exact congrArg (fun s => Ending.returned (Value.string s)) (cat_mk [c] acc)

set_option maxHeartbeats 400000 in
theorem l1_in (n lo hi : Int) (w : World) :
    Calls Tryz.prog 47 #[.int .i64 n, .int .i64 lo, .int .i64 hi] w fun e w' => e = .returned (.bool (decide (lo ≤ n) && decide (n ≤ hi))) ∧ w = w' := by
  by_cases h1 : lo ≤ n
  · by_cases h2 : n ≤ hi
    all_goals
      go_enter Tryz.func47, Tryz.ntmps47
      go_wp2
      go_ret
      exact ⟨by simp [h1, h2], rfl⟩
  · go_enter Tryz.func47, Tryz.ntmps47
    go_wp2
    go_ret
    exact ⟨by simp; omega, rfl⟩

set_option maxHeartbeats 400000 in
theorem spec_numtext (n : Int) (w : World) :
    Calls Tryz.prog 41 #[.int .i64 n] w fun e w' => e = .returned (strV (numT n)) ∧ Below w.heap.size w w' := by
  by_cases hr : 0 ≤ n ∧ n ≤ 999999
  · obtain ⟨hr1, hr2⟩ := hr
    have e : numT n = Lib.decDigits n.toNat := by unfold numT; rw [if_pos ⟨hr1, hr2⟩]
    have hb : (decide ((0 : Int) ≤ n) && decide (n ≤ 999999)) = true := by simp [hr1, hr2]
    rw [e]
    clear e
    obtain ⟨k, rfl⟩ := Int.eq_ofNat_of_zero_le hr1
    rw [Int.toNat_natCast]
    have HB := Lib.hid hb; clear hb
    go_enter Tryz.func41, Tryz.ntmps41
    go_wp2_with fail
    refine (l1_in _ _ _ _).mono ?_
    rintro e w' ⟨rfl, rfl⟩
    rw [HB.out]
    go_wp2_with fail
    refine (plain_any k _ (by omega)).mono ?_
    rintro e w' ⟨rfl, hb⟩
    go_wp2
    go_ret
    exact ⟨rfl, hb⟩
  · have e : numT n = [] := by unfold numT; rw [if_neg hr]
    have hb : (decide ((0 : Int) ≤ n) && decide (n ≤ 999999)) = false := by
      by_cases h1 : 0 ≤ n
      · have : ¬ n ≤ 999999 := fun h2 => hr ⟨h1, h2⟩
        simp [this]
      · simp [h1]
    rw [e]
    clear e hr
    have HB := Lib.hid hb; clear hb
    go_enter Tryz.func41, Tryz.ntmps41
    go_wp2_with fail
    refine (l1_in _ _ _ _).mono ?_
    rintro e w' ⟨rfl, rfl⟩
    rw [HB.out]
    go_wp2
    go_ret
    exact ⟨rfl, Below.refl _ _⟩

theorem dig_bytes (c : UInt8) : isDig c = (decide (48 ≤ c.toNat) && decide (c.toNat ≤ 57)) := rfl
theorem valF_succ {s : ByteArray} {k : Nat} (hk : k < s.size) : valF 0 (s.data.toList.take (k + 1)) = valF 0 (s.data.toList.take k) * 10 + (s[k].toNat - 48) := by
  rw [take_succ_at (at_get s k hk)]
  unfold valF
  rw [List.foldl_append]; rfl

set_option maxHeartbeats 800000 in
theorem spec_numread (s : ByteArray) (w : World) (hs : s.size ≤ maxLen) :
    Calls Tryz.prog 39 #[.string s] w fun e w' => e = .returned (.tuple #[.int .i64 ((numR s.data.toList).1 : Int), .bool (numR s.data.toList).2]) ∧ Below w.heap.size w w' := by
  unfold maxLen at hs
  have hlen := size_len s
  by_cases hl : 1 ≤ s.size ∧ s.size ≤ 6
  · obtain ⟨hl1, hl2⟩ := hl
    have hz : ((s.size : Int) == 0) = false := beq_eq_false_iff_ne.2 (by omega)
    have HLEN := Lib.hid hlen; clear hlen
    go_enter Tryz.func39, Tryz.ntmps39
    go_wp2_with fail
    go_loopw [4, 5] (fun n i wr => ∃ k : Nat, k ≤ s.size ∧ i = .int .i64 k ∧ n = .int .i64 (valF 0 (s.data.toList.take k) : Nat) ∧ (s.data.toList.take k).all isDig = true ∧ wr = w) (fun _ i _ => s.size - (intOf i).toNat)
    case atStart => exact ⟨0, Nat.zero_le _, rfl, rfl, by simp, rfl⟩
    case round =>
      obtain ⟨k, hk, rfl, rfl, hall, rfl⟩ := hrel
      have hvlt := valF_lt (s.data.toList.take k) 0 hall
      have hpl : (s.data.toList.take k).length ≤ 6 := by rw [List.length_take]; omega
      have hpw : 10 ^ (s.data.toList.take k).length ≤ 10 ^ 6 := Nat.pow_le_pow_right (by omega) hpl
      have hv6 : valF 0 (s.data.toList.take k) < 1000000 := by omega
      clear hvlt hpl hpw
      by_cases hlt : k < s.size
      · have hsucc := valF_succ hlt
        have hdg := dig_bytes s[k]
        have hstep := fun h => all_take_succ (p := isDig) hlt hall h
        have hfalse := fun h => all_false_at (p := isDig) hlt h
        have hc8 := s[k].toNat_lt
        generalize valF 0 (s.data.toList.take k) = v at *
        have HS := Lib.hid hsucc; have HD := Lib.hid hdg; have HST := Lib.hid hstep; have HF := Lib.hid hfalse
        clear hsucc hdg hstep hfalse
        by_cases hd : 48 ≤ s[k].toNat ∧ s[k].toNat ≤ 57
        · obtain ⟨hd1, hd2⟩ := hd
          go_wp2
          go_roundw
          case rel =>
            refine ⟨k + 1, by omega, by go_num, ?_, HST.out (by rw [HD.out]; simp [hd1, hd2]), by trivial⟩
            rw [HS.out]; go_num
          case measure => simp [intOf]; omega
        · have hr : numR s.data.toList = (0, false) := by
            unfold numR
            rw [if_neg]
            rintro ⟨_, _, h3, _⟩
            rw [HF.out (by rw [HD.out]; simp; omega)] at h3; cases h3
          have HR := Lib.hid hr; clear hr
          have hd' : s[k].toNat < 48 ∨ (48 ≤ s[k].toNat ∧ 57 < s[k].toNat) := by omega
          rcases hd' with hd' | ⟨hd1, hd2⟩
          all_goals
            go_wp2
            go_ret2
            rw [HR.out]
            exact ⟨rfl, Below.refl _ _⟩
      · have hks : s.data.toList.length ≤ k := by rw [← HLEN.out]; omega
        rw [List.take_of_length_le hks] at hall hv6 ⊢
        have hnum : numR s.data.toList = if Lib.decDigits (valF 0 s.data.toList) = s.data.toList then (valF 0 s.data.toList, true) else (0, false) := by
          unfold numR
          by_cases h : Lib.decDigits (valF 0 s.data.toList) = s.data.toList
          · rw [if_pos h, if_pos ⟨by rw [← HLEN.out]; exact hl1, by rw [← HLEN.out]; exact hl2, hall, h⟩]
          · rw [if_neg h, if_neg (fun hh => h hh.2.2.2)]
        clear hall
        have HN := Lib.hid hnum; clear hnum
        generalize hvv : valF 0 s.data.toList = v at *
        clear hvv
        by_cases hq : Lib.decDigits v = s.data.toList
        · have hbs : (⟨(Lib.decDigits v).toArray⟩ : ByteArray) = s := by rw [hq]
          have HB := Lib.hid hbs; have HQ := Lib.hid hq; clear hbs hq
          go_wp2_with fail
          refine (plain_any v _ (by omega)).mono ?_
          rintro e w1 ⟨rfl, hb⟩
          simp only [strV]
          rw [HB.out]
          go_wp2
          go_ret2
          rw [HN.out, if_pos HQ.out]
          exact ⟨rfl, hb⟩
        · have hbs : (Lib.decDigits v == s.toList) = false := beq_eq_false_iff_ne.2 (by rw [Lib.toList_data]; exact hq)
          have HB := Lib.hid hq; clear hq
          go_wp2_with fail
          refine (plain_any v _ (by omega)).mono ?_
          rintro e w1 ⟨rfl, hb⟩
          go_wp2
          go_ret2
          rw [HN.out, if_neg HB.out]
          exact ⟨rfl, hb⟩
  · have hr : numR s.data.toList = (0, false) := by
      unfold numR
      rw [if_neg]
      rintro ⟨h1, h2, _⟩
      exact hl ⟨by omega, by omega⟩
    rw [hr]
    clear hr
    have hl' : s.size = 0 ∨ (1 ≤ s.size ∧ 6 < s.size) := by omega
    clear hlen
    rcases hl' with hl' | ⟨h1, h2⟩
    · have hz : ((s.size : Int) == 0) = true := by simp [hl']
      go_enter Tryz.func39, Tryz.ntmps39
      go_wp2
      go_ret2
      exact ⟨rfl, Below.refl _ _⟩
    · have hz : ((s.size : Int) == 0) = false := beq_eq_false_iff_ne.2 (by omega)
      go_enter Tryz.func39, Tryz.ntmps39
      go_wp2
      go_ret2
      exact ⟨rfl, Below.refl _ _⟩
end Go.Proofs.YtncegikmpapldaaGreatDoor
