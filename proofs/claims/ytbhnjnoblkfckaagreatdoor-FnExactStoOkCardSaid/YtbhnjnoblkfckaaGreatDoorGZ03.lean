import Derived.Test.YtbhnjnoblkfckaaGreatDoorGZ02
import Derived.Test.YtbhnjnoblkfckaaGreatDoorGZ00
import Derived.Test.YtbhnjnoblkfckaaGreatDoorShelf
import Derived.Lib.SmallJoins
import Derived.Lib.AtoiErrMem
import Derived.Lib.AtoiAll
import Derived.Lib.ItoaNum
import Derived.Test.YtbhnjnoblkfckaaGreatDoorGZ01
-- from XVals
/- Fields: the values of a name, by the program and by the specification. -/
namespace Go.Proofs.YtbhnjnoblkfckaaGreatDoor
open Go.RowKit Go.Maps

theorem Tryz.infoStr : (Tryz.prog.info? 9).map (fun i => (i.zero, i.size, i.bytes)) = some (some (.string ⟨#[]⟩), 1, 16) := by kernel_rfl

set_option maxHeartbeats 400000 in
theorem fresh_v (s : ByteArray) (w : World) (hs : s.size ≤ 281474976710656) :
    Calls Tryz.prog 106 #[.string s] w fun e w' => e = .returned (.string s) ∧ Below w.heap.size w w' := by
  go_enter Tryz.func106, Tryz.ntmps106
  go_wp2_with (first | (go_at_call 136; refine (Tryz.stringslite_Clone _ _ hs).mono ?_; rintro e w' ⟨rfl, hb⟩) | go_in)
  go_ret
  exact ⟨rfl, hb⟩

def sV (s : ByteArray) : Value := .string s

theorem own_low {w : World} {B B' : Nat} {e : TypeId} {size : Nat} {v : Value} {n : Nat} {xs : List Value} (h : w.ownsRow B e size v n xs) (hB : B' ≤ B) : w.ownsRow B' e size v n xs := by
  refine ⟨h.1, ?_⟩
  rcases h.2 with h | ⟨g, cap, cur, h, hb, rest⟩
  · exact .inl h
  · exact .inr ⟨g, cap, cur, h, Nat.le_trans hB hb, rest⟩

theorem str_ne {a b : ByteArray} (h : a ≠ b) : (a.toList == b.toList) = false := by
  rw [Lib.toList_data, Lib.toList_data]
  simpa using fun e => h (str_inj e)
theorem str_same (a : ByteArray) : (a.toList == a.toList) = true := by simp

theorem valAt_of {fs : List Fd} {j : Nat} {f : Fd} (h : fs[j]? = some f) : valAt fs (j : Int) = f.2 := by simp [valAt, h]

end Go.Proofs.YtbhnjnoblkfckaaGreatDoor

-- from XFOne
/- Fields: the only value of a name. -/
namespace Go.Proofs.YtbhnjnoblkfckaaGreatDoor
open Go.RowKit Go.Maps

def oneOf : List ByteArray → ByteArray × Bool
  | [x] => (x, true)
  | _ => (⟨#[]⟩, false)
theorem oneOf_one {l : List ByteArray} (h : l.length = 1) : ∃ x, l = [x] ∧ oneOf l = (x, true) := by
  match l, h with
  | [x], _ => exact ⟨x, rfl, rfl⟩
theorem oneOf_not {l : List ByteArray} (h : l.length ≠ 1) : oneOf l = (⟨#[]⟩, false) := by
  match l with
  | [] => rfl
  | [x] => simp at h
  | _ :: _ :: _ => rfl

theorem own_len {w : World} {B : Nat} {e : TypeId} {v : Value} {n : Nat} {xs : List Value} (h : w.ownsRow B e 1 v n xs) : ∃ a c, v = .slice a n c := by
  rcases h.2 with ⟨h, h0⟩ | ⟨g, cap, cur, h, _⟩
  · exact ⟨none, 0, by rw [h, h0]⟩
  · exact ⟨_, _, h⟩

theorem all_len (fs : List Fd) (s : ByteArray) (k : Nat) : (allTo fs s k).length ≤ k := by
  rw [← idx_vals, List.length_map]; exact idx_len fs s k

end Go.Proofs.YtbhnjnoblkfckaaGreatDoor

-- from XNum
/- Walks: numbers as texts. -/
namespace Go.Proofs.YtbhnjnoblkfckaaGreatDoor
open Go.RowKit

theorem dec_small {n : Nat} (h : n < 10) : Lib.decDigits n = [UInt8.ofNat (48 + n)] := by rw [Lib.decDigits, dif_pos h]
theorem dec_big {n : Nat} (h : ¬ n < 10) : Lib.decDigits n = Lib.decDigits (n / 10) ++ [UInt8.ofNat (48 + n % 10)] := by rw [Lib.decDigits, dif_neg h]

def isDig (c : UInt8) : Bool := 48 ≤ c.toNat && c.toNat ≤ 57
def valF (acc : Nat) (l : List UInt8) : Nat := l.foldl (fun a c => a * 10 + (c.toNat - 48)) acc

theorem dig_toNat (d : Nat) (h : d < 10) : (UInt8.ofNat (48 + d)).toNat = 48 + d := by simp; omega

/-- Strong induction on numbers, by tens. -/
theorem tens (P : Nat → Prop) (h0 : ∀ n, n < 10 → P n) (h1 : ∀ n, ¬ n < 10 → P (n / 10) → P n) : ∀ n, P n := by
  intro n
  induction n using Nat.strongRecOn with
  | _ n ih =>
    by_cases h : n < 10
    · exact h0 n h
    · exact h1 n h (ih _ (by omega))

theorem dec_digs : ∀ n, (Lib.decDigits n).all isDig = true := by
  refine tens _ ?_ ?_
  · intro n h
    rw [dec_small h]
    have := dig_toNat n h
    simp only [List.all_cons, List.all_nil, isDig, Bool.and_true, this]
    simp; omega
  · intro n h ih
    rw [dec_big h, List.all_append, ih]
    have := dig_toNat (n % 10) (by omega)
    simp only [List.all_cons, List.all_nil, isDig, Bool.and_true, Bool.true_and, this]
    simp; omega

theorem dec_val : ∀ n, valF 0 (Lib.decDigits n) = n := by
  refine tens _ ?_ ?_
  · intro n h
    rw [dec_small h]
    have := dig_toNat n h
    simp only [valF, List.foldl_cons, List.foldl_nil, this]; omega
  · intro n h ih
    rw [dec_big h]
    have := dig_toNat (n % 10) (by omega)
    unfold valF at ih ⊢
    rw [List.foldl_append, ih]
    simp only [List.foldl_cons, List.foldl_nil, this]; omega

theorem dec_len_le : ∀ (k n : Nat), n < 10 ^ (k + 1) → (Lib.decDigits n).length ≤ k + 1 := by
  intro k
  induction k with
  | zero => intro n h; rw [dec_small (by simpa using h)]; simp
  | succ k ih =>
    intro n h
    by_cases h1 : n < 10
    · rw [dec_small h1]; simp
    · rw [dec_big h1, List.length_append]
      have := ih (n / 10) (by rw [Nat.pow_succ] at h; omega)
      simp; omega
theorem dec_ne : ∀ n, Lib.decDigits n ≠ [] := by
  refine tens _ ?_ ?_
  · intro n h; rw [dec_small h]; simp
  · intro n h _; rw [dec_big h]; simp

theorem valF_mono (l : List UInt8) : ∀ acc, acc ≤ valF acc l := by
  induction l with
  | nil => intro acc; exact Nat.le_refl _
  | cons c l ih =>
    intro acc
    have := ih (acc * 10 + (c.toNat - 48))
    have e : valF acc (c :: l) = valF (acc * 10 + (c.toNat - 48)) l := rfl
    rw [e]; omega
theorem parse_val (l : List UInt8) : ∀ acc, l.all isDig = true → valF acc l < 1000000000000000000 → Lib.parseUint10 acc l = .ok (valF acc l) := by
  induction l with
  | nil => intro acc _ _; rfl
  | cons c l ih =>
    intro acc hd hv
    simp only [List.all_cons, Bool.and_eq_true] at hd
    have e : valF acc (c :: l) = valF (acc * 10 + (c.toNat - 48)) l := rfl
    rw [e] at hv ⊢
    have hm := valF_mono l (acc * 10 + (c.toNat - 48))
    have hc : 48 ≤ c.toNat ∧ c.toNat ≤ 57 := by have := hd.1; unfold isDig at this; simpa using this
    unfold Lib.parseUint10
    rw [if_pos hc, if_neg (by omega), if_neg (by omega)]
    exact ih _ hd.2 hv

theorem atoi_dec (n : Nat) (h : n ≤ 999999) : Lib.atoiAll (Lib.decDigits n) = .ok (n : Int) := by
  have hne := dec_ne n
  have hd := dec_digs n
  have hv := dec_val n
  have hp := parse_val (Lib.decDigits n) 0 hd (by rw [hv]; omega)
  rw [hv] at hp
  cases hl : Lib.decDigits n with
  | nil => exact absurd hl hne
  | cons c r =>
    rw [hl] at hd hp
    simp only [List.all_cons, Bool.and_eq_true] at hd
    have hc : 48 ≤ c.toNat ∧ c.toNat ≤ 57 := by have := hd.1; unfold isDig at this; simpa using this
    unfold Lib.atoiAll
    simp only [if_neg (show ¬ (c.toNat = 43 ∨ c.toNat = 45) from by omega)]
    unfold Lib.parseMag
    rw [if_neg (by simp), hp]
    simp only [if_neg (show ¬ (¬ c.toNat = 45 ∧ 9223372036854775808 ≤ n) from by omega), if_neg (show ¬ (c.toNat = 45 ∧ 9223372036854775808 < n) from by omega), if_neg (show ¬ c.toNat = 45 from by omega)]

/-- What a number's text is read as. -/
def numT (n : Int) : List UInt8 := if 0 ≤ n ∧ n ≤ 999999 then Lib.decDigits n.toNat else []
def numR (l : List UInt8) : Nat × Bool :=
  if 1 ≤ l.length ∧ l.length ≤ 6 ∧ l.all isDig = true ∧ Lib.decDigits (valF 0 l) = l then (valF 0 l, true) else (0, false)

theorem numR_dec (n : Nat) (h : n ≤ 999999) : numR (Lib.decDigits n) = (n, true) := by
  unfold numR
  rw [if_pos ⟨List.length_pos_iff.2 (dec_ne n), dec_len_le 5 n (by omega), dec_digs n, by rw [dec_val]⟩, dec_val]
theorem valF_lt (l : List UInt8) : ∀ acc, l.all isDig = true → valF acc l < (acc + 1) * 10 ^ l.length := by
  induction l with
  | nil => intro acc _; simp [valF]
  | cons c l ih =>
    intro acc hd
    simp only [List.all_cons, Bool.and_eq_true] at hd
    have hc : 48 ≤ c.toNat ∧ c.toNat ≤ 57 := by have := hd.1; unfold isDig at this; simpa using this
    have e : valF acc (c :: l) = valF (acc * 10 + (c.toNat - 48)) l := rfl
    rw [e]
    refine Nat.lt_of_lt_of_le (ih _ hd.2) ?_
    rw [List.length_cons, Nat.pow_succ]
    have : acc * 10 + (c.toNat - 48) + 1 ≤ (acc + 1) * 10 := by omega
    calc (acc * 10 + (c.toNat - 48) + 1) * 10 ^ l.length ≤ (acc + 1) * 10 * 10 ^ l.length := Nat.mul_le_mul_right _ this
      _ = (acc + 1) * (10 ^ l.length * 10) := by rw [Nat.mul_assoc, Nat.mul_comm 10]
theorem numR_yes {l : List UInt8} (h : (numR l).2 = true) : (numR l).1 ≤ 999999 ∧ Lib.decDigits (numR l).1 = l := by
  unfold numR at h ⊢
  by_cases hc : 1 ≤ l.length ∧ l.length ≤ 6 ∧ l.all isDig = true ∧ Lib.decDigits (valF 0 l) = l
  · rw [if_pos hc]
    refine ⟨?_, hc.2.2.2⟩
    have := valF_lt l 0 hc.2.2.1
    have hp : 10 ^ l.length ≤ 10 ^ 6 := Nat.pow_le_pow_right (by omega) hc.2.1
    simp only [Nat.zero_add, Nat.one_mul] at this
    show valF 0 l ≤ 999999
    omega
  · rw [if_neg hc] at h; cases h

theorem below_grow {w : World} (os : Array Obj) : Below w.heap.size w (Go.Sort.grow w os) :=
  ⟨rfl, rfl, rfl, by simp [Go.Sort.grow], fun k hk => by simp only [Go.Sort.grow]; rw [Array.getElem?_append_left hk]⟩

/-- What the number functions read. -/
def Tab (w : World) : Prop := Lib.TabIs Tryz.prog w "internal/strconv.uint64pow10" .u64 Lib.pow10Tab
set_option maxHeartbeats 400000 in
theorem num_ok (n : Int) (w : World) :
    Calls Tryz.prog 77 #[.int .i64 n] w fun e w' => e = .returned (.bool (decide (0 ≤ n ∧ n ≤ 999999))) ∧ w = w' := by
  by_cases h0 : 0 ≤ n
  · by_cases h1 : n ≤ 999999
    · rw [decide_eq_true ⟨h0, h1⟩]
      go_enter Tryz.func77, Tryz.ntmps77
      go_wp2
      go_ret
      exact ⟨rfl, rfl⟩
    · rw [decide_eq_false (fun h => h1 h.2)]
      go_enter Tryz.func77, Tryz.ntmps77
      go_wp2
      go_ret
      exact ⟨rfl, rfl⟩
  · rw [decide_eq_false (fun h => h0 h.1)]
    go_enter Tryz.func77, Tryz.ntmps77
    go_wp2
    go_ret
    exact ⟨rfl, rfl⟩

set_option maxHeartbeats 400000 in
theorem l1_in (n lo hi : Int) (w : World) :
    Calls Tryz.prog 71 #[.int .i64 n, .int .i64 lo, .int .i64 hi] w fun e w' => e = .returned (.bool (decide (lo ≤ n) && decide (n ≤ hi))) ∧ w = w' := by
  by_cases h1 : lo ≤ n
  · by_cases h2 : n ≤ hi
    all_goals
      go_enter Tryz.func71, Tryz.ntmps71
      go_wp2
      go_ret
      exact ⟨by simp [h1, h2], rfl⟩
  · go_enter Tryz.func71, Tryz.ntmps71
    go_wp2
    go_ret
    exact ⟨by simp; omega, rfl⟩

theorem dig_bytes (c : UInt8) : isDig c = (decide (48 ≤ c.toNat) && decide (c.toNat ≤ 57)) := rfl
theorem valF_succ {s : ByteArray} {k : Nat} (hk : k < s.size) : valF 0 (s.data.toList.take (k + 1)) = valF 0 (s.data.toList.take k) * 10 + (s[k].toNat - 48) := by
  rw [take_succ_at (at_get s k hk)]
  unfold valF
  rw [List.foldl_append]; rfl

end Go.Proofs.YtbhnjnoblkfckaaGreatDoor

-- from XBod
/- Walks: which bodies are valid. -/
namespace Go.Proofs.YtbhnjnoblkfckaaGreatDoor
open Go.RowKit

def bodyB (l : List UInt8) : Bool := decide (l.length ≤ 20) && printB l
set_option maxHeartbeats 800000 in
theorem l4_body (s : ByteArray) (w : World) (hs : s.size ≤ maxLen) :
    Calls Tryz.prog 92 #[.string s] w fun e w' => e = .returned (.bool (bodyB s.data.toList)) ∧ w = w' := by
  unfold maxLen at hs
  by_cases h1 : s.size ≤ 20
  · have hbase : bodyB s.data.toList = printB s.data.toList := by simp [bodyB, h1]
    have HB := Lib.hid hbase; clear hbase
    go_enter Tryz.func92, Tryz.ntmps92
    go_wp2_with fail
    go_loop [3] (fun i => ∃ k : Nat, k ≤ s.size ∧ i = .int .i64 k ∧ (s.data.toList.take k).all printC = true) (fun i => s.size - (intOf i).toNat)
    case atStart => exact ⟨0, Nat.zero_le _, rfl, by simp⟩
    case round =>
      obtain ⟨k, hk, rfl, hall⟩ := hrel
      by_cases hlt : k < s.size
      · by_cases hp : printC s[k] = true
        · have hstep := all_take_succ hlt hall hp
          simp only [printC, Bool.and_eq_true, decide_eq_true_eq] at hp
          obtain ⟨p1, p2⟩ := hp
          have HS := Lib.hid hstep
          clear hstep hall
          go_wp2
          go_round
          case rel => exact ⟨k + 1, by omega, by go_num, HS.out⟩
          case measure => simp [intOf]; omega
        · have hf : printB s.data.toList = false := all_false_at hlt (by simpa using hp)
          have HF := Lib.hid (HB.out.trans hf)
          have hp' : s[k].toNat < 32 ∨ 126 < s[k].toNat := by
            simp only [printC, Bool.and_eq_true, decide_eq_true_eq] at hp; omega
          clear hf hp hall
          rcases hp' with hp' | hp'
          · go_wp2
            go_ret
            rw [HF.out]; exact ⟨rfl, rfl⟩
          · have hp2 : 32 ≤ s[k].toNat := by omega
            go_wp2
            go_ret
            rw [HF.out]; exact ⟨rfl, rfl⟩
      · go_wp2
        go_ret
        have hf : printB s.data.toList = true := all_of_take (by omega) hall
        rw [HB.out, hf]; exact ⟨rfl, rfl⟩
  · have hf : bodyB s.data.toList = false := by simp [bodyB, h1]
    have HF := Lib.hid hf; clear hf
    go_enter Tryz.func92, Tryz.ntmps92
    go_wp2
    go_ret
    rw [HF.out]; exact ⟨rfl, rfl⟩

set_option maxHeartbeats 800000 in
theorem impl_bodyok (s : ByteArray) (m : Nat) (w : World) (hs : s.size ≤ maxLen) :
    Calls Tryz.prog 125 #[.string s, .int .i64 (m : Nat)] w fun e w' => e = .returned (.bool (decide (s.data.toList.length ≤ m) && printB s.data.toList)) ∧ w = w' := by
  have hP := fun W => printable s W hs
  rw [← size_len]
  unfold maxLen at hs
  generalize printB s.data.toList = pb at *
  by_cases hm : s.size ≤ m
  · have i1 : (s.size : Int) ≤ m := by omega
    rw [decide_eq_true hm, Bool.true_and]
    go_enter Tryz.func125, Tryz.ntmps125
    go_wp2_with fail
    refine (hP _).mono ?_
    rintro e w1 ⟨rfl, rfl⟩
    go_wp2
    go_ret
    exact ⟨rfl, rfl⟩
  · have i1 : ¬ (s.size : Int) ≤ m := by omega
    rw [decide_eq_false hm, Bool.false_and]
    go_enter Tryz.func125, Tryz.ntmps125
    go_wp2
    go_ret
    exact ⟨rfl, rfl⟩
end Go.Proofs.YtbhnjnoblkfckaaGreatDoor

-- from XHedD
/- Requests: what they are, their texts, and what is read of a text, as plain functions. -/
namespace Go.Proofs.YtbhnjnoblkfckaaGreatDoor

/-- A request. -/
structure Hd where
  verb : ByteArray
  target : ByteArray
  host : ByteArray
  fs : List (ByteArray × ByteArray)
  body : ByteArray

def bGet : List UInt8 := [103, 101, 116]
def bPut : List UInt8 := [112, 117, 116]
def bPurge : List UInt8 := [112, 117, 114, 103, 101]
def bHost : List UInt8 := [104, 111, 115, 116]
def bLength : List UInt8 := [108, 101, 110, 103, 116, 104]
def bTransfer : List UInt8 := [116, 114, 97, 110, 115, 102, 101, 114]
def bHttp : List UInt8 := [104, 116, 116, 112, 58, 47, 47]

def verbB (l : List UInt8) : Bool := l == bGet || l == bPut || l == bPurge
def ownB (l : List UInt8) : Bool := l == bHost || l == bLength || l == bTransfer
/-- Lines, each with its end. -/
def joinL (ls : List (List UInt8)) : List UInt8 := ls.flatMap (· ++ [10])
def lenLines (b : List UInt8) : List (List UInt8) := if b = [] then [] else [bLength ++ 58 :: 32 :: Lib.decDigits b.length]
def hedLines (h : Hd) : List (List UInt8) :=
  (h.verb.data.toList ++ 32 :: h.target.data.toList) :: (bHost ++ 58 :: 32 :: h.host.data.toList) :: ((h.fs.map fun f => (fdT f).data.toList) ++ lenLines h.body.data.toList)
/-- The text ahead of the body. -/
def headT (h : Hd) : List UInt8 := joinL (hedLines h) ++ [10]
def hedT (h : Hd) : List UInt8 := headT h ++ h.body.data.toList

def hedB (h : Hd) : Bool :=
  verbB h.verb.data.toList && decide (canonL h.target.data.toList = some h.target.data.toList) && hostB h.host.data.toList && decide (h.fs.length ≤ 6) && bodyB h.body.data.toList &&
  (decide (h.body.data.toList = []) || h.verb.data.toList == bPut) && (h.fs.all fun f => fdB f && !ownB f.1.data.toList) && decide ((headT h).length ≤ 300)

/-- The lines ahead of the first empty one, how many bytes they have with that, and whether there is one. -/
def linesL : Nat → List UInt8 → Nat → List (List UInt8) × Nat × Bool
  | 0, _, used => ([], used, false)
  | f + 1, rest, used =>
    if 300 < used then ([], used, false)
    else if (cutL rest 10).2.2 = false then ([], used + rest.length, false)
    else if (cutL rest 10).1 = [] then ([], used + 1, true)
    else ((cutL rest 10).1 :: (linesL f (cutL rest 10).2.1 (used + (cutL rest 10).1.length + 1)).1, (linesL f (cutL rest 10).2.1 (used + (cutL rest 10).1.length + 1)).2)

def targetL (l : List UInt8) : Option (List UInt8 × List UInt8) :=
  if bHttp.isPrefixOf l = true then
    (if (cutL (l.drop 7) 47).2.2 = true ∧ hostB (hostC (cutL (l.drop 7) 47).1) = true then (canonL (47 :: (cutL (l.drop 7) 47).2.1)).map fun p => (p, hostC (cutL (l.drop 7) 47).1) else none)
  else (canonL l).map fun p => (p, [])
/-- The verb, the place, and of whom, if the line says so. -/
def firstL (line : List UInt8) : Option (List UInt8 × List UInt8 × List UInt8) :=
  if (cutL line 32).2.2 = true ∧ verbB (cutL line 32).1 = true then (targetL (cutL line 32).2.1).map fun t => ((cutL line 32).1, t.1, t.2) else none
def fieldsL (ls : List (List UInt8)) : Option (List (ByteArray × ByteArray)) := if ls.length ≤ 8 ∧ ls.all rdB = true then some (ls.map rdF) else none
def othersL (fs : List (ByteArray × ByteArray)) : List (ByteArray × ByteArray) := fs.filter fun f => !ownB f.1.data.toList
def sizeL (verb : List UInt8) (fs : List (ByteArray × ByteArray)) : Option Nat :=
  if 0 < (allTo fs ⟨bTransfer.toArray⟩ fs.length).length then none
  else match allTo fs ⟨bLength.toArray⟩ fs.length with
    | [] => some 0
    | [x] => if (numR x.data.toList).2 = true ∧ (numR x.data.toList).1 ≤ 20 ∧ ((numR x.data.toList).1 = 0 ∨ verb = bPut) then some (numR x.data.toList).1 else none
    | _ => none
/-- A request of its lines, but for its body, and how long that is. -/
def wholeL (ls : List (List UInt8)) : Option (Hd × Nat) :=
  match ls with
  | [] => none
  | l :: ls => match firstL l, fieldsL ls with
    | some (verb, place, named), some fs => match oneOf (allTo fs ⟨bHost.toArray⟩ fs.length) with
      | (value, true) =>
        if hostB (hostC value.data.toList) = true ∧ (named = [] ∨ named = hostC value.data.toList) ∧ (othersL fs).length ≤ 6 then
          (sizeL verb fs).map fun n => (⟨⟨verb.toArray⟩, ⟨place.toArray⟩, ⟨(hostC value.data.toList).toArray⟩, othersL fs, ⟨#[]⟩⟩, n)
        else none
      | _ => none
    | _, _ => none
def noHd : Hd := ⟨⟨#[]⟩, ⟨#[]⟩, ⟨#[]⟩, [], ⟨#[]⟩⟩
/-- What is read of a text: the request, its bytes, and what it is. -/
def readL (s : List UInt8) : Hd × Nat × Nat :=
  if 300 < (linesL 302 s 0).2.1 then (noHd, 0, 3)
  else if (linesL 302 s 0).2.2 = false then (noHd, 0, 2)
  else match wholeL (linesL 302 s 0).1 with
    | none => (noHd, 0, 3)
    | some (h, n) =>
      if s.length < (linesL 302 s 0).2.1 + n then (noHd, 0, 2)
      else if hedB { h with body := ⟨((s.drop (linesL 302 s 0).2.1).take n).toArray⟩ } = true then ({ h with body := ⟨((s.drop (linesL 302 s 0).2.1).take n).toArray⟩ }, (linesL 302 s 0).2.1 + n, 1) else (noHd, 0, 3)

end Go.Proofs.YtbhnjnoblkfckaaGreatDoor

