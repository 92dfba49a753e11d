import Derived.Test.YtncegikmpapldaaGreatDoorPure
import Derived.Test.YtncegikmpapldaaGreatDoorNum
import Derived.Test.YtncegikmpapldaaGreatDoorParts
import Derived.Test.YtncegikmpapldaaGreatDoorLower
import Derived.Lib.TrimByte
import Derived.Test.YtncegikmpapldaaGreatDoorCutB
import Derived.Test.YtncegikmpapldaaGreatDoorNumR
import Derived.Test.YtncegikmpapldaaGreatDoorOwn
import Derived.Stop.LaidErr
import Derived.Lib.LaidTab
import Derived.Test.YtncegikmpapldaaGreatDoorGrp
import Derived.Test.YtncegikmpapldaaGreatDoorEq
import Derived.Laws.MakeOwn
import Derived.Test.YtncegikmpapldaaGreatDoorTrim
import Derived.Test.YtncegikmpapldaaGreatDoorCutI
import Derived.Test.YtncegikmpapldaaGreatDoorRegR
import Derived.Test.YtncegikmpapldaaGreatDoorGcan
import Derived.Test.YtncegikmpapldaaGreatDoorL6n
import Derived.Test.YtncegikmpapldaaGreatDoorFOne
-- from XMaskP
/- Sets of codings: plain functions; no program. -/
namespace Go.Proofs.YtncegikmpapldaaGreatDoor

abbrev Wt : Type := Int × Int
/-- What is told last for a coding. -/
def lastQ (ws : List Wt) (c : Int) (o : Int) : Int := ws.foldl (fun q w => if w.1 = c then w.2 else q) o
def qual (ws : List Wt) (c : Int) : Int := lastQ ws c (lastQ ws (-1) (if c = 0 then 1000 else 0))
def maskL (ws : List Wt) : Nat := (if 0 < qual ws 0 then 1 else 0) + (if 0 < qual ws 1 then 2 else 0) + (if 0 < qual ws 2 then 4 else 0)
def inB (m c : Int) : Bool := decide (0 ≤ m ∧ m < 8) && ((decide (c = 0) && decide (m % 2 = 1)) || (decide (c = 1) && decide (m / 2 % 2 = 1)) || (decide (c = 2) && decide (m / 4 % 2 = 1)))
theorem lastQ_snoc (ws : List Wt) (w : Wt) (c o : Int) : lastQ (ws ++ [w]) c o = if w.1 = c then w.2 else lastQ ws c o := by
  unfold lastQ; rw [List.foldl_append]; rfl
theorem lastQ_take {ws : List Wt} {k : Nat} {w : Wt} (h : ws[k]? = some w) (c o : Int) : lastQ (ws.take (k + 1)) c o = if w.1 = c then w.2 else lastQ (ws.take k) c o := by
  rw [show ws.take (k + 1) = ws.take k ++ [w] from by rw [List.take_add_one, h]; rfl, lastQ_snoc]
theorem maskL_lt (ws : List Wt) : maskL ws < 8 := by
  unfold maskL; split <;> split <;> split <;> omega
/-- The codings below k that would be taken. -/
def maskTo (ws : List Wt) (k : Nat) : Nat := (if 0 < k ∧ 0 < qual ws 0 then 1 else 0) + (if 1 < k ∧ 0 < qual ws 1 then 2 else 0) + (if 2 < k ∧ 0 < qual ws 2 then 4 else 0)
theorem maskTo_all (ws : List Wt) : maskTo ws 3 = maskL ws := by simp [maskTo, maskL]
theorem maskTo_zero (ws : List Wt) : maskTo ws 0 = 0 := by simp [maskTo]
theorem maskTo_step (ws : List Wt) (k : Nat) (hk : k < 3) : maskTo ws (k + 1) = maskTo ws k + if 0 < qual ws (k : Int) then 2 ^ k else 0 := by
  have h : k = 0 ∨ k = 1 ∨ k = 2 := by omega
  rcases h with rfl | rfl | rfl <;> simp [maskTo]
theorem maskTo_lt (ws : List Wt) (k : Nat) (_hk : k ≤ 3) : maskTo ws k < 2 ^ k := by
  have h : k = 0 ∨ k = 1 ∨ k = 2 ∨ k = 3 := by omega
  rcases h with rfl | rfl | rfl | rfl
  all_goals simp only [maskTo]
  all_goals simp
  all_goals (repeat' split)
  all_goals omega

end Go.Proofs.YtncegikmpapldaaGreatDoor

-- from XCodP
/- Codings: plain functions on lists of bytes; no program. -/
namespace Go.Proofs.YtncegikmpapldaaGreatDoor

/-- What a quality's four digits say. -/
def qVal (a : UInt8) (d : List UInt8) : Nat := valF 0 (a :: (d ++ List.replicate (3 - d.length) 48))
/-- A quality, in thousandths. -/
def codQ (l : List UInt8) : Nat × Bool :=
  if ((cutL l 46).1 = [48] ∨ (cutL l 46).1 = [49]) ∧ (cutL l 46).2.1.length ≤ 3 ∧ (cutL l 46).2.1.all isDig = true ∧ qVal ((cutL l 46).1.headD 0) (cutL l 46).2.1 ≤ 1000
  then (qVal ((cutL l 46).1.headD 0) (cutL l 46).2.1, true) else (0, false)

def nPlain : List UInt8 := [112, 108, 97, 105, 110]
def nGz : List UInt8 := [103, 122]
def nBr : List UInt8 := [98, 114]
/-- The coding of a name in small letters; -2 of none. -/
def codN (l : List UInt8) : Int := if l = [42] then -1 else if l = nPlain then 0 else if l = nGz then 1 else if l = nBr then 2 else -2
def nameOf (l : List UInt8) : List UInt8 := Lib.trimB (cutL l 59).1 32
def restOf (l : List UInt8) : List UInt8 := Lib.trimB (cutL l 59).2.1 32
/-- One thing that somebody would take. -/
def codOne (l : List UInt8) : Option Wt :=
  if codN (lowL (nameOf l)) = -2 then none
  else if (cutL l 59).2.2 = false then some (codN (lowL (nameOf l)), 1000)
  else if (restOf l).take 2 = [113, 61] ∧ (codQ ((restOf l).drop 2)).2 = true then some (codN (lowL (nameOf l)), ((codQ ((restOf l).drop 2)).1 : Int)) else none
def codAll : List (List UInt8) → Option (List Wt)
  | [] => some []
  | p :: ps => match codOne p, codAll ps with
    | some a, some b => some (a :: b)
    | _, _ => none
def codParse (l : List UInt8) : Option (List Wt) := if (partsL l 44).length ≤ 5 then codAll (partsL l 44) else none

def codT (m : Int) : List UInt8 :=
  if 0 ≤ m ∧ m < 8 then (if m % 2 = 1 then nPlain else nPlain ++ [59, 113, 61, 48]) ++ (if m / 2 % 2 = 1 then [44, 32, 103, 122] else []) ++ (if m / 4 % 2 = 1 then [44, 32, 98, 114] else []) else []

theorem codAll_snoc (ps : List (List UInt8)) (p : List UInt8) : codAll (ps ++ [p]) = match codAll ps, codOne p with | some a, some b => some (a ++ [b]) | _, _ => none := by
  induction ps with
  | nil => simp only [List.nil_append, codAll]; cases codOne p <;> rfl
  | cons q ps ih =>
    rw [List.cons_append, codAll, ih, codAll]
    cases codOne q <;> cases codAll ps <;> cases codOne p <;> rfl
theorem codAll_len {ps : List (List UInt8)} {ws : List Wt} (h : codAll ps = some ws) : ws.length = ps.length := by
  induction ps generalizing ws with
  | nil => cases h; rfl
  | cons p ps ih =>
    rw [codAll] at h
    cases h1 : codOne p <;> cases h2 : codAll ps <;> rw [h1, h2] at h <;> try (cases h)
    rename_i a b
    simp [ih h2]
/-- A list with a wrong part is wrong. -/
theorem codAll_bad {ps : List (List UInt8)} {k : Nat} {p : List UInt8} (hp : ps[k]? = some p) (h : codOne p = none) : codAll ps = none := by
  induction ps generalizing k with
  | nil => simp at hp
  | cons q ps ih =>
    rw [codAll]
    cases k with
    | zero =>
      have : q = p := by simpa using hp
      rw [this, h]
    | succ k =>
      rw [ih (by simpa using hp)]
      cases codOne q <;> rfl
/-- What four signs or fewer are read as: never too much. -/
theorem parse_small (l : List UInt8) : ∀ acc, (acc + 1) * 10 ^ l.length ≤ 100000000000000000 → Lib.parseUint10 acc l ≠ .range ∧ ∀ v, Lib.parseUint10 acc l = .ok v → l.all isDig = true ∧ v = valF acc l := by
  induction l with
  | nil =>
    intro acc _
    refine ⟨fun h => (by cases h), fun v h => ?_⟩
    injection h with h
    exact ⟨rfl, h.symm⟩
  | cons c l ih =>
    intro acc h
    rw [List.length_cons, Nat.pow_succ] at h
    have hp : 1 ≤ 10 ^ l.length := Nat.pow_pos (by omega)
    have h1 : (acc + 1) * 10 * 10 ^ l.length ≤ 100000000000000000 := by rw [Nat.mul_assoc, Nat.mul_comm 10]; exact h
    have h3 : (acc + 1) * 10 ≤ 100000000000000000 := Nat.le_trans (Nat.le_mul_of_pos_right _ hp) h1
    unfold Lib.parseUint10
    by_cases hc : 48 ≤ c.toNat ∧ c.toNat ≤ 57
    · rw [if_pos hc, if_neg (by omega), if_neg (by omega)]
      have h2 : (acc * 10 + (c.toNat - 48) + 1) * 10 ^ l.length ≤ 100000000000000000 := Nat.le_trans (Nat.mul_le_mul_right _ (by omega)) h1
      have := ih _ h2
      refine ⟨this.1, fun v hv => ?_⟩
      have h4 := this.2 v hv
      refine ⟨?_, h4.2⟩
      rw [List.all_cons, h4.1]
      simp [isDig, hc]
    · rw [if_neg hc]
      exact ⟨fun h => (by cases h), fun v h => (by cases h)⟩
theorem atoi_small {a : UInt8} {l : List UInt8} (ha : a = 48 ∨ a = 49) (hl : l.length ≤ 3) : Lib.atoiAll (a :: l) ≠ .range ∧ (∀ v, Lib.atoiAll (a :: l) = .ok v → l.all isDig = true ∧ v = (valF 0 (a :: l) : Int)) ∧ (l.all isDig = true → Lib.atoiAll (a :: l) = .ok (valF 0 (a :: l) : Int)) := by
  have h1 : ¬ (a.toNat = 43 ∨ a.toNat = 45) := by rcases ha with rfl | rfl <;> decide
  have h45 : ¬ a.toNat = 45 := fun h => h1 (.inr h)
  have h43 : ¬ a.toNat = 43 := fun h => h1 (.inl h)
  have hb : (0 + 1) * 10 ^ (a :: l).length ≤ 100000000000000000 := by
    have : 10 ^ (a :: l).length ≤ 10 ^ 4 := Nat.pow_le_pow_right (by omega) (by simp; omega)
    omega
  have hd : isDig a = true := by rcases ha with rfl | rfl <;> decide
  have hs := parse_small (a :: l) 0 hb
  have hlt : ∀ v, Lib.parseUint10 0 (a :: l) = .ok v → v < 100000 := fun v hv => by
    obtain ⟨h3, h4⟩ := hs.2 v hv
    have := valF_lt (a :: l) 0 h3
    have h5 : 10 ^ (a :: l).length ≤ 10 ^ 4 := Nat.pow_le_pow_right (by omega) (by simp; omega)
    omega
  have hok := fun (h : l.all isDig = true) => parse_val (a :: l) 0 (by rw [List.all_cons, hd, h]; rfl) (by
    have := valF_lt (a :: l) 0 (by rw [List.all_cons, hd, h]; rfl)
    have h5 : 10 ^ (a :: l).length ≤ 10 ^ 4 := Nat.pow_le_pow_right (by omega) (by simp; omega)
    omega)
  unfold Lib.atoiAll Lib.parseMag
  simp only [h43, h45, or_self, reduceCtorEq, not_false_eq_true, true_and, false_and, if_false]
  cases hq : Lib.parseUint10 0 (a :: l) with
  | ok v =>
    have := hlt v hq
    simp only
    rw [if_neg (by omega)]
    have h2 := hs.2 v hq
    refine ⟨fun h => (by cases h), fun v' h => ?_, fun _ => by rw [h2.2]⟩
    injection h with h
    have h3 := h2.1
    rw [List.all_cons, Bool.and_eq_true] at h3
    exact ⟨h3.2, by rw [← h, h2.2]⟩
  | range => exact absurd hq hs.1
  | _ =>
    refine ⟨fun h => (by cases h), fun v' h => (by cases h), fun h => ?_⟩
    have h3 := hok h
    rw [hq] at h3; cases h3
end Go.Proofs.YtncegikmpapldaaGreatDoor

-- from XCodQ
/- Walks: a quality. -/
namespace Go.Proofs.YtncegikmpapldaaGreatDoor
open Go.RowKit

theorem codQ_no {l : List UInt8} (h : ¬ (((cutL l 46).1 = [48] ∨ (cutL l 46).1 = [49]) ∧ (cutL l 46).2.1.length ≤ 3 ∧ (cutL l 46).2.1.all isDig = true ∧ qVal ((cutL l 46).1.headD 0) (cutL l 46).2.1 ≤ 1000)) : codQ l = (0, false) := by
  unfold codQ; rw [if_neg h]
theorem codQ_one (a : UInt8) (h : a = 48 ∨ a = 49) : codQ [a] = ((a.toNat - 48) * 1000, true) := by
  rcases h with rfl | rfl <;> decide
theorem cut_dot {a : UInt8} {d : List UInt8} (h : a = 48 ∨ a = 49) : cutL (a :: 46 :: d) 46 = ([a], d, true) := by
  rcases h with rfl | rfl <;> simp [cutL]
theorem codQ_dot {a : UInt8} {d : List UInt8} (h : a = 48 ∨ a = 49) : codQ (a :: 46 :: d) = if d.length ≤ 3 ∧ d.all isDig = true ∧ qVal a d ≤ 1000 then (qVal a d, true) else (0, false) := by
  unfold codQ
  rw [cut_dot h]
  have h1 : ([a] = [48] ∨ [a] = [49]) := by rcases h with rfl | rfl <;> simp
  simp only [h1, true_and, List.headD_cons]
theorem cut_head (a : UInt8) (l : List UInt8) (h : (cutL (a :: l) 46).1 = [48] ∨ (cutL (a :: l) 46).1 = [49]) : (a = 48 ∨ a = 49) ∧ (l = [] ∨ ∃ d, l = 46 :: d) := by
  unfold cutL at h
  split at h
  · rcases h with h | h <;> simp at h
  · simp only [List.cons.injEq] at h
    refine ⟨by rcases h with h | h; exact .inl h.1; exact .inr h.1, ?_⟩
    have h2 : (cutL l 46).1 = [] := by rcases h with h | h <;> exact h.2
    cases l with
    | nil => exact .inl rfl
    | cons b l =>
      right
      unfold cutL at h2
      split at h2
      · rename_i hb; exact ⟨l, by rw [hb]⟩
      · simp at h2
theorem codQ_bad {a : UInt8} {l : List UInt8} (h : ¬ ((a = 48 ∨ a = 49) ∧ (l = [] ∨ ∃ d, l = 46 :: d))) : codQ (a :: l) = (0, false) := codQ_no fun hc => h (cut_head a l hc.1)

/-- The places behind the point, as far as they are read. -/
def qTo (a : UInt8) (d : List UInt8) (j : Nat) : Nat := (a.toNat - 48) * 1000 + (if 0 < j then ((d.getD 0 0).toNat - 48) * 100 else 0) + (if 1 < j then ((d.getD 1 0).toNat - 48) * 10 else 0) + (if 2 < j then ((d.getD 2 0).toNat - 48) else 0)
def qW (j : Nat) : Nat := if j = 0 then 100 else if j = 1 then 10 else if j = 2 then 1 else 0
theorem qTo_step (a : UInt8) (d : List UInt8) (j : Nat) (hj : j < 3) : qTo a d (j + 1) = qTo a d j + ((d.getD j 0).toNat - 48) * qW j := by
  have h : j = 0 ∨ j = 1 ∨ j = 2 := by omega
  rcases h with rfl | rfl | rfl <;> simp [qTo, qW]
theorem qW_step (j : Nat) (hj : j < 3) : qW (j + 1) = qW j / 10 := by
  have h : j = 0 ∨ j = 1 ∨ j = 2 := by omega
  rcases h with rfl | rfl | rfl <;> simp [qW]
theorem qTo_all (a : UInt8) (d : List UInt8) (h : d.length ≤ 3) : qTo a d d.length = qVal a d := by
  match d, h with
  | [], _ => simp [qTo, qVal, valF]; omega
  | [x], _ => simp [qTo, qVal, valF]; omega
  | [x, y], _ => simp [qTo, qVal, valF]; omega
  | [x, y, z], _ => simp [qTo, qVal, valF]; omega
  | _ :: _ :: _ :: _ :: _, h => simp at h
theorem qTo_le (a : UInt8) (d : List UInt8) (j : Nat) : qTo a d j ≤ 1000000 := by
  have h0 := a.toNat_lt
  have h1 := (d.getD 0 0).toNat_lt
  have h2 := (d.getD 1 0).toNat_lt
  have h3 := (d.getD 2 0).toNat_lt
  unfold qTo
  split <;> split <;> split <;> omega

def QEnd (l : List UInt8) : Value := .tuple #[.int .i64 ((codQ l).1 : Int), .bool (codQ l).2]
theorem QEnd_no {l : List UInt8} (h : codQ l = (0, false)) : QEnd l = .tuple #[.int .i64 0, .bool false] := by unfold QEnd; rw [h]; rfl

theorem b8_eq {a b : UInt8} (h : a = b) : ((a.toNat : Int) == (b.toNat : Int)) = true := by subst h; simp
theorem b8_ne {a b : UInt8} (h : a ≠ b) : ¬ (a.toNat : Int) = (b.toNat : Int) := fun e => h (UInt8.toNat_inj.mp (by omega))

/-- What the loop over the places carries. -/
def QRel (a : UInt8) (d : List UInt8) (n wt i : Value) : Prop := ∃ j, j ≤ d.length ∧ i = .int .i64 ((j : Int) + 2) ∧ n = .int .i64 (qTo a d j : Int) ∧ wt = .int .i64 (qW j : Int) ∧ (d.take j).all isDig = true

set_option maxHeartbeats 3200000 in
theorem spec_codq (s : ByteArray) (w : World) (hs : s.size ≤ maxLen) :
    Calls Tryz.prog 168 #[.string s] w fun e w' => e = .returned (QEnd s.data.toList) ∧ ∃ n, w' = w.drewN n := by
  unfold maxLen at hs
  have hlen := size_len s
  by_cases h5 : 5 < s.size
  · have hq : codQ s.data.toList = (0, false) := codQ_no fun ⟨h1, h2, _⟩ => by
      generalize s.data.toList = l at h1 h2 hlen
      cases l with
      | nil => rw [List.length_nil] at hlen; omega
      | cons a l =>
        obtain ⟨ha, rfl | ⟨d, rfl⟩⟩ := cut_head a l h1
        · simp at hlen; omega
        · rw [cut_dot ha] at h2
          simp at hlen h2; omega
    rw [QEnd_no hq]
    have n0 : ((s.size : Int) == 0) = false := beq_eq_false_iff_ne.2 (by omega)
    have n1 : 5 < (s.size : Int) := by omega
    clear hq hlen
    go_enter Tryz.func168, Tryz.ntmps168
    go_wp2_with fail
    go_ret2
    exact ⟨rfl, 0, rfl⟩
  by_cases h0 : s.size = 0
  · have hq : codQ s.data.toList = (0, false) := by
      have : s.data.toList = [] := List.eq_nil_of_length_eq_zero (by omega)
      rw [this]; rfl
    rw [QEnd_no hq]
    have n0 : ((s.size : Int) == 0) = true := beq_iff_eq.2 (by omega)
    clear hq hlen
    go_enter Tryz.func168, Tryz.ntmps168
    go_wp2_with fail
    go_ret2
    exact ⟨rfl, 0, rfl⟩
  have hp0 : 0 < s.size := by omega
  have g0 := at_get s 0 hp0
  have n0 : ((s.size : Int) == 0) = false := beq_eq_false_iff_ne.2 (by omega)
  have n1 : ¬ 5 < (s.size : Int) := by omega
  by_cases ha : s[0] = 48 ∨ s[0] = 49
  case neg =>
    have hq : codQ s.data.toList = (0, false) := by
      generalize s.data.toList = l at g0
      cases l with
      | nil => simp at g0
      | cons a l =>
        have : a = s[0] := by simpa using g0
        subst this
        exact codQ_bad fun h => ha h.1
    rw [QEnd_no hq]
    have i1 : ((s[0].toNat : Int) != 48) = true := bne_iff_ne.2 (b8_ne (b := 48) fun e => ha (.inl e))
    have i2 : ((s[0].toNat : Int) != 49) = true := bne_iff_ne.2 (b8_ne (b := 49) fun e => ha (.inr e))
    clear hq hlen ha g0
    go_enter Tryz.func168, Tryz.ntmps168
    go_wp2_with fail
    go_ret2
    exact ⟨rfl, 0, rfl⟩
  case pos =>
    have HA := Lib.hid ha
    by_cases h1 : s.size = 1
    · have hq : codQ s.data.toList = ((s[0].toNat - 48) * 1000, true) := by
        generalize s.data.toList = l at g0 hlen
        match l, hlen with
        | [a], _ =>
          have : a = s[0] := by simpa using g0
          rw [this]; exact codQ_one _ ha
        | [], h => rw [List.length_nil] at h; omega
        | _ :: _ :: _, h => simp only [List.length_cons] at h; omega
      have HQ := Lib.hid hq
      have n2 : ((s.size : Int) == 1) = true := beq_iff_eq.2 (by omega)
      clear hq hlen g0 HA h1
      rcases ha with ha | ha
      all_goals
        have i1 : (s[0].toNat : Int) = _ := congrArg (fun b : UInt8 => (b.toNat : Int)) ha
        simp only [UInt8.reduceToNat] at i1
        have HA := Lib.hid ha
        clear ha
        go_enter Tryz.func168, Tryz.ntmps168
        go_wp2_with fail
        go_ret2
        refine ⟨?_, 0, rfl⟩
        unfold QEnd
        rw [HQ.out, HA.out]
        rfl
    have hp1 : 1 < s.size := by omega
    have g1 := at_get s 1 hp1
    have n2 : ((s.size : Int) == 1) = false := beq_eq_false_iff_ne.2 (by omega)
    by_cases hb : s[1] = 46
    case neg =>
      have hq : codQ s.data.toList = (0, false) := by
        generalize s.data.toList = l at g0 g1
        match l, g0, g1 with
        | a :: b :: l, g0, g1 =>
          have : b = s[1] := by simpa using g1
          exact codQ_bad fun h => by
            rcases h.2 with h | ⟨d, h⟩
            · cases h
            · injection h with h; exact hb (by rw [← this, h])
      rw [QEnd_no hq]
      have i2 : ((s[1].toNat : Int) != 46) = true := bne_iff_ne.2 (b8_ne (b := 46) hb)
      clear hq hlen g0 g1 HA hb
      rcases ha with ha | ha
      all_goals
        have i1 : (s[0].toNat : Int) = _ := congrArg (fun b : UInt8 => (b.toNat : Int)) ha
        simp only [UInt8.reduceToNat] at i1
        clear ha
        go_enter Tryz.func168, Tryz.ntmps168
        go_wp2_with fail
        go_ret2
        exact ⟨rfl, 0, rfl⟩
    case pos =>
      obtain ⟨d, hL⟩ : ∃ d, s.data.toList = s[0] :: 46 :: d := by
        generalize s.data.toList = l at g0 g1
        match l, g0, g1 with
        | a :: b :: l, g0, g1 =>
          have e0 : a = s[0] := by simpa using g0
          have e1 : b = s[1] := by simpa using g1
          exact ⟨l, by rw [e0, e1, hb]⟩
      have hdl : s.size = d.length + 2 := by rw [hlen, hL]; simp
      have i2 : (s[1].toNat : Int) = 46 := by rw [hb]; rfl
      have hi2 : ((s[1].toNat : Int) != 46) = false := by rw [i2]; rfl
      clear hlen g0 g1 hb i2
      have hq0 : (qTo s[0] d 0 : Int) = ((s[0].toNat : Int) - 48) * 1000 := by rcases ha with h | h <;> rw [h] <;> simp [qTo]
      have HQ0 := Lib.hid hq0
      have HL0 := Lib.hid hL
      clear hq0 hL
      have hd3 : d.length ≤ 3 := by omega
      have HS := Lib.hid hdl
      clear h1 h5 h0 hdl
      rcases ha with ha | ha
      all_goals
        have i1 : (s[0].toNat : Int) = _ := congrArg (fun b : UInt8 => (b.toNat : Int)) ha
        simp only [UInt8.reduceToNat] at i1
        have HQ00 := HQ0.out
        rw [i1] at HQ00
        have HQ1 := Lib.hid HQ00
        clear ha HQ00
        go_enter Tryz.func168, Tryz.ntmps168
        go_wp2_with fail
        go_loop [4, 5, 6] (fun n wt i => QRel s[0] d n wt i) (fun _ _ i => d.length + 2 - (intOf i).toNat)
        case atStart => exact ⟨0, Nat.zero_le _, rfl, by rw [HQ1.out]; rfl, rfl, rfl⟩
        case round =>
          obtain ⟨j, hj, rfl, rfl, rfl, hall⟩ := hrel
          have Hall := Lib.hid hall
          clear hall
          by_cases hlt : j < d.length
          · have hj3 : j = 0 ∨ j = 1 ∨ j = 2 := by omega
            have hL := HL0.out
            have hdn : (d.length : Int) + 2 = (s.size : Int) := by have := HS.out; omega
            have HDN := Lib.hid hdn
            clear hdn
            rcases hj3 with rfl | rfl | rfl
            · have hk : 2 < s.size := by have := HS.out; omega
              have hx0 := at_get s 2 hk
              rw [hL] at hx0
              have hx : d[0]? = some s[2] := by simpa using hx0
              have hq := qTo_step s[0] d 0 (by decide)
              have hle := qTo_le s[0] d 0
              have hgd : d.getD 0 0 = s[2] := by rw [List.getD_eq_getElem?_getD, hx]; rfl
              rw [hgd] at hq
              have hx8 := s[2].toNat_lt
              have HL := Lib.hid hL; have HX := Lib.hid hx
              clear hL hx hx0 hgd
              by_cases hd : isDig s[2] = true
              · have hdd : 48 ≤ s[2].toNat ∧ s[2].toNat ≤ 57 := by unfold isDig at hd; simpa using hd
                obtain ⟨x1, x2⟩ := hdd
                have HD := Lib.hid hd
                have hq2 : (qTo s[0] d 1 : Int) = (qTo s[0] d 0 : Int) + ((s[2].toNat : Int) - 48) * 100 := by
                  have e : qW 0 = 100 := rfl
                  rw [e] at hq
                  rw [hq]; omega
                have HQ := Lib.hid hq2
                clear hd hq hq2
                rw [show ((qW 0 : Nat) : Int) = 100 from rfl]
                generalize qTo s[0] d 0 = N at *
                go_wp2
                go_round
                case rel => exact ⟨1, by omega, by go_num, by rw [HQ.out], by rw [show ((qW 1 : Nat) : Int) = 10 from rfl], by rw [List.take_add_one, HX.out, List.all_append, Hall.out]; simp [HD.out]⟩
                case measure => simp [intOf]; omega
              · have hcc : (s[2].toNat : Int) < 48 ∨ (¬ (s[2].toNat : Int) < 48 ∧ 57 < (s[2].toNat : Int)) := by
                  unfold isDig at hd
                  simp only [Bool.and_eq_true, decide_eq_true_eq] at hd
                  omega
                have hno : codQ s.data.toList = (0, false) := by
                  rw [HL.out, codQ_dot HA.out, if_neg]
                  rintro ⟨_, h, _⟩
                  rw [List.all_eq_true] at h
                  exact hd (h _ (List.mem_of_getElem? HX.out))
                have HNO := Lib.hid (QEnd_no hno)
                clear hno hd hq
                rw [show ((qW 0 : Nat) : Int) = 100 from rfl]
                generalize qTo s[0] d 0 = N at *
                rcases hcc with c1 | ⟨c1, c2⟩
                · go_wp2
                  go_ret2
                  exact ⟨by rw [HNO.out]; rfl, 0, rfl⟩
                · go_wp2
                  go_ret2
                  exact ⟨by rw [HNO.out]; rfl, 0, rfl⟩
            · have hk : 3 < s.size := by have := HS.out; omega
              have hx0 := at_get s 3 hk
              rw [hL] at hx0
              have hx : d[1]? = some s[3] := by simpa using hx0
              have hq := qTo_step s[0] d 1 (by decide)
              have hle := qTo_le s[0] d 1
              have hgd : d.getD 1 0 = s[3] := by rw [List.getD_eq_getElem?_getD, hx]; rfl
              rw [hgd] at hq
              have hx8 := s[3].toNat_lt
              have HL := Lib.hid hL; have HX := Lib.hid hx
              clear hL hx hx0 hgd
              by_cases hd : isDig s[3] = true
              · have hdd : 48 ≤ s[3].toNat ∧ s[3].toNat ≤ 57 := by unfold isDig at hd; simpa using hd
                obtain ⟨x1, x2⟩ := hdd
                have HD := Lib.hid hd
                have hq2 : (qTo s[0] d 2 : Int) = (qTo s[0] d 1 : Int) + ((s[3].toNat : Int) - 48) * 10 := by
                  have e : qW 1 = 10 := rfl
                  rw [e] at hq
                  rw [hq]; omega
                have HQ := Lib.hid hq2
                clear hd hq hq2
                rw [show ((qW 1 : Nat) : Int) = 10 from rfl]
                generalize qTo s[0] d 1 = N at *
                go_wp2
                go_round
                case rel => exact ⟨2, by omega, by go_num, by rw [HQ.out], by rw [show ((qW 2 : Nat) : Int) = 1 from rfl], by rw [List.take_add_one, HX.out, List.all_append, Hall.out]; simp [HD.out]⟩
                case measure => simp [intOf]; omega
              · have hcc : (s[3].toNat : Int) < 48 ∨ (¬ (s[3].toNat : Int) < 48 ∧ 57 < (s[3].toNat : Int)) := by
                  unfold isDig at hd
                  simp only [Bool.and_eq_true, decide_eq_true_eq] at hd
                  omega
                have hno : codQ s.data.toList = (0, false) := by
                  rw [HL.out, codQ_dot HA.out, if_neg]
                  rintro ⟨_, h, _⟩
                  rw [List.all_eq_true] at h
                  exact hd (h _ (List.mem_of_getElem? HX.out))
                have HNO := Lib.hid (QEnd_no hno)
                clear hno hd hq
                rw [show ((qW 1 : Nat) : Int) = 10 from rfl]
                generalize qTo s[0] d 1 = N at *
                rcases hcc with c1 | ⟨c1, c2⟩
                · go_wp2
                  go_ret2
                  exact ⟨by rw [HNO.out]; rfl, 0, rfl⟩
                · go_wp2
                  go_ret2
                  exact ⟨by rw [HNO.out]; rfl, 0, rfl⟩
            · have hk : 4 < s.size := by have := HS.out; omega
              have hx0 := at_get s 4 hk
              rw [hL] at hx0
              have hx : d[2]? = some s[4] := by simpa using hx0
              have hq := qTo_step s[0] d 2 (by decide)
              have hle := qTo_le s[0] d 2
              have hgd : d.getD 2 0 = s[4] := by rw [List.getD_eq_getElem?_getD, hx]; rfl
              rw [hgd] at hq
              have hx8 := s[4].toNat_lt
              have HL := Lib.hid hL; have HX := Lib.hid hx
              clear hL hx hx0 hgd
              by_cases hd : isDig s[4] = true
              · have hdd : 48 ≤ s[4].toNat ∧ s[4].toNat ≤ 57 := by unfold isDig at hd; simpa using hd
                obtain ⟨x1, x2⟩ := hdd
                have HD := Lib.hid hd
                have hq2 : (qTo s[0] d 3 : Int) = (qTo s[0] d 2 : Int) + ((s[4].toNat : Int) - 48) * 1 := by
                  have e : qW 2 = 1 := rfl
                  rw [e] at hq
                  rw [hq]; omega
                have HQ := Lib.hid hq2
                clear hd hq hq2
                rw [show ((qW 2 : Nat) : Int) = 1 from rfl]
                generalize qTo s[0] d 2 = N at *
                go_wp2
                go_round
                case rel => exact ⟨3, by omega, by go_num, by rw [HQ.out, Int.mul_one], by rw [show ((qW 3 : Nat) : Int) = 0 from rfl], by rw [List.take_add_one, HX.out, List.all_append, Hall.out]; simp [HD.out]⟩
                case measure => simp [intOf]; omega
              · have hcc : (s[4].toNat : Int) < 48 ∨ (¬ (s[4].toNat : Int) < 48 ∧ 57 < (s[4].toNat : Int)) := by
                  unfold isDig at hd
                  simp only [Bool.and_eq_true, decide_eq_true_eq] at hd
                  omega
                have hno : codQ s.data.toList = (0, false) := by
                  rw [HL.out, codQ_dot HA.out, if_neg]
                  rintro ⟨_, h, _⟩
                  rw [List.all_eq_true] at h
                  exact hd (h _ (List.mem_of_getElem? HX.out))
                have HNO := Lib.hid (QEnd_no hno)
                clear hno hd hq
                rw [show ((qW 2 : Nat) : Int) = 1 from rfl]
                generalize qTo s[0] d 2 = N at *
                rcases hcc with c1 | ⟨c1, c2⟩
                · go_wp2
                  go_ret2
                  exact ⟨by rw [HNO.out]; rfl, 0, rfl⟩
                · go_wp2
                  go_ret2
                  exact ⟨by rw [HNO.out]; rfl, 0, rfl⟩
          · have hjd : j = d.length := by omega
            subst hjd
            have hcd : ¬ (d.length : Int) + 2 < (s.size : Int) := by have := HS.out; omega
            have hal := Hall.out
            rw [List.take_of_length_le (Nat.le_refl _)] at hal
            have hq := codQ_dot (a := s[0]) (d := d) HA.out
            rw [qTo_all _ _ hd3]
            have HA3 := Lib.hid hal
            generalize qVal s[0] d = N at *
            by_cases hN : N ≤ 1000
            · rw [if_pos ⟨hd3, hal, hN⟩] at hq
              rw [← HL0.out] at hq
              have HQ := Lib.hid hq
              clear hq hal
              go_wp2
              go_ret2
              refine ⟨?_, 0, rfl⟩
              unfold QEnd
              rw [HQ.out]
              rfl
            · rw [if_neg (fun h => hN h.2.2)] at hq
              rw [← HL0.out] at hq
              have HQ := Lib.hid hq
              clear hq hal
              go_wp2
              go_ret2
              refine ⟨?_, 0, rfl⟩
              unfold QEnd
              rw [HQ.out]
              rfl
end Go.Proofs.YtncegikmpapldaaGreatDoor

-- from XCodQi
/- Walks: a quality, by the program. -/
namespace Go.Proofs.YtncegikmpapldaaGreatDoor
open Go.RowKit

theorem qS (a : UInt8) (D : List UInt8) (h : D.length ≤ 3) : (⟨#[a]⟩ ++ ⟨D.toArray⟩ ++ (⟨#[48, 48, 48]⟩ : ByteArray).extract D.length 3 : ByteArray) = ⟨(a :: (D ++ List.replicate (3 - D.length) 48)).toArray⟩ := by
  match D, h with
  | [], _ => rfl
  | [x], _ => rfl
  | [x, y], _ => rfl
  | [x, y, z], _ => rfl
  | _ :: _ :: _ :: _ :: _, h => simp at h
theorem q_digs (D : List UInt8) (n : Nat) : (D ++ List.replicate n (48 : UInt8)).all isDig = D.all isDig := by
  rw [List.all_append]
  have : (List.replicate n (48 : UInt8)).all isDig = true := by
    rw [List.all_eq_true]
    intro x hx
    rw [List.eq_of_mem_replicate hx]; decide
  rw [this, Bool.and_true]

/-- How the reading of a quality's four digits ends. -/
def QAtoi (a : UInt8) (D : List UInt8) (w : World) (e : Ending) (w' : World) : Prop :=
  Below w.heap.size w w' ∧ ((e = .returned (.tuple #[.int .i64 (qVal a D : Int), .nilIface]) ∧ D.all isDig = true) ∨ ∃ t p v, e = .returned (.tuple #[.int .i64 v, .iface t p]) ∧ D.all isDig = false)
theorem atoi_q (a : UInt8) (ha : a = 48 ∨ a = 49) (D : List UInt8) (hD : D.length ≤ 3) (w : World) (he : Errs w) :
    Calls Tryz.prog 82 #[.string (⟨#[a]⟩ ++ ⟨D.toArray⟩ ++ (⟨#[48, 48, 48]⟩ : ByteArray).extract D.length 3)] w (QAtoi a D w) := by
  rw [qS a D hD]
  obtain ⟨tp, p, tp2, p2, hv1, hv2⟩ := he
  have hlen : (D ++ List.replicate (3 - D.length) (48 : UInt8)).length ≤ 3 := by simp; omega
  obtain ⟨h1, h2, h3⟩ := atoi_small ha hlen
  have hdig := q_digs D (3 - D.length)
  have hval : valF 0 (a :: (D ++ List.replicate (3 - D.length) 48)) = qVal a D := rfl
  have hsz : (ByteArray.mk (a :: (D ++ List.replicate (3 - D.length) (48 : UInt8))).toArray).size ≤ 4 := by rw [size_len]; simp; omega
  have hdt : (ByteArray.mk (a :: (D ++ List.replicate (3 - D.length) (48 : UInt8))).toArray).data.toList = a :: (D ++ List.replicate (3 - D.length) 48) := rfl
  generalize (ByteArray.mk (a :: (D ++ List.replicate (3 - D.length) (48 : UInt8))).toArray) = S at *
  rw [hval] at h2 h3
  rw [hdig] at h2 h3
  rw [← hdt] at h1 h2 h3
  rcases h : Lib.atoiAll S.data.toList with v | _ | _
  · obtain ⟨k1, k2⟩ := h2 v h
    subst k2
    refine (Tryz.strconv_Atoi_ok S (by omega) _ h w).mono ?_
    rintro e w1 ⟨rfl, hw⟩
    exact ⟨atoi_below hw, .inl ⟨rfl, k1⟩⟩
  · refine (Any.strconv_Atoi_syntax_var Tryz.laysC172 S (by omega) h tp p w hv1).mono ?_
    rintro e w1 ⟨N, rfl, _, _, hb1⟩
    refine ⟨hb1, .inr ⟨_, _, _, rfl, ?_⟩⟩
    cases hd : D.all isDig
    · rfl
    · have := h3 hd
      rw [h] at this; cases this
  · exact absurd h h1

set_option maxHeartbeats 1600000 in
theorem impl_codq (s : ByteArray) (w : World) (hs : s.size ≤ 281474976710656) (he : Errs w) :
    Calls Tryz.prog 141 #[.string s] w fun e w' => e = .returned (QEnd s.data.toList) ∧ Below w.heap.size w w' := by
  have hcut := fun W => textcut s 46 W (by unfold maxLen; omega)
  obtain ⟨hl1, hl2⟩ := cutL_len s.data.toList 46
  have hsl := size_len s
  have hq := Eq.refl (codQ s.data.toList)
  conv at hq => rhs; unfold codQ
  generalize cutL s.data.toList 46 = C at *
  obtain ⟨W, D, B⟩ := C
  simp only at hl1 hl2 hcut hq
  have HC := Lib.hid hcut
  have hD9 : D.length ≤ 281474976710656 := by omega
  clear hcut hl1 hl2 hsl
  by_cases hW : W = [48] ∨ W = [49]
  · by_cases hD : D.length ≤ 3
    · have fin : ∀ a : UInt8, a = 48 ∨ a = 49 → W = [a] → (D.all isDig = true → qVal a D ≤ 1000 → QEnd s.data.toList = .tuple #[.int .i64 (qVal a D : Int), .bool true]) ∧ ((D.all isDig = false ∨ ¬ qVal a D ≤ 1000) → QEnd s.data.toList = .tuple #[.int .i64 0, .bool false]) := by
        rintro a ha rfl
        refine ⟨fun h1 h2 => ?_, fun h => QEnd_no ?_⟩
        · unfold QEnd
          rw [hq, if_pos ⟨hW, hD, h1, h2⟩]; rfl
        · rw [hq, if_neg]
          rintro ⟨_, _, h1, h2⟩
          rcases h with h | h
          · rw [h1] at h; cases h
          · exact h h2
      have FIN := Lib.hid fin
      have HE := Lib.hid he
      clear fin hq he
      rcases hW with rfl | rfl
      · obtain ⟨f1, f2⟩ := FIN.out 48 (.inl rfl) rfl
        have F1 := Lib.hid f1; have F2 := Lib.hid f2
        clear f1 f2 FIN
        have HD3 := Lib.hid hD
        have hA := fun W (h : Errs W) => atoi_q 48 (.inl rfl) D HD3.out W h
        have HA := Lib.hid hA
        clear hA
        unfold QAtoi at HA
        generalize qVal 48 D = N at *
        go_enter Tryz.func141, Tryz.ntmps141
        go_wp2_with fail
        refine (HC.out _).mono ?_
        rintro e w1 ⟨rfl, n1, rfl⟩
        go_wp2_with fail
        refine (HA.out _ (show Errs (w.drewN n1) from HE.out)).mono ?_
        rintro e w2 ⟨hb2, ⟨rfl, h1⟩ | ⟨t, p, v, rfl, h1⟩⟩
        · by_cases hN : N ≤ 1000
          · have R := Lib.hid (F1.out h1 hN)
            clear F1 F2 h1
            go_wp2
            go_ret2
            exact ⟨by rw [R.out]; rfl, below_drewN_left hb2⟩
          · have R := Lib.hid (F2.out (.inr hN))
            clear F1 F2 h1
            go_wp2
            go_ret2
            exact ⟨by rw [R.out]; rfl, below_drewN_left hb2⟩
        · have R := Lib.hid (F2.out (.inl h1))
          clear F1 F2 h1
          go_wp2
          go_ret2
          exact ⟨by rw [R.out]; rfl, below_drewN_left hb2⟩
      · obtain ⟨f1, f2⟩ := FIN.out 49 (.inr rfl) rfl
        have F1 := Lib.hid f1; have F2 := Lib.hid f2
        clear f1 f2 FIN
        have HD3 := Lib.hid hD
        have hA := fun W (h : Errs W) => atoi_q 49 (.inr rfl) D HD3.out W h
        have HA := Lib.hid hA
        clear hA
        unfold QAtoi at HA
        generalize qVal 49 D = N at *
        go_enter Tryz.func141, Tryz.ntmps141
        go_wp2_with fail
        refine (HC.out _).mono ?_
        rintro e w1 ⟨rfl, n1, rfl⟩
        go_wp2_with fail
        refine (HA.out _ (show Errs (w.drewN n1) from HE.out)).mono ?_
        rintro e w2 ⟨hb2, ⟨rfl, h1⟩ | ⟨t, p, v, rfl, h1⟩⟩
        · by_cases hN : N ≤ 1000
          · have R := Lib.hid (F1.out h1 hN)
            clear F1 F2 h1
            go_wp2
            go_ret2
            exact ⟨by rw [R.out]; rfl, below_drewN_left hb2⟩
          · have R := Lib.hid (F2.out (.inr hN))
            clear F1 F2 h1
            go_wp2
            go_ret2
            exact ⟨by rw [R.out]; rfl, below_drewN_left hb2⟩
        · have R := Lib.hid (F2.out (.inl h1))
          clear F1 F2 h1
          go_wp2
          go_ret2
          exact ⟨by rw [R.out]; rfl, below_drewN_left hb2⟩
    · have R := Lib.hid (QEnd_no (hq.trans (if_neg (fun h => hD h.2.1))))
      clear hq he
      rcases hW with rfl | rfl
      all_goals
        go_enter Tryz.func141, Tryz.ntmps141
        go_wp2_with fail
        refine (HC.out _).mono ?_
        rintro e w1 ⟨rfl, n1, rfl⟩
        go_wp2_with fail
        go_ret2
        exact ⟨by rw [R.out]; rfl, below_drewN (Below.refl _ _)⟩
  · have R := Lib.hid (QEnd_no (hq.trans (if_neg (fun h => hW h.1))))
    obtain ⟨hW1, hW2⟩ := not_or.1 hW
    clear hq he hW
    go_enter Tryz.func141, Tryz.ntmps141
    go_wp2_with fail
    refine (HC.out _).mono ?_
    rintro e w1 ⟨rfl, n1, rfl⟩
    go_wp2_with fail
    go_ret2
    exact ⟨by rw [R.out]; rfl, below_drewN (Below.refl _ _)⟩
end Go.Proofs.YtncegikmpapldaaGreatDoor

-- from XLaidC
/- The table of the names of codings: what a row's list of package-level variables gives. -/
namespace Go.Proofs.YtncegikmpapldaaGreatDoor
open Go.RowKit

def strsData {H : Type} (zs : List (List UInt8)) : DataW H := .agg (zs.map fun z => .lit (.string z))

/-- An array of texts that reads as the table holds the table's texts, cell for cell. -/
theorem cells_of_strs {H : Type} {enc : TypeId × Value → H} {P : Program} {w : World} {base : Nat} {sp : Nat → Bool} {held : Bool} {fuel : Nat} {t e : TypeId} {n : Nat} {cs : List Value} {zs : List (List UInt8)} {p : List MemPlace}
    (ht : P.underlying t = some (.array n e)) (he : P.underlying e = some .string) (hce : P.cellsOf e = 1) (hct : P.cellsOf t = n)
    (h : DataW.trod enc P w base sp held fuel t cs = some (strsData zs, p)) : cs = zs.map strV := by
  cases fuel with
  | zero => simp [DataW.trod] at h
  | succ fuel =>
    simp only [DataW.trod, ht, hce, hct, Nat.mul_one] at h
    split at h
    · rename_i hl
      obtain ⟨xs, hm, hx⟩ := Option.map_eq_some_iff.1 h
      have hxs : xs.map (·.1) = zs.map fun z => (DataW.lit (.string z) : DataW H) := by
        have := congrArg Prod.fst hx
        simpa [strsData] using this
      have hxl : xs.length = n := by simpa using Lib.mapM_length hm
      have hzl : zs.length = n := by
        have := congrArg List.length hxs
        simp at this
        omega
      apply List.ext_getElem?
      intro i
      by_cases hi : i < n
      · obtain ⟨b, hb, hf⟩ := Lib.mapM_at hm i i (by simp [hi])
        obtain ⟨z, hc, rfl, _⟩ := DataW.trod_string he hf
        have h1 : cs[i]? = some (.string z) := by
          have := congrArg (·[0]?) hc
          simpa [List.getElem?_take, List.getElem?_drop] using this
        have h2 : (xs.map (·.1))[i]? = some (DataW.lit (.string z.data.toList) : DataW H) := by simp [hb]
        rw [hxs] at h2
        simp only [List.getElem?_map, Option.map_eq_some_iff, DataW.lit.injEq, Lit.string.injEq] at h2
        obtain ⟨z', hz', hz2⟩ := h2
        rw [h1, List.getElem?_map, hz']
        simp [hz2]
      · rw [List.getElem?_eq_none (by omega), List.getElem?_eq_none (by simp; omega)]
    · cases h

/-- The names of codings lie in their variable. -/
def Cds (w : World) : Prop := 0 < w.heap.size ∧ w.cell? ⟨0, 0, none⟩ = some (.string ⟨#[112, 108, 97, 105, 110]⟩) ∧ w.cell? ⟨0, 1, none⟩ = some (.string ⟨#[103, 122]⟩) ∧ w.cell? ⟨0, 2, none⟩ = some (.string ⟨#[98, 114]⟩)
theorem Cds.below {w w' : World} (h : Cds w) {B : Nat} (hb : Below B w w') (hB : w.heap.size ≤ B) : Cds w' := by
  obtain ⟨h0, h1, h2, h3⟩ := h
  have hl := Nat.lt_of_lt_of_le h0 hB
  exact ⟨Nat.lt_of_lt_of_le h0 hb.size, (hb.cell (p := ⟨0, 0, none⟩) hl).trans h1, (hb.cell (p := ⟨0, 1, none⟩) hl).trans h2, (hb.cell (p := ⟨0, 2, none⟩) hl).trans h3⟩
theorem Cds.drewN {w : World} (h : Cds w) (n : Nat) : Cds (w.drewN n) := h

theorem gCds : Tryz.prog.globalNamed "loop.example/godown/impl.codingNames" = some 0 := by kernel_rfl
theorem gCdsT : (Tryz.prog.globals[0]?).map (·.type) = some 131 := by kernel_rfl
theorem cellsCds : Tryz.prog.cellsOf 131 = 3 := by kernel_rfl
theorem cellsCdsS : Tryz.prog.cellsOf 9 = 1 := by kernel_rfl

theorem cds_of_head {W : World} {rest : List (String × DataW Unit)} (h : laidMet Tryz.prog (("loop.example/godown/impl.codingNames", Rows.laid_loop_example_godown_impl_codingNames) :: rest) W) : Cds W := by
  rw [show Rows.laid_loop_example_godown_impl_codingNames = strsData [nPlain, nGz, nBr] from by kernel_rfl] at h
  obtain ⟨ps, ⟨g', t', cs, fuel, p, q, hg', ht', hvar, hd, _, _⟩, _⟩ := h
  obtain rfl := Option.some.inj (gCds.symm.trans hg')
  obtain rfl := Option.some.inj (gCdsT.symm.trans ht')
  have hcs := cells_of_strs Tryz.underlying131 Tryz.underlying9 cellsCdsS cellsCds hd
  obtain ⟨l⟩ := cs
  have hcs : l = [strV nPlain, strV nGz, strV nBr] := hcs
  subst hcs
  have c0 := World.var?_cell gCds hvar 0
  have c1 := World.var?_cell gCds hvar 1
  have c2 := World.var?_cell gCds hvar 2
  exact ⟨World.block_lt_of_cell? W _ c0, c0, c1, c2⟩
end Go.Proofs.YtncegikmpapldaaGreatDoor

-- from XWant
/- Lists of what somebody would take: in memory; the laws' own helpers over them: sized, copied, equal, marked, held. -/
namespace Go.Proofs.YtncegikmpapldaaGreatDoor
open Go.RowKit Go.Maps

def WRow (w : World) (v : Value) (fs : List Wt) : Prop :=
  ∃ a c, v = .slice a fs.length c ∧ fs.length ≤ c ∧ c ≤ maxLen ∧ ∀ j f, fs[j]? = some f → ∃ b o, a = some ⟨b, o, none⟩ ∧ b < w.heap.size ∧ w.cell? ⟨b, o + j * 2, none⟩ = some (.int .i64 f.1) ∧ w.cell? ⟨b, o + j * 2 + 1, none⟩ = some (.int .i64 f.2)

theorem WRow.below {w w' : World} {v : Value} {fs : List Wt} (h : WRow w v fs) {B : Nat} (hB : w.heap.size ≤ B) (hb : Below B w w') : WRow w' v fs := by
  obtain ⟨a, c, rfl, h1, h2, h3⟩ := h
  refine ⟨a, c, rfl, h1, h2, fun j f hj => ?_⟩
  obtain ⟨b, o, rfl, hlt, c1, c2⟩ := h3 j f hj
  exact ⟨b, o, rfl, Nat.lt_of_lt_of_le hlt hb.size, (hb.cell (p := ⟨b, o + j * 2, none⟩) (Nat.lt_of_lt_of_le hlt hB)).trans c1, (hb.cell (p := ⟨b, o + j * 2 + 1, none⟩) (Nat.lt_of_lt_of_le hlt hB)).trans c2⟩
theorem WRow.drewN {w : World} {v : Value} {fs : List Wt} (h : WRow w v fs) (n : Nat) : WRow (w.drewN n) v fs := h
def noWt : Wt := (0, 0)
/-- Block g holds n fields, the i-th one F i; none is frozen. -/
def WCells (w : World) (g n : Nat) (F : Nat → Wt) : Prop :=
  ∃ cur t, w.heap[g]? = some (.cells cur t (0, 0)) ∧ n * 2 ≤ cur.size ∧ ∀ i, i < n → cur[i * 2]? = some (.int .i64 (F i).1) ∧ cur[i * 2 + 1]? = some (.int .i64 (F i).2)

theorem WCells.lt {w : World} {g n : Nat} {F : Nat → Wt} (h : WCells w g n F) : g < w.heap.size := by
  obtain ⟨cur, t, hh, _⟩ := h
  exact (Array.getElem?_eq_some_iff.1 hh).1
theorem WCells.keep {w w' : World} {g n : Nat} {F : Nat → Wt} (h : WCells w g n F) (hk : w'.heap[g]? = w.heap[g]?) : WCells w' g n F := by
  obtain ⟨cur, t, hh, r⟩ := h
  exact ⟨cur, t, hk.trans hh, r⟩
theorem WCells.congr {w : World} {g n : Nat} {F F' : Nat → Wt} (h : WCells w g n F) (he : ∀ i, i < n → F i = F' i) : WCells w g n F' := by
  obtain ⟨cur, t, hh, hs, hc⟩ := h
  exact ⟨cur, t, hh, hs, fun i hi => by rw [← he i hi]; exact hc i hi⟩
theorem WCells.cell0 {w : World} {g n : Nat} {F : Nat → Wt} (h : WCells w g n F) {i : Nat} (hi : i < n) : w.cell? ⟨g, i * 2, none⟩ = some (.int .i64 (F i).1) := by
  obtain ⟨cur, t, hh, hs, hc⟩ := h
  simp [World.cell?, hh, (hc i hi).1]
theorem WCells.cell1 {w : World} {g n : Nat} {F : Nat → Wt} (h : WCells w g n F) {i : Nat} (hi : i < n) : w.cell? ⟨g, i * 2 + 1, none⟩ = some (.int .i64 (F i).2) := by
  obtain ⟨cur, t, hh, hs, hc⟩ := h
  simp [World.cell?, hh, (hc i hi).2]
theorem WCells.frozen {w : World} {g n : Nat} {F : Nat → Wt} (h : WCells w g n F) (j : Nat) : w.frozen? ⟨g, j, none⟩ = false := by
  obtain ⟨cur, t, hh, hs, hc⟩ := h
  simp [World.frozen?, hh]
def wupd0 (F : Nat → Wt) (i : Nat) (s : Int) : Nat → Wt := fun j => if j = i then (s, (F j).2) else F j
def wupd1 (F : Nat → Wt) (i : Nat) (s : Int) : Nat → Wt := fun j => if j = i then ((F j).1, s) else F j
theorem WCells.set0 {w : World} {g n : Nat} {F : Nat → Wt} (h : WCells w g n F) {i : Nat} (_hi : i < n) (s : Int) : WCells (w.setCell ⟨g, i * 2, none⟩ (.int .i64 s)) g n (wupd0 F i s) := by
  obtain ⟨cur, t, hh, hs, hc⟩ := h
  refine ⟨_, t, heap_setCell_same w g (i * 2) cur t _ hh, by simpa using hs, fun j hj => ?_⟩
  obtain ⟨h0, h1⟩ := hc j hj
  rw [Array.getElem?_setIfInBounds, Array.getElem?_setIfInBounds]
  unfold wupd0
  by_cases e : j = i
  · subst e
    simp only [if_true, show ¬ (j * 2 = j * 2 + 1) from by omega, show j * 2 < cur.size from by omega, if_false]
    exact ⟨trivial, h1⟩
  · simp only [show ¬ (i * 2 = j * 2 + 1) from by omega, show ¬ (i * 2 = j * 2) from by omega, if_neg e, if_false]
    exact ⟨h0, h1⟩
theorem WCells.set1 {w : World} {g n : Nat} {F : Nat → Wt} (h : WCells w g n F) {i : Nat} (_hi : i < n) (s : Int) : WCells (w.setCell ⟨g, i * 2 + 1, none⟩ (.int .i64 s)) g n (wupd1 F i s) := by
  obtain ⟨cur, t, hh, hs, hc⟩ := h
  refine ⟨_, t, heap_setCell_same w g (i * 2 + 1) cur t _ hh, by simpa using hs, fun j hj => ?_⟩
  obtain ⟨h0, h1⟩ := hc j hj
  rw [Array.getElem?_setIfInBounds, Array.getElem?_setIfInBounds]
  unfold wupd1
  by_cases e : j = i
  · subst e
    simp only [if_true, show ¬ (j * 2 + 1 = j * 2) from by omega, show j * 2 + 1 < cur.size from by omega, if_false]
    exact ⟨h0, trivial⟩
  · simp only [show ¬ (i * 2 + 1 = j * 2 + 1) from by omega, show ¬ (i * 2 + 1 = j * 2) from by omega, if_neg e, if_false]
    exact ⟨h0, h1⟩
def wget (fs : List Wt) (i : Nat) : Wt := (fs[i]?).getD noWt
theorem wget_at {fs : List Wt} {i : Nat} {f : Wt} (h : fs[i]? = some f) : wget fs i = f := by simp [wget, h]
theorem WCells.row {w : World} {g : Nat} {fs : List Wt} (h : WCells w g fs.length (wget fs)) (hn : fs.length ≤ maxLen) : WRow w (.slice (some ⟨g, 0, none⟩) fs.length fs.length) fs := by
  refine ⟨_, _, rfl, Nat.le_refl _, hn, fun j f hj => ⟨g, 0, rfl, h.lt, ?_, ?_⟩⟩
  · have := h.cell0 (i := j) (List.getElem?_eq_some_iff.1 hj).1
    rw [wget_at hj] at this
    rw [Nat.zero_add]; exact this
  · have := h.cell1 (i := j) (List.getElem?_eq_some_iff.1 hj).1
    rw [wget_at hj] at this
    rw [Nat.zero_add]; exact this

theorem Tryz.infoWt : (Tryz.prog.info? 127).map (fun i => (i.zero, i.size, i.bytes)) = some (some (.agg #[.int .i64 0, .int .i64 0]), 2, 16) := by kernel_rfl

theorem made_wt (n : Nat) : (madeCells (Value.agg #[.int .i64 0, .int .i64 0]).cells (n * 2)).size = n * 2 ∧ ∀ i, i < n → (madeCells (Value.agg #[.int .i64 0, .int .i64 0]).cells (n * 2))[i * 2]? = some (.int .i64 noWt.1) ∧ (madeCells (Value.agg #[.int .i64 0, .int .i64 0]).cells (n * 2))[i * 2 + 1]? = some (.int .i64 noWt.2) := by
  refine ⟨size_madeCells _ _, fun i hi => ?_⟩
  have hc : (Value.agg #[.int .i64 0, .int .i64 0]).cells = #[.int .i64 0, .int .i64 0] := by rfl
  unfold madeCells
  rw [hc]
  constructor
  · rw [Array.getElem?_map, Array.getElem?_range, if_pos (by omega)]
    simp [noWt]
  · rw [Array.getElem?_map, Array.getElem?_range, if_pos (by omega)]
    have : (i * 2 + 1) % 2 = 1 := by omega
    simp [noWt, this]

def wupto (fs : List Wt) (k : Nat) : Nat → Wt := fun i => if i < k then wget fs i else noWt
theorem wupto_step {fs : List Wt} {k : Nat} {a b : Int} (h : fs[k]? = some (a, b)) : wupd1 (wupd0 (wupto fs k) k a) k b = wupto fs (k + 1) := by
  funext i
  unfold wupd1 wupd0 wupto
  by_cases e : i = k
  · subst e
    simp [wget_at h]
  · rw [if_neg e, if_neg e]
    by_cases hi : i < k
    · rw [if_pos hi, if_pos (by omega)]
    · rw [if_neg hi, if_neg (by omega)]

def wcells (fs : List Wt) : List Value := fs.flatMap fun f => [.int .i64 f.1, .int .i64 f.2]
theorem wcells_len (fs : List Wt) : (wcells fs).length = fs.length * 2 := by
  induction fs with
  | nil => rfl
  | cons f fs ih => simp only [wcells, List.flatMap_cons, List.length_append, List.length_cons, List.length_nil] at ih ⊢; omega
theorem wcells_app (fs : List Wt) (f : Wt) : wcells (fs ++ [f]) = wcells fs ++ [.int .i64 f.1, .int .i64 f.2] := by simp [wcells]
theorem wcells_at : ∀ {fs : List Wt} {j : Nat} {f : Wt}, fs[j]? = some f → (wcells fs)[j * 2]? = some (.int .i64 f.1) ∧ (wcells fs)[j * 2 + 1]? = some (.int .i64 f.2)
  | [], j, f, h => by simp at h
  | a :: fs, 0, f, h => by
    have : a = f := by simpa using h
    subst this
    simp [wcells]
  | a :: fs, j + 1, f, h => by
    have h' : fs[j]? = some f := by simpa using h
    have ih := wcells_at h'
    have e : wcells (a :: fs) = [.int .i64 a.1, .int .i64 a.2] ++ wcells fs := rfl
    rw [e, List.getElem?_append_right (by simp; omega), List.getElem?_append_right (by simp; omega)]
    simpa [show (j + 1) * 2 - 2 = j * 2 from by omega, show (j + 1) * 2 + 1 - 2 = j * 2 + 1 from by omega] using ih
/-- A row of the call's own: nothing, or a block of pairs. -/
theorem own_wants {w : World} {B : Nat} {T : TypeId} {v : Value} {fs : List Wt} (h : w.ownsRow B T 2 v fs.length (wcells fs)) :
    (v = .slice none 0 0 ∧ fs = []) ∨ ∃ g cap, v = .slice (some ⟨g, 0, none⟩) fs.length cap ∧ B ≤ g ∧ fs.length ≤ cap ∧ cap ≤ maxLen ∧ WCells w g fs.length (wget fs) := by
  rcases h.2 with ⟨rfl, h0⟩ | ⟨g, cap, cur, rfl, hb, hh, hn, hm, hs, ht⟩
  · exact .inl ⟨rfl, List.eq_nil_of_length_eq_zero h0⟩
  · refine .inr ⟨g, cap, rfl, hb, hn, hm, cur, T, hh, by omega, fun i hi => ?_⟩
    have hat := wcells_at (List.getElem?_eq_getElem hi)
    rw [← ht] at hat
    rw [List.getElem?_take_of_lt (by omega), List.getElem?_take_of_lt (by omega)] at hat
    rw [wget_at (List.getElem?_eq_getElem hi)]
    simpa using hat
theorem wrow_of_own {w : World} {B : Nat} {T : TypeId} {v : Value} {fs : List Wt} (h : w.ownsRow B T 2 v fs.length (wcells fs)) : WRow w v fs := by
  rcases own_wants h with ⟨rfl, rfl⟩ | ⟨g, cap, rfl, _, h1, h2, h3⟩
  · exact ⟨none, 0, rfl, Nat.le_refl _, Nat.zero_le _, fun j f hj => by simp at hj⟩
  · refine ⟨_, cap, rfl, h1, h2, fun j f hj => ⟨g, 0, rfl, h3.lt, ?_, ?_⟩⟩
    · have := h3.cell0 (i := j) (List.getElem?_eq_some_iff.1 hj).1
      rw [wget_at hj] at this
      rw [Nat.zero_add]; exact this
    · have := h3.cell1 (i := j) (List.getElem?_eq_some_iff.1 hj).1
      rw [wget_at hj] at this
      rw [Nat.zero_add]; exact this

/-- The marks: two a thing. -/
def mk2 (F : Nat → Wt) (k j : Nat) : Nat → Wt := fun i => if i < j then ((k + 2 * i : Nat), (k + 2 * i + 1 : Nat)) else F i
theorem mk2_step (F : Nat → Wt) (k j : Nat) : wupd1 (wupd0 (mk2 F k j) j ((k + 2 * j : Nat) : Int)) j ((k + 2 * j + 1 : Nat) : Int) = mk2 F k (j + 1) := by
  funext i
  unfold wupd1 wupd0 mk2
  by_cases e : i = j
  · subst e
    simp
  · rw [if_neg e, if_neg e]
    by_cases hi : i < j
    · rw [if_pos hi, if_pos (by omega)]
    · rw [if_neg hi, if_neg (by omega)]

end Go.Proofs.YtncegikmpapldaaGreatDoor

-- from XCodN
/- Walks: the name of a coding; one thing that somebody would take. -/
namespace Go.Proofs.YtncegikmpapldaaGreatDoor
open Go.RowKit

/-- The coding of a name, and whether there is one. -/
def codK (l : List UInt8) : Int × Bool := if l = nPlain then (0, true) else if l = nGz then (1, true) else if l = nBr then (2, true) else (0, false)
def codW (l : List UInt8) : Int × Bool := if l = [42] then (-1, true) else codK (lowL l)

theorem low_star (l : List UInt8) : lowL l = [42] ↔ l = [42] := by
  constructor
  · intro h
    match l, h with
    | [c], h =>
      have hc : lowB c = 42 := by simpa [lowL] using h
      unfold lowB at hc
      split at hc
      · rename_i hg
        unfold isGreat at hg
        simp only [Bool.and_eq_true, decide_eq_true_eq] at hg
        have := congrArg UInt8.toNat hc
        rw [UInt8.toNat_add] at this
        have e1 : (32 : UInt8).toNat = 32 := rfl
        have e2 : (42 : UInt8).toNat = 42 := rfl
        rw [e1, e2] at this
        omega
      · rw [hc]
    | [], h => simp [lowL] at h
    | _ :: _ :: _, h => simp [lowL] at h
  · rintro rfl; decide
theorem codN_star : codN (lowL [42]) = -1 := by decide
theorem codW_codN (l : List UInt8) : codN (lowL l) = if (codW l).2 = true then (codW l).1 else -2 := by
  unfold codW codN
  by_cases h : l = [42]
  · rw [if_pos h, if_pos ((low_star l).2 h)]; rfl
  · rw [if_neg h, if_neg (fun e => h ((low_star l).1 e))]
    unfold codK
    split
    · rfl
    · split
      · rfl
      · split <;> rfl
theorem codK_ge (l : List UInt8) : 0 ≤ (codK l).1 ∧ (codK l).1 ≤ 2 := by
  unfold codK; split
  · decide
  · split
    · decide
    · split <;> decide
theorem codW_ge (l : List UInt8) : -1 ≤ (codW l).1 ∧ (codW l).1 ≤ 2 := by
  unfold codW; split
  · decide
  · have := codK_ge (lowL l); omega

def CRet (r : Int × Bool) : Value := .tuple #[.int .i64 r.1, .bool r.2]

theorem names_at0 (W : World) : (Instr.index 131 (.agg #[.string ⟨#[112, 108, 97, 105, 110]⟩, .string ⟨#[103, 122]⟩, .string ⟨#[98, 114]⟩]) (.int .i64 0)).run Tryz.prog W = .ok (.string ⟨#[112, 108, 97, 105, 110]⟩) W := by kernel_rfl
theorem names_at1 (W : World) : (Instr.index 131 (.agg #[.string ⟨#[112, 108, 97, 105, 110]⟩, .string ⟨#[103, 122]⟩, .string ⟨#[98, 114]⟩]) (.int .i64 1)).run Tryz.prog W = .ok (.string ⟨#[103, 122]⟩) W := by kernel_rfl
theorem names_at2 (W : World) : (Instr.index 131 (.agg #[.string ⟨#[112, 108, 97, 105, 110]⟩, .string ⟨#[103, 122]⟩, .string ⟨#[98, 114]⟩]) (.int .i64 2)).run Tryz.prog W = .ok (.string ⟨#[98, 114]⟩) W := by kernel_rfl

set_option maxRecDepth 100000 in
set_option maxHeartbeats 800000 in
theorem coding_named (s : ByteArray) (w : World) (h : Cds w) :
    Calls Tryz.prog 169 #[.string s] w fun e w' => e = .returned (CRet (codK s.data.toList)) ∧ w = w' := by
  obtain ⟨hz, h0, h1, h2⟩ := h
  have x0 := names_at0
  have x1 := names_at1
  have x2 := names_at2
  by_cases c0 : s.data.toList = nPlain
  · have b0 : ([112, 108, 97, 105, 110] == s.toList) = true := by rw [Lib.toList_data, c0]; rfl
    have hk : codK s.data.toList = (0, true) := if_pos c0
    have HK := Lib.hid hk
    clear c0 hk
    go_enter Tryz.func169, Tryz.ntmps169
    go_wp2
    go_loop [7] (fun i => i = .int .i64 0) (fun _ => 0)
    case atStart => rfl
    case round =>
      subst hrel
      go_wp2
      go_ret2
      exact ⟨by rw [HK.out]; rfl, rfl⟩
  · have b0 : ([112, 108, 97, 105, 110] == s.toList) = false := by rw [Lib.toList_data]; exact beq_eq_false_iff_ne.2 fun e => c0 e.symm
    by_cases c1 : s.data.toList = nGz
    · have b1 : ([103, 122] == s.toList) = true := by rw [Lib.toList_data, c1]; rfl
      have hk : codK s.data.toList = (1, true) := by unfold codK; rw [if_neg c0, if_pos c1]
      have HK := Lib.hid hk
      clear c0 c1 hk
      go_enter Tryz.func169, Tryz.ntmps169
      go_wp2
      go_loop [7] (fun i => i = .int .i64 0 ∨ i = .int .i64 1) (fun i => 2 - (intOf i).toNat)
      case atStart => exact .inl rfl
      case round =>
        rcases hrel with rfl | rfl
        · go_wp2
          go_round
          case rel => exact .inr rfl
          case measure => simp [intOf]
        · go_wp2
          go_ret2
          exact ⟨by rw [HK.out]; rfl, rfl⟩
    · have b1 : ([103, 122] == s.toList) = false := by rw [Lib.toList_data]; exact beq_eq_false_iff_ne.2 fun e => c1 e.symm
      by_cases c2 : s.data.toList = nBr
      · have b2 : ([98, 114] == s.toList) = true := by rw [Lib.toList_data, c2]; rfl
        have hk : codK s.data.toList = (2, true) := by unfold codK; rw [if_neg c0, if_neg c1, if_pos c2]
        have HK := Lib.hid hk
        clear c0 c1 c2 hk
        go_enter Tryz.func169, Tryz.ntmps169
        go_wp2
        go_loop [7] (fun i => i = .int .i64 0 ∨ i = .int .i64 1 ∨ i = .int .i64 2) (fun i => 2 - (intOf i).toNat)
        case atStart => exact .inl rfl
        case round =>
          rcases hrel with rfl | rfl | rfl
          · go_wp2
            go_round
            case rel => exact .inr (.inl rfl)
            case measure => simp [intOf]
          · go_wp2
            go_round
            case rel => exact .inr (.inr rfl)
            case measure => simp [intOf]
          · go_wp2
            go_ret2
            exact ⟨by rw [HK.out]; rfl, rfl⟩
      · have b2 : ([98, 114] == s.toList) = false := by rw [Lib.toList_data]; exact beq_eq_false_iff_ne.2 fun e => c2 e.symm
        have hk : codK s.data.toList = (0, false) := by unfold codK; rw [if_neg c0, if_neg c1, if_neg c2]
        have HK := Lib.hid hk
        clear c0 c1 c2 hk
        go_enter Tryz.func169, Tryz.ntmps169
        go_wp2
        go_loop [7] (fun i => i = .int .i64 0 ∨ i = .int .i64 1 ∨ i = .int .i64 2 ∨ i = .int .i64 3) (fun i => 3 - (intOf i).toNat)
        case atStart => exact .inl rfl
        case round =>
          rcases hrel with rfl | rfl | rfl | rfl
          · go_wp2
            go_round
            case rel => exact .inr (.inl rfl)
            case measure => simp [intOf]
          · go_wp2
            go_round
            case rel => exact .inr (.inr (.inl rfl))
            case measure => simp [intOf]
          · go_wp2
            go_round
            case rel => exact .inr (.inr (.inr rfl))
            case measure => simp [intOf]
          · go_wp2
            go_ret2
            exact ⟨by rw [HK.out]; rfl, rfl⟩

set_option maxHeartbeats 800000 in
theorem wanted_code (s : ByteArray) (w : World) (hs : s.size ≤ maxLen) (h : Cds w) (hc : Cls w) :
    Calls Tryz.prog 138 #[.string s] w fun e w' => e = .returned (CRet (codW s.data.toList)) ∧ Below w.heap.size w w' := by
  by_cases c0 : s.data.toList = [42]
  · have b0 : (s.toList == [42]) = true := by rw [Lib.toList_data, c0]; rfl
    have HK := Lib.hid (show codW s.data.toList = (-1, true) from if_pos c0)
    clear c0 h hc
    go_enter Tryz.func138, Tryz.ntmps138
    go_wp2
    go_ret2
    exact ⟨by rw [HK.out]; rfl, Below.refl _ _⟩
  · have b0 : (s.toList == [42]) = false := by rw [Lib.toList_data]; exact beq_eq_false_iff_ne.2 c0
    have HK := Lib.hid (show codW s.data.toList = codK (lowL s.data.toList) from if_neg c0)
    have HD := Lib.hid h
    have HL := Lib.hid (fun W (k : Cls W) => impl_lower s W hs k)
    clear c0 h
    go_enter Tryz.func138, Tryz.ntmps138
    go_wp2_with fail
    refine (HL.out _ hc).mono ?_
    rintro e w1 ⟨rfl, hb1⟩
    have hd1 := HD.out.below hb1 (Nat.le_refl _)
    have hN := coding_named ⟨(lowL s.data.toList).toArray⟩ w1 hd1
    unfold CRet at hN
    simp only at hN
    clear hd1
    generalize codK (lowL s.data.toList) = r at *
    obtain ⟨r1, r2⟩ := r
    have HN := Lib.hid hN
    clear hN
    simp only [strV]
    go_wp2_with fail
    refine HN.out.mono ?_
    rintro e w2 ⟨rfl, rfl⟩
    go_wp2
    go_ret2
    exact ⟨by rw [HK.out]; rfl, hb1⟩

theorem pre_q (l : List UInt8) : ([113, 61] : List UInt8).isPrefixOf l = decide (l.take 2 = [113, 61]) := by
  match l with
  | [] => rfl
  | [a] => simp [List.isPrefixOf]
  | a :: b :: l =>
    rw [Bool.eq_iff_iff]
    simp only [List.isPrefixOf, Bool.and_true, Bool.and_eq_true, beq_iff_eq, List.take_succ_cons, List.take_zero, decide_eq_true_eq, List.cons.injEq, and_true]
    exact ⟨fun h => ⟨h.1.symm, h.2.symm⟩, fun h => ⟨h.1.symm, h.2.symm⟩⟩

set_option maxHeartbeats 400000 in
theorem cut_prefix (s : ByteArray) (w : World) (hs : s.size ≤ maxLen) :
    Calls Tryz.prog 140 #[.string s, .string ⟨#[113, 61]⟩] w fun e w' => e = .returned (.tuple #[.string (if s.data.toList.take 2 = [113, 61] then ⟨(s.data.toList.drop 2).toArray⟩ else s), .bool (decide (s.data.toList.take 2 = [113, 61]))]) ∧ w = w' := by
  unfold maxLen at hs
  have hp : Lib.hasPrefix s.data.toList [113, 61] = decide (s.data.toList.take 2 = [113, 61]) := pre_q _
  have hP := fun W => Tryz.stringslite_HasPrefix s ⟨#[113, 61]⟩ W
  have e1 : (ByteArray.mk #[113, 61]).data.toList = [113, 61] := rfl
  rw [e1, hp] at hP
  have HP := Lib.hid hP
  clear hP hp
  by_cases c : s.data.toList.take 2 = [113, 61]
  · have h2 : 2 ≤ s.size := by
      have := congrArg List.length c
      rw [List.length_take] at this
      have e : ([113, 61] : List UInt8).length = 2 := rfl
      rw [size_len]; omega
    have hx := ext_drop s 2
    have HX := Lib.hid hx
    rw [if_pos c, decide_eq_true c]
    rw [decide_eq_true c] at HP
    clear c hx
    go_enter Tryz.func140, Tryz.ntmps140
    go_wp2_with (first | (go_at_call 188; refine (HP.out _).mono ?_; rintro e w1 ⟨rfl, rfl⟩) | go_in)
    go_ret2
    exact ⟨by rw [← HX.out]; rfl, rfl⟩
  · rw [if_neg c, decide_eq_false c]
    rw [decide_eq_false c] at HP
    clear c
    go_enter Tryz.func140, Tryz.ntmps140
    go_wp2_with (first | (go_at_call 188; refine (HP.out _).mono ?_; rintro e w1 ⟨rfl, rfl⟩) | go_in)
    go_ret2
    exact ⟨rfl, rfl⟩
end Go.Proofs.YtncegikmpapldaaGreatDoor

-- from XCodO
/- Walks: one thing that somebody would take, by the program. -/
namespace Go.Proofs.YtncegikmpapldaaGreatDoor
open Go.RowKit

theorem codOne_eq (l : List UInt8) : codOne l = if (codW (nameOf l)).2 = false then none
    else if (cutL l 59).2.2 = false then some ((codW (nameOf l)).1, 1000)
    else if (restOf l).take 2 = [113, 61] ∧ (codQ ((restOf l).drop 2)).2 = true then some ((codW (nameOf l)).1, ((codQ ((restOf l).drop 2)).1 : Int)) else none := by
  have h := codW_codN (nameOf l)
  have hg := codW_ge (nameOf l)
  unfold codOne
  by_cases c : (codW (nameOf l)).2 = true
  · rw [if_pos c] at h
    rw [h, if_neg (by omega), if_neg (show ¬ (codW (nameOf l)).2 = false from by rw [c]; decide)]
  · rw [if_neg c] at h
    rw [h, if_pos rfl, if_pos (by simpa using c)]

/-- What the reading of one thing returns. -/
def ORet (l : List UInt8) (e : Ending) : Prop := ∃ c q : Int, e = .returned (.tuple #[.agg #[.int .i64 c, .int .i64 q], .bool (codOne l).isSome]) ∧ ∀ x, codOne l = some x → x = (c, q)

theorem wt_facts {w : World} {b : Nat} {x y : Value} {T : TypeId} (h : w.heap[b]? = some (.cells #[x, y] T (0, 0))) : w.cell? ⟨b, 0, none⟩ = some x ∧ w.cell? ⟨b, 1, none⟩ = some y ∧ w.frozen? ⟨b, 0, none⟩ = false ∧ w.frozen? ⟨b, 1, none⟩ = false := by
  simp [World.cell?, World.frozen?, h]
theorem wt_set {w : World} {b : Nat} {x y : Value} {T : TypeId} (h : w.heap[b]? = some (.cells #[x, y] T (0, 0))) (x' y' : Value) : ((w.setCell ⟨b, 0, none⟩ x').setCell ⟨b, 1, none⟩ y').heap[b]? = some (.cells #[x', y'] T (0, 0)) := by
  have h1 := heap_setCell_same w b 0 _ _ x' h
  have h2 := heap_setCell_same _ b 1 _ _ y' h1
  simpa using h2
theorem wt_set1 {w : World} {b : Nat} {x y : Value} {T : TypeId} (h : w.heap[b]? = some (.cells #[x, y] T (0, 0))) (y' : Value) : (w.setCell ⟨b, 1, none⟩ y').heap[b]? = some (.cells #[x, y'] T (0, 0)) := by
  have h2 := heap_setCell_same _ b 1 _ _ y' h
  simpa using h2
theorem wt_below {w W : World} {b : Nat} (h : Below w.heap.size w W) (hb : w.heap.size ≤ b) (x y : Value) : Below w.heap.size w ((W.setCell ⟨b, 0, none⟩ x).setCell ⟨b, 1, none⟩ y) :=
  (h.setCell (by simpa using hb) x).setCell (by simpa using hb) y

set_option maxHeartbeats 1600000 in
theorem read_want (s : ByteArray) (w : World) (hs : s.size ≤ 1048576) (hd : Cds w) (hc : Cls w) (he : Errs w) :
    Calls Tryz.prog 105 #[.string s] w fun e w' => ORet s.data.toList e ∧ Below w.heap.size w w' := by
  have hO := codOne_eq s.data.toList
  have hcut := fun W => impl_cut s 59 W (by omega)
  obtain ⟨hl1, hl2⟩ := cutL_len s.data.toList 59
  have hsl := size_len s
  unfold nameOf restOf at hO
  generalize cutL s.data.toList 59 = C at *
  obtain ⟨A, R, B⟩ := C
  simp only at hO hcut hl1 hl2
  have hz1 : (ByteArray.mk A.toArray).size ≤ 1048576 := by rw [size_len]; simp only; omega
  have hz2 : (ByteArray.mk R.toArray).size ≤ 1048576 := by rw [size_len]; simp only; omega
  have hT1 := fun W => impl_trim ⟨A.toArray⟩ W (by omega)
  have hT2 := fun W => impl_trim ⟨R.toArray⟩ W (by omega)
  simp only at hT1 hT2
  have ht1 := trimB_len A 32
  have ht2 := trimB_len R 32
  generalize Lib.trimB A 32 = A' at *
  generalize Lib.trimB R 32 = R' at *
  have hz3 : (ByteArray.mk A'.toArray).size ≤ 1048576 := by rw [size_len]; simp only; omega
  have hz4 : (ByteArray.mk R'.toArray).size ≤ 1048576 := by rw [size_len]; simp only; omega
  have HX : Hid (∀ W, Below w.heap.size w W → Cds W ∧ Cls W ∧ Errs W) := Lib.hid fun W hW => ⟨hd.below hW (Nat.le_refl _), hc.below hW (Nat.le_refl _), he.below hW (Nat.le_refl _)⟩
  have hW := fun W (h1 : Cds W) (h2 : Cls W) => wanted_code ⟨A'.toArray⟩ W (by unfold maxLen; omega) h1 h2
  have hP := fun W => cut_prefix ⟨R'.toArray⟩ W (by unfold maxLen; omega)
  simp only at hW hP
  have hz5 : (ByteArray.mk (R'.drop 2).toArray).size ≤ 281474976710656 := by rw [size_len] at hz4 ⊢; simp only [List.length_drop] at hz4 ⊢; omega
  have hQ1 := fun W (h : Errs W) => impl_codq ⟨(R'.drop 2).toArray⟩ W hz5 h
  have hQ2 := fun W (h : Errs W) => impl_codq ⟨R'.toArray⟩ W (by omega) h
  unfold QEnd at hQ1 hQ2
  simp only at hQ1 hQ2
  unfold CRet at hW
  generalize codW A' = X at *
  obtain ⟨c, b⟩ := X
  simp only at hO hW
  generalize codQ (R'.drop 2) = Y at *
  obtain ⟨q, k⟩ := Y
  generalize codQ R' = Z at *
  obtain ⟨q2, k2⟩ := Z
  simp only at hO hQ1 hQ2
  have HC := Lib.hid hcut; have HT1 := Lib.hid hT1; have HT2 := Lib.hid hT2; have HW := Lib.hid hW; have HP := Lib.hid hP; have HQ1 := Lib.hid hQ1; have HQ2 := Lib.hid hQ2
  clear hcut hT1 hT2 hW hP hQ1 hQ2 hl1 hl2 ht1 ht2 hsl hd hc he hz1 hz2 hz3 hz4 hz5
  obtain ⟨wA, hwA⟩ : ∃ wA, wA = w.alloc (.cells #[.int .i64 0, .int .i64 0] 127) := ⟨_, rfl⟩
  have hsA : wA.heap.size = w.heap.size + 1 := by rw [hwA]; simp
  have hX0 : wA.heap[w.heap.size]? = some (.cells #[.int .i64 0, .int .i64 0] 127 (0, 0)) := by rw [hwA]; exact heap_alloc_new w _
  have HB0 : Hid (∀ W, Below wA.heap.size wA W → W.heap[w.heap.size]? = some (.cells #[.int .i64 0, .int .i64 0] 127 (0, 0))) := Lib.hid fun W hW => (hW.block w.heap.size (by omega)).trans hX0
  have HA : Hid (∀ W, Below wA.heap.size wA W → Below w.heap.size w W) := Lib.hid fun W hW => by
    have hb0 : Below w.heap.size w wA := by rw [hwA]; exact (Below.refl _ _).alloc (Nat.le_refl _) _
    exact hb0.trans (hW.mono (by omega))
  have HWA := Lib.hid hwA
  clear hwA hX0
  go_enter Tryz.func105, Tryz.ntmps105
  go_wp2_with fail
  rw [← HWA.out]
  refine (HC.out _).mono ?_
  rintro e w1 ⟨rfl, hb1⟩
  go_wp2_with fail
  refine (HT1.out _).mono ?_
  rintro e w2 ⟨rfl, hb2⟩
  have hb02 := hb1.trans (hb2.mono hb1.size)
  obtain ⟨k1, k2, _⟩ := HX.out _ (HA.out _ hb02)
  have hWw := HW.out w2 k1 k2
  clear k1 k2 hb1 hb2
  simp only [strV]
  go_wp2_with fail
  refine hWw.mono ?_
  rintro e w3 ⟨rfl, hb3⟩
  have hb03 := hb02.trans (hb3.mono hb02.size)
  clear hb02 hb3 hWw
  cases b
  · rw [if_pos rfl] at hO
    have r0 := HB0.out _ hb03
    obtain ⟨q0, q1, f0, f1⟩ := wt_facts r0
    obtain ⟨z0, z1, _, _⟩ := wt_facts (wt_set r0 (.int .i64 0) (.int .i64 0))
    have HZ := Lib.hid (And.intro z0 z1)
    have HF := Lib.hid (wt_below (b := w.heap.size) (HA.out _ hb03) (Nat.le_refl _) (.int .i64 0) (.int .i64 0))
    have HR := Lib.hid (show (codOne s.data.toList).isSome = false from by rw [hO]; rfl)
    have HR2 := Lib.hid (show ∀ x, codOne s.data.toList = some x → x = (0, 0) from fun x hx => by rw [hO] at hx; cases hx)
    clear z0 z1 r0
    go_wp2
    obtain ⟨z0, z1⟩ := HZ.out
    refine bodyPost_ret (v := .tuple #[.agg #[.int .i64 0, .int .i64 0], .bool false]) (by simp [results, Tryz.results105, go_sem, z0, z1]) rfl ?_
    exact ⟨⟨_, _, by rw [HR.out], HR2.out⟩, HF.out⟩
  · rw [if_neg (by decide)] at hO
    cases B
    · rw [if_pos rfl] at hO
      have r0 := HB0.out _ hb03
      obtain ⟨q0, q1, f0, f1⟩ := wt_facts r0
      obtain ⟨z0, z1, _, _⟩ := wt_facts (wt_set r0 (.int .i64 c) (.int .i64 1000))
      have HZ := Lib.hid (And.intro z0 z1)
      have HF := Lib.hid (wt_below (b := w.heap.size) (HA.out _ hb03) (Nat.le_refl _) (.int .i64 c) (.int .i64 1000))
      have HR := Lib.hid (show (codOne s.data.toList).isSome = true from by rw [hO]; rfl)
      have HR2 := Lib.hid (show ∀ x, codOne s.data.toList = some x → x = (c, 1000) from fun x hx => by rw [hO] at hx; injection hx with hx; exact hx.symm)
      clear z0 z1 r0
      go_wp2
      obtain ⟨z0, z1⟩ := HZ.out
      refine bodyPost_ret (v := .tuple #[.agg #[.int .i64 c, .int .i64 1000], .bool true]) (by simp [results, Tryz.results105, go_sem, z0, z1]) rfl ?_
      exact ⟨⟨_, _, by rw [HR.out], HR2.out⟩, HF.out⟩
    · rw [if_neg (by decide)] at hO
      go_wp2_with fail
      refine (HT2.out _).mono ?_
      rintro e w4 ⟨rfl, hb4⟩
      have hb04 := hb03.trans (hb4.mono hb03.size)
      clear hb03 hb4
      simp only [strV]
      go_wp2_with fail
      refine (HP.out _).mono ?_
      rintro e w5 ⟨rfl, rfl⟩
      obtain ⟨_, _, k3⟩ := HX.out _ (HA.out _ hb04)
      by_cases t : R'.take 2 = [113, 61]
      · rw [if_pos t, decide_eq_true t]
        have hQ := HQ1.out _ k3
        have hO2 : codOne s.data.toList = if k = true then some (c, (q : Int)) else none := by
          rw [hO]
          by_cases hk : k = true
          · rw [if_pos ⟨t, hk⟩, if_pos hk]
          · rw [if_neg (fun h => hk h.2), if_neg hk]
        clear t k3 hO
        go_wp2_with fail
        refine hQ.mono ?_
        rintro e w6 ⟨rfl, hb6⟩
        have hb06 := hb04.trans (hb6.mono hb04.size)
        clear hb04 hb6 hQ
        cases k
        · rw [if_neg (by decide)] at hO2
          have r0 := HB0.out _ hb06
          obtain ⟨q0, q1, f0, f1⟩ := wt_facts r0
          obtain ⟨z0, z1, _, _⟩ := wt_facts (wt_set r0 (.int .i64 c) (.int .i64 (q : Int)))
          have HZ := Lib.hid (And.intro z0 z1)
          have HF := Lib.hid (wt_below (b := w.heap.size) (HA.out _ hb06) (Nat.le_refl _) (.int .i64 c) (.int .i64 (q : Int)))
          have HR := Lib.hid (show (codOne s.data.toList).isSome = false from by rw [hO2]; rfl)
          have HR2 := Lib.hid (show ∀ x, codOne s.data.toList = some x → x = (c, (q : Int)) from fun x hx => by rw [hO2] at hx; cases hx)
          clear z0 z1 r0
          go_wp2
          obtain ⟨z0, z1⟩ := HZ.out
          refine bodyPost_ret (v := .tuple #[.agg #[.int .i64 c, .int .i64 (q : Int)], .bool false]) (by simp [results, Tryz.results105, go_sem, z0, z1]) rfl ?_
          exact ⟨⟨_, _, by rw [HR.out], HR2.out⟩, HF.out⟩
        · rw [if_pos rfl] at hO2
          have r0 := HB0.out _ hb06
          obtain ⟨q0, q1, f0, f1⟩ := wt_facts r0
          obtain ⟨z0, z1, _, _⟩ := wt_facts (wt_set r0 (.int .i64 c) (.int .i64 (q : Int)))
          have HZ := Lib.hid (And.intro z0 z1)
          have HF := Lib.hid (wt_below (b := w.heap.size) (HA.out _ hb06) (Nat.le_refl _) (.int .i64 c) (.int .i64 (q : Int)))
          have HR := Lib.hid (show (codOne s.data.toList).isSome = true from by rw [hO2]; rfl)
          have HR2 := Lib.hid (show ∀ x, codOne s.data.toList = some x → x = (c, (q : Int)) from fun x hx => by rw [hO2] at hx; injection hx with hx; exact hx.symm)
          clear z0 z1 r0
          go_wp2
          obtain ⟨z0, z1⟩ := HZ.out
          refine bodyPost_ret (v := .tuple #[.agg #[.int .i64 c, .int .i64 (q : Int)], .bool true]) (by simp [results, Tryz.results105, go_sem, z0, z1]) rfl ?_
          exact ⟨⟨_, _, by rw [HR.out], HR2.out⟩, HF.out⟩
      · rw [if_neg t, decide_eq_false t]
        have hQ := HQ2.out _ k3
        have hO2 : codOne s.data.toList = none := by
          rw [hO, if_neg (fun h => t h.1)]
        clear t k3 hO
        go_wp2_with fail
        refine hQ.mono ?_
        rintro e w6 ⟨rfl, hb6⟩
        have hb06 := hb04.trans (hb6.mono hb04.size)
        clear hb04 hb6 hQ
        have r0 := HB0.out _ hb06
        obtain ⟨q0, q1, f0, f1⟩ := wt_facts r0
        obtain ⟨z0, z1, _, _⟩ := wt_facts (wt_set r0 (.int .i64 c) (.int .i64 (q2 : Int)))
        have HZ := Lib.hid (And.intro z0 z1)
        have HF := Lib.hid (wt_below (b := w.heap.size) (HA.out _ hb06) (Nat.le_refl _) (.int .i64 c) (.int .i64 (q2 : Int)))
        have HR := Lib.hid (show (codOne s.data.toList).isSome = false from by rw [hO2]; rfl)
        have HR2 := Lib.hid (show ∀ x, codOne s.data.toList = some x → x = (c, (q2 : Int)) from fun x hx => by rw [hO2] at hx; cases hx)
        clear z0 z1 r0
        go_wp2
        obtain ⟨z0, z1⟩ := HZ.out
        refine bodyPost_ret (v := .tuple #[.agg #[.int .i64 c, .int .i64 (q2 : Int)], .bool false]) (by simp [results, Tryz.results105, go_sem, z0, z1]) rfl ?_
        exact ⟨⟨_, _, by rw [HR.out], HR2.out⟩, HF.out⟩
end Go.Proofs.YtncegikmpapldaaGreatDoor

-- from XMaskI
/- Walks: the set of what would be taken, by the program. -/
namespace Go.Proofs.YtncegikmpapldaaGreatDoor
open Go.RowKit Go.Maps

set_option maxHeartbeats 1600000 in
theorem last_quality (v : Value) (ws : List Wt) (c o : Int) (w : World) (hF : WRow w v ws) :
    Calls Tryz.prog 143 #[v, .int .i64 c, .int .i64 o] w fun e w' => e = .returned (.int .i64 (lastQ ws c o)) ∧ Below w.heap.size w w' := by
  obtain ⟨a, cap, rfl, h1, h2, h3⟩ := hF
  unfold maxLen at h2
  have H3 := Lib.hid h3; clear h3
  go_enter Tryz.func143, Tryz.ntmps143
  go_wp2
  go_loopw [7, 13] (fun q i wr => ∃ k : Nat, k ≤ ws.length ∧ i = .int .i64 k ∧ q = .int .i64 (lastQ (ws.take k) c o) ∧ Below w.heap.size w wr) (fun _ i _ => ws.length - (intOf i).toNat)
  case atStart => exact ⟨0, Nat.zero_le _, rfl, rfl, Below.refl _ _⟩
  case round =>
    obtain ⟨k, hk, rfl, rfl, hb⟩ := hrel
    by_cases hlt : k < ws.length
    · obtain ⟨b1, o1, rfl, hb1, c1, c2⟩ := H3.out k ws[k] (List.getElem?_eq_getElem hlt)
      obtain ⟨f, hf⟩ : ∃ f, f = ws[k] := ⟨_, rfl⟩
      rw [← hf] at c1 c2
      have hfk : ws[k]? = some f := by rw [hf]; exact List.getElem?_eq_getElem hlt
      clear hf
      have k1 := (hb.cell (p := ⟨b1, o1 + k * 2, none⟩) hb1).trans c1
      have k2 := (hb.cell (p := ⟨b1, o1 + k * 2 + 1, none⟩) hb1).trans c2
      have hst := lastQ_take hfk c o
      obtain ⟨x, y⟩ := f
      simp only at k1 k2 hst
      have HB := Lib.hid hb
      have hbn := Lib.hid (hb.alloc hb.size (.cells #[.int .i64 x, .int .i64 y] 127))
      clear c1 c2 hfk hb
      by_cases he : x = c
      · rw [if_pos he] at hst
        have HS := Lib.hid hst
        have hxe : (x == c) = true := beq_iff_eq.2 he
        clear hst he
        go_wp2
        go_roundw
        case rel => exact ⟨k + 1, by omega, by go_num, by rw [HS.out], hbn.out⟩
        case measure => simp [intOf]; omega
      · rw [if_neg he] at hst
        have HS := Lib.hid hst
        have hxe : (x == c) = false := beq_eq_false_iff_ne.2 he
        clear hst he
        go_wp2
        go_roundw
        case rel => exact ⟨k + 1, by omega, by go_num, by rw [HS.out], hbn.out⟩
        case measure => simp [intOf]; omega
    · have hkn : k = ws.length := by omega
      subst hkn
      have HQ := Lib.hid (show lastQ (ws.take ws.length) c o = lastQ ws c o from by rw [List.take_length])
      go_wp2
      go_ret
      exact ⟨by rw [← HQ.out]; rfl, hb⟩

theorem eqs_at (xs : List Value) (i : Nat) (v : Value) (w w' : World) (h : RAt (xs.map REq) i v w) : RAt (xs.map REq) i v w' := by
  unfold RAt at h ⊢
  rw [List.getD_eq_getElem?_getD, List.getElem?_map] at h ⊢
  cases hx : xs[i]? with
  | none => trivial
  | some x => rw [hx] at h; exact h

set_option maxRecDepth 100000 in
set_option maxHeartbeats 3200000 in
theorem quality_of (b : Nat) (T : TypeId) (v : Value) (ws : List Wt) (c : Int) (w : World) (hF : WRow w v ws) (hbx : w.heap[b]? = some (.cells #[v] T (0, 0))) :
    Calls Tryz.prog 142 #[.int .i64 c, .pointer (some ⟨b, 0, none⟩)] w fun e w' => e = .returned (.int .i64 (qual ws c)) ∧ Below w.heap.size w w' := by
  have hblt : b < w.heap.size := (Array.getElem?_eq_some_iff.1 hbx).1
  have hX : ∀ W, Below w.heap.size w W → WRow W v ws ∧ W.cell? ⟨b, 0, none⟩ = some v := fun W hW => ⟨hF.below (Nat.le_refl _) hW, by
    have : W.heap[b]? = some (.cells #[v] T (0, 0)) := (hW.block b hblt).trans hbx
    simp [World.cell?, this]⟩
  have HX := Lib.hid hX
  have hc0 := (hX w (Below.refl _ _)).2
  clear hX hbx
  have HL : Hid (∀ (c o : Int) W, Below w.heap.size w W → Calls Tryz.prog 143 #[v, .int .i64 c, .int .i64 o] W fun e w' => e = .returned (.int .i64 (lastQ ws c o)) ∧ Below W.heap.size W w') := Lib.hid fun c o W hW => last_quality v ws c o W (HX.out W hW).1
  obtain ⟨va, vc, rfl, _⟩ := hF
  by_cases h0 : c = 0
  · have HQ := Lib.hid (show lastQ ws c (lastQ ws (-1) 1000) = qual ws c from by unfold qual; rw [if_pos h0])
    have hce : (c == 0) = true := beq_iff_eq.2 h0
    have H1 := Lib.hid (fun W (h : Below w.heap.size w W) => HL.out (-1) 1000 W h)
    have H2 := Lib.hid (fun W (h : Below w.heap.size w W) => HL.out c (lastQ ws (-1) 1000) W h)
    rw [HQ.out] at H2
    generalize lastQ ws (-1) 1000 = X at *
    generalize qual ws c = Y at *
    clear h0 HL HQ
    go_enter Tryz.func142, Tryz.ntmps142
    go_wp2_with fail
    refine wp_region_last (by kernel_rfl) 6 (by kernel_rfl) (by kernel_rfl) (by kernel_rfl)
      (fun u => { tmps := #[.int .i64 c, .pointer (some ⟨b, 0, none⟩), undef, .int .i64 0, .int .i64 1000, .int .i64 c, .bool true, u 0, u 1, u 2, u 3, u 4, u 5], defers := [] })
      (fun _ W => Below w.heap.size w W)
      (RAt ([.slice va ws.length vc, .int .i64 c, .slice va ws.length vc, .int .i64 1000, .int .i64 X, .int .i64 Y].map REq))
      (fun w w' => Below w.heap.size w w') (fun _ => undef) (Below.refl _ _).drew
      (fun i x wa wb _ hR _ => eqs_at _ i x wa wb hR) ?_ ?_
    · intro i hi u w1 kk hkk hC hd
      have hcw := (HX.out w1 hC).2
      match i, hi with
      | 0, _ =>
        refine wpOp_step rfl (fun K hK => ?_)
        clear hd
        go_simp
        exact hK _ _ ⟨_, rfl, rfl, Below.refl _ _, hC⟩
      | 1, _ =>
        refine wpOp_step rfl (fun K hK => ?_)
        clear hd
        go_simp
        exact hK _ _ ⟨_, rfl, rfl, Below.refl _ _, hC⟩
      | 2, _ =>
        refine wpOp_step rfl (fun K hK => ?_)
        clear hd
        go_simp
        exact hK _ _ ⟨_, rfl, rfl, Below.refl _ _, hC⟩
      | 3, _ =>
        refine wpOp_step rfl (fun K hK => ?_)
        clear hd
        go_simp
        exact hK _ _ ⟨_, rfl, rfl, Below.refl _ _, hC⟩
      | 4, _ =>
        have e2 : u 2 = .slice va ws.length vc := hd 2 (dep_of (by kernel_rfl))
        have e3 : u 3 = .int .i64 1000 := hd 3 (dep_of (by kernel_rfl))
        have hK1 := H1.out w1 hC
        refine wpOp_step rfl (fun K hK => ?_)
        clear hd
        go_simp
        refine hK1.mono ?_
        rintro e w2 ⟨rfl, hb2⟩
        exact hK _ _ ⟨_, by simp [upd, e2, e3], rfl, hb2, hC.trans (hb2.mono hC.size)⟩
      | 5, _ =>
        have e0 : u 0 = .slice va ws.length vc := hd 0 (dep_of (by kernel_rfl))
        have e1 : u 1 = .int .i64 c := hd 1 (dep_of (by kernel_rfl))
        have e4 : u 4 = .int .i64 X := hd 4 (dep_of (by kernel_rfl))
        have hK1 := H2.out w1 hC
        refine wpOp_step rfl (fun K hK => ?_)
        clear hd
        go_simp
        refine hK1.mono ?_
        rintro e w2 ⟨rfl, hb2⟩
        exact hK _ _ ⟨_, by simp [upd, e0, e1, e4], rfl, hb2, hC.trans (hb2.mono hC.size)⟩
    · intro u w1 kk hkk hC hd
      have e5 : u 5 = .int .i64 Y := hd 5 (by decide)
      have HB := Lib.hid hC
      refine wpOp_step rfl (fun K hK => ?_)
      clear hd
      go_simp
      refine hK _ _ ?_
      clear hK K hC
      go_wp2
      go_ret
      exact ⟨rfl, HB.out⟩
  · have HQ := Lib.hid (show lastQ ws c (lastQ ws (-1) 0) = qual ws c from by unfold qual; rw [if_neg h0])
    have hce : (c == 0) = false := beq_eq_false_iff_ne.2 h0
    have H1 := Lib.hid (fun W (h : Below w.heap.size w W) => HL.out (-1) 0 W h)
    have H2 := Lib.hid (fun W (h : Below w.heap.size w W) => HL.out c (lastQ ws (-1) 0) W h)
    rw [HQ.out] at H2
    generalize lastQ ws (-1) 0 = X at *
    generalize qual ws c = Y at *
    clear h0 HL HQ
    go_enter Tryz.func142, Tryz.ntmps142
    go_wp2_with fail
    refine wp_region_last (by kernel_rfl) 6 (by kernel_rfl) (by kernel_rfl) (by kernel_rfl)
      (fun u => { tmps := #[.int .i64 c, .pointer (some ⟨b, 0, none⟩), undef, .int .i64 0, .int .i64 0, .int .i64 c, .bool false, u 0, u 1, u 2, u 3, u 4, u 5], defers := [] })
      (fun _ W => Below w.heap.size w W)
      (RAt ([.slice va ws.length vc, .int .i64 c, .slice va ws.length vc, .int .i64 0, .int .i64 X, .int .i64 Y].map REq))
      (fun w w' => Below w.heap.size w w') (fun _ => undef) (Below.refl _ _).drew
      (fun i x wa wb _ hR _ => eqs_at _ i x wa wb hR) ?_ ?_
    · intro i hi u w1 kk hkk hC hd
      have hcw := (HX.out w1 hC).2
      match i, hi with
      | 0, _ =>
        refine wpOp_step rfl (fun K hK => ?_)
        clear hd
        go_simp
        exact hK _ _ ⟨_, rfl, rfl, Below.refl _ _, hC⟩
      | 1, _ =>
        refine wpOp_step rfl (fun K hK => ?_)
        clear hd
        go_simp
        exact hK _ _ ⟨_, rfl, rfl, Below.refl _ _, hC⟩
      | 2, _ =>
        refine wpOp_step rfl (fun K hK => ?_)
        clear hd
        go_simp
        exact hK _ _ ⟨_, rfl, rfl, Below.refl _ _, hC⟩
      | 3, _ =>
        refine wpOp_step rfl (fun K hK => ?_)
        clear hd
        go_simp
        exact hK _ _ ⟨_, rfl, rfl, Below.refl _ _, hC⟩
      | 4, _ =>
        have e2 : u 2 = .slice va ws.length vc := hd 2 (dep_of (by kernel_rfl))
        have e3 : u 3 = .int .i64 0 := hd 3 (dep_of (by kernel_rfl))
        have hK1 := H1.out w1 hC
        refine wpOp_step rfl (fun K hK => ?_)
        clear hd
        go_simp
        refine hK1.mono ?_
        rintro e w2 ⟨rfl, hb2⟩
        exact hK _ _ ⟨_, by simp [upd, e2, e3], rfl, hb2, hC.trans (hb2.mono hC.size)⟩
      | 5, _ =>
        have e0 : u 0 = .slice va ws.length vc := hd 0 (dep_of (by kernel_rfl))
        have e1 : u 1 = .int .i64 c := hd 1 (dep_of (by kernel_rfl))
        have e4 : u 4 = .int .i64 X := hd 4 (dep_of (by kernel_rfl))
        have hK1 := H2.out w1 hC
        refine wpOp_step rfl (fun K hK => ?_)
        clear hd
        go_simp
        refine hK1.mono ?_
        rintro e w2 ⟨rfl, hb2⟩
        exact hK _ _ ⟨_, by simp [upd, e0, e1, e4], rfl, hb2, hC.trans (hb2.mono hC.size)⟩
    · intro u w1 kk hkk hC hd
      have e5 : u 5 = .int .i64 Y := hd 5 (by decide)
      have HB := Lib.hid hC
      refine wpOp_step rfl (fun K hK => ?_)
      clear hd
      go_simp
      refine hK _ _ ?_
      clear hK K hC
      go_wp2
      go_ret
      exact ⟨rfl, HB.out⟩

theorem or_bits : ∀ m : Fin 8, (m.val < 1 → bits .or .i64 (m.val : Int) 1 = (m.val : Int) + 1) ∧ (m.val < 2 → bits .or .i64 (m.val : Int) 2 = (m.val : Int) + 2) ∧ (m.val < 4 → bits .or .i64 (m.val : Int) 4 = (m.val : Int) + 4) := by decide

set_option maxHeartbeats 800000 in
theorem with_code (m : Nat) (k : Nat) (hk : k < 3) (hm : m < 2 ^ k) (w : World) :
    Calls Tryz.prog 107 #[.int .i64 (m : Int), .int .i64 (k : Int)] w fun e w' => e = .returned (.int .i64 ((m + 2 ^ k : Nat) : Int)) ∧ w = w' := by
  have h3 : k = 0 ∨ k = 1 ∨ k = 2 := by omega
  have hm8 : m < 8 := by rcases h3 with rfl | rfl | rfl <;> simp at hm <;> omega
  obtain ⟨o1, o2, o4⟩ := or_bits ⟨m, hm8⟩
  simp only at o1 o2 o4
  rcases h3 with rfl | rfl | rfl
  · have o := o1 (by simpa using hm)
    clear o1 o2 o4
    go_enter Tryz.func107, Tryz.ntmps107
    go_wp2
    go_ret
    exact ⟨by simp, rfl⟩
  · have o := o2 (by simpa using hm)
    clear o1 o2 o4
    go_enter Tryz.func107, Tryz.ntmps107
    go_wp2
    go_ret
    exact ⟨by simp, rfl⟩
  · have o := o4 (by simpa using hm)
    clear o1 o2 o4
    go_enter Tryz.func107, Tryz.ntmps107
    go_wp2
    go_ret
    exact ⟨by simp, rfl⟩

set_option maxHeartbeats 400000 in
theorem qualities_of (a : Option Addr) (n c : Nat) (w : World) :
    Calls Tryz.prog 106 #[.slice a n c] w fun e w' => e = .returned (.func (.func 142) #[] #[.pointer (some ⟨w.heap.size, 0, none⟩)]) ∧ w' = w.alloc (.cells #[.slice a n c] 85) := by
  go_enter Tryz.func106, Tryz.ntmps106
  go_wp2
  go_ret
  exact ⟨rfl, rfl⟩

set_option maxHeartbeats 1600000 in
theorem impl_mask (v : Value) (ws : List Wt) (w : World) (hF : WRow w v ws) :
    Calls Tryz.prog 56 #[v] w fun e w' => e = .returned (.int .i64 (maskL ws : Int)) ∧ Below w.heap.size w w' := by
  have HM := Lib.hid (maskTo_all ws)
  obtain ⟨va, vc, rfl⟩ : ∃ va vc, v = .slice va ws.length vc := by
    obtain ⟨va, vc, e, _⟩ := hF
    exact ⟨va, vc, e⟩
  go_enter Tryz.func56, Tryz.ntmps56
  go_wp2_with fail
  refine (qualities_of va ws.length vc _).mono ?_
  rintro e w1 ⟨rfl, rfl⟩
  have hb1 : Below w.heap.size w (w.alloc (.cells #[.slice va ws.length vc] 85)) := (Below.refl _ _).alloc (Nat.le_refl _) _
  have hX1 : (w.alloc (.cells #[.slice va ws.length vc] 85)).heap[w.heap.size]? = some (.cells #[.slice va ws.length vc] 85 (0, 0)) := heap_alloc_new w _
  have hs1 : (w.alloc (.cells #[.slice va ws.length vc] 85)).heap.size = w.heap.size + 1 := by simp
  have HF := Lib.hid (hF.below (Nat.le_refl _) hb1)
  clear hF
  generalize (w.alloc (.cells #[.slice va ws.length vc] 85)) = w1 at *
  have HQ : Hid (∀ (c : Int) W, Below w1.heap.size w1 W → Calls Tryz.prog 142 #[.int .i64 c, .pointer (some ⟨w.heap.size, 0, none⟩)] W fun e w' => e = .returned (.int .i64 (qual ws c)) ∧ Below W.heap.size W w') := Lib.hid fun c W hW =>
    quality_of w.heap.size 85 (.slice va ws.length vc) ws c W (HF.out.below (Nat.le_refl _) hW) ((hW.block w.heap.size (by omega)).trans hX1)
  have HB1 := Lib.hid hb1
  clear hb1 hX1
  go_wp2
  go_loopw [4, 8] (fun m i wr => ∃ k : Nat, k ≤ 3 ∧ i = .int .i64 k ∧ m = .int .i64 (maskTo ws k : Int) ∧ Below w1.heap.size w1 wr) (fun _ i _ => 3 - (intOf i).toNat)
  case atStart => exact ⟨0, by omega, rfl, by rw [maskTo_zero]; rfl, Below.refl _ _⟩
  case round =>
    obtain ⟨k, hk, rfl, rfl, hb⟩ := hrel
    by_cases hlt : k < 3
    · have hst := maskTo_step ws k hlt
      have hmt := maskTo_lt ws k hk
      have hC := HQ.out (k : Int) wr hb
      have hW := fun W => with_code (maskTo ws k) k hlt hmt W
      generalize maskTo ws k = M at *
      generalize qual ws (k : Int) = Y at *
      have HST := Lib.hid hst; have HC := Lib.hid hC; have HW := Lib.hid hW
      clear hst hC hW hmt
      have hk3 : (k : Int) < 3 := by omega
      by_cases hY : 0 < Y
      · go_wp2_with fail
        refine HC.out.mono ?_
        rintro e w2 ⟨rfl, hb2⟩
        have hb02 := Lib.hid (hb.trans (hb2.mono hb.size))
        go_wp2_with fail
        refine (HW.out _).mono ?_
        rintro e w3 ⟨rfl, rfl⟩
        have hst := HST.out
        rw [if_pos hY] at hst
        have HM1 := Lib.hid hst
        clear hst
        go_wp2
        go_roundw
        case rel => exact ⟨k + 1, by omega, by go_num, by rw [HM1.out]; simp, hb02.out⟩
        case measure => simp [intOf]; omega
      · go_wp2_with fail
        refine HC.out.mono ?_
        rintro e w2 ⟨rfl, hb2⟩
        have hb02 := Lib.hid (hb.trans (hb2.mono hb.size))
        have hst := HST.out
        rw [if_neg (by omega)] at hst
        have HM1 := Lib.hid hst
        clear hst
        go_wp2
        go_roundw
        case rel => exact ⟨k + 1, by omega, by go_num, by rw [HM1.out]; rfl, hb02.out⟩
        case measure => simp [intOf]; omega
    · have hkn : k = 3 := by omega
      subst hkn
      rw [HM.out]
      have HBF := Lib.hid (HB1.out.trans (hb.mono (by omega)))
      go_wp2
      go_ret
      exact ⟨rfl, HBF.out⟩
end Go.Proofs.YtncegikmpapldaaGreatDoor

-- from XCodS
/- Walks: one thing that somebody would take, by the specification. -/
namespace Go.Proofs.YtncegikmpapldaaGreatDoor
open Go.RowKit

set_option maxHeartbeats 1600000 in
theorem l6_code (s : ByteArray) (w : World) :
    Calls Tryz.prog 166 #[.string s] w fun e w' => e = .returned (.int .i64 (codN s.data.toList)) ∧ Below w.heap.size w w' := by
  by_cases cs : s.data.toList = [42]
  · have b0 : (s.toList == [42]) = true := by rw [Lib.toList_data, cs]; rfl
    have HK := Lib.hid (show codN s.data.toList = -1 from if_pos cs)
    clear cs
    go_enter Tryz.func166, Tryz.ntmps166
    go_wp2
    go_ret
    exact ⟨by rw [HK.out]; rfl, Below.refl _ _⟩
  have b9 : (s.toList == [42]) = false := by rw [Lib.toList_data]; exact beq_eq_false_iff_ne.2 cs
  obtain ⟨wA, hwA⟩ : ∃ wA, wA = w.alloc (.cells #[.string ⟨#[112, 108, 97, 105, 110]⟩, .string ⟨#[103, 122]⟩, .string ⟨#[98, 114]⟩] 9) := ⟨_, rfl⟩
  have hN := l6_names w
  rw [← hwA] at hN
  have q0 : wA.cell? ⟨w.heap.size, 0, none⟩ = some (.string ⟨#[112, 108, 97, 105, 110]⟩) := by rw [hwA]; exact World.cell?_alloc_at _ _ _ _ rfl
  have q1 : wA.cell? ⟨w.heap.size, 1, none⟩ = some (.string ⟨#[103, 122]⟩) := by rw [hwA]; exact World.cell?_alloc_at _ _ _ _ rfl
  have q2 : wA.cell? ⟨w.heap.size, 2, none⟩ = some (.string ⟨#[98, 114]⟩) := by rw [hwA]; exact World.cell?_alloc_at _ _ _ _ rfl
  have hb : Below w.heap.size w wA := by rw [hwA]; exact (Below.refl _ _).alloc (Nat.le_refl _) _
  have HB := Lib.hid hb; have HN := Lib.hid hN
  clear hb hN hwA
  by_cases c0 : s.data.toList = nPlain
  · have b0 : ([112, 108, 97, 105, 110] == s.toList) = true := by rw [Lib.toList_data, c0]; rfl
    have HK := Lib.hid (show codN s.data.toList = 0 from by unfold codN; rw [if_neg cs, if_pos c0])
    clear cs c0
    go_enter Tryz.func166, Tryz.ntmps166
    go_wp2_with fail
    refine HN.out.mono ?_
    rintro e w1 ⟨rfl, rfl⟩
    go_wp2
    go_loop [4] (fun i => i = .int .i64 0) (fun _ => 0)
    case atStart => rfl
    case round =>
      subst hrel
      go_wp2
      go_ret
      exact ⟨by rw [HK.out]; rfl, HB.out⟩
  have b0 : ([112, 108, 97, 105, 110] == s.toList) = false := by rw [Lib.toList_data]; exact beq_eq_false_iff_ne.2 fun e => c0 e.symm
  by_cases c1 : s.data.toList = nGz
  · have b1 : ([103, 122] == s.toList) = true := by rw [Lib.toList_data, c1]; rfl
    have HK := Lib.hid (show codN s.data.toList = 1 from by unfold codN; rw [if_neg cs, if_neg c0, if_pos c1])
    clear cs c0 c1
    go_enter Tryz.func166, Tryz.ntmps166
    go_wp2_with fail
    refine HN.out.mono ?_
    rintro e w1 ⟨rfl, rfl⟩
    go_wp2
    go_loop [4] (fun i => i = .int .i64 0 ∨ i = .int .i64 1) (fun i => 2 - (intOf i).toNat)
    case atStart => exact .inl rfl
    case round =>
      rcases hrel with rfl | rfl
      · go_wp2
        go_round
        case rel => exact .inr rfl
        case measure => simp [intOf]
      · go_wp2
        go_ret
        exact ⟨by rw [HK.out]; rfl, HB.out⟩
  have b1 : ([103, 122] == s.toList) = false := by rw [Lib.toList_data]; exact beq_eq_false_iff_ne.2 fun e => c1 e.symm
  by_cases c2 : s.data.toList = nBr
  · have b2 : ([98, 114] == s.toList) = true := by rw [Lib.toList_data, c2]; rfl
    have HK := Lib.hid (show codN s.data.toList = 2 from by unfold codN; rw [if_neg cs, if_neg c0, if_neg c1, if_pos c2])
    clear cs c0 c1 c2
    go_enter Tryz.func166, Tryz.ntmps166
    go_wp2_with fail
    refine HN.out.mono ?_
    rintro e w1 ⟨rfl, rfl⟩
    go_wp2
    go_loop [4] (fun i => i = .int .i64 0 ∨ i = .int .i64 1 ∨ i = .int .i64 2) (fun i => 2 - (intOf i).toNat)
    case atStart => exact .inl rfl
    case round =>
      rcases hrel with rfl | rfl | rfl
      · go_wp2
        go_round
        case rel => exact .inr (.inl rfl)
        case measure => simp [intOf]
      · go_wp2
        go_round
        case rel => exact .inr (.inr rfl)
        case measure => simp [intOf]
      · go_wp2
        go_ret
        exact ⟨by rw [HK.out]; rfl, HB.out⟩
  have b2 : ([98, 114] == s.toList) = false := by rw [Lib.toList_data]; exact beq_eq_false_iff_ne.2 fun e => c2 e.symm
  have HK := Lib.hid (show codN s.data.toList = -2 from by unfold codN; rw [if_neg cs, if_neg c0, if_neg c1, if_neg c2])
  clear cs c0 c1 c2
  go_enter Tryz.func166, Tryz.ntmps166
  go_wp2_with fail
  refine HN.out.mono ?_
  rintro e w1 ⟨rfl, rfl⟩
  go_wp2
  go_loop [4] (fun i => i = .int .i64 0 ∨ i = .int .i64 1 ∨ i = .int .i64 2 ∨ i = .int .i64 3) (fun i => 3 - (intOf i).toNat)
  case atStart => exact .inl rfl
  case round =>
    rcases hrel with rfl | rfl | rfl | rfl
    · go_wp2
      go_round
      case rel => exact .inr (.inl rfl)
      case measure => simp [intOf]
    · go_wp2
      go_round
      case rel => exact .inr (.inr (.inl rfl))
      case measure => simp [intOf]
    · go_wp2
      go_round
      case rel => exact .inr (.inr (.inr rfl))
      case measure => simp [intOf]
    · go_wp2
      go_ret
      exact ⟨by rw [HK.out]; rfl, HB.out⟩
end Go.Proofs.YtncegikmpapldaaGreatDoor

-- from XCodT
/- Walks: one thing that somebody would take, by the specification, whole. -/
namespace Go.Proofs.YtncegikmpapldaaGreatDoor
open Go.RowKit

set_option maxHeartbeats 1600000 in
theorem spec_one6 (s : ByteArray) (w : World) (hs : s.size ≤ 1048576) :
    Calls Tryz.prog 135 #[.string s] w fun e w' => ORet s.data.toList e ∧ Below w.heap.size w w' := by
  have hO := Eq.refl (codOne s.data.toList)
  conv at hO => rhs; unfold codOne
  have hcut := fun W => spec_cut s 59 W (by unfold maxLen; omega)
  obtain ⟨hl1, hl2⟩ := cutL_len s.data.toList 59
  have hsl := size_len s
  unfold nameOf restOf at hO
  generalize cutL s.data.toList 59 = C at *
  obtain ⟨A, R, B⟩ := C
  simp only at hO hcut hl1 hl2
  have hz1 : (ByteArray.mk A.toArray).size ≤ 1048576 := by rw [size_len]; simp only; omega
  have hz2 : (ByteArray.mk R.toArray).size ≤ 1048576 := by rw [size_len]; simp only; omega
  have hT1 := fun W => spec_trim ⟨A.toArray⟩ W (by unfold maxLen; omega)
  have hT2 := fun W => spec_trim ⟨R.toArray⟩ W (by unfold maxLen; omega)
  simp only at hT1 hT2
  have ht1 := trimB_len A 32
  have ht2 := trimB_len R 32
  generalize Lib.trimB A 32 = A' at *
  generalize Lib.trimB R 32 = R' at *
  have hz3 : (ByteArray.mk A'.toArray).size ≤ 1048576 := by rw [size_len]; simp only; omega
  have hz4 : (ByteArray.mk R'.toArray).size ≤ 1048576 := by rw [size_len]; simp only; omega
  have hL := fun W => spec_lower ⟨A'.toArray⟩ W hz3
  simp only at hL
  generalize lowL A' = A2 at *
  have hN := fun W => l6_code ⟨A2.toArray⟩ W
  simp only at hN
  have hcr : codN A2 < -1 ↔ codN A2 = -2 := by
    unfold codN; repeat' split
    all_goals decide
  generalize codN A2 = c at *
  have hP := fun W => l1_starts ⟨R'.toArray⟩ ⟨#[113, 61]⟩ W (by unfold maxLen; omega) (by decide)
  have hpre : preB (ByteArray.mk #[113, 61]).data.toList (ByteArray.mk R'.toArray).data.toList = decide (R'.take 2 = [113, 61]) := pre_q R'
  rw [hpre] at hP
  have hx : (ByteArray.mk R'.toArray).extract 2 R'.length = ⟨(R'.drop 2).toArray⟩ := by
    have := ext_drop ⟨R'.toArray⟩ 2
    rw [size_len] at this
    exact this
  have hz5 : (ByteArray.mk (R'.drop 2).toArray).size ≤ maxLen := by rw [size_len] at hz4 ⊢; unfold maxLen; simp only [List.length_drop] at hz4 ⊢; omega
  have hQ := fun W => spec_codq ⟨(R'.drop 2).toArray⟩ W hz5
  unfold QEnd at hQ
  simp only at hQ
  have h2 : R'.take 2 = [113, 61] → 2 ≤ (ByteArray.mk R'.toArray).size := fun h => by
    have := congrArg List.length h
    rw [List.length_take] at this
    have e : ([113, 61] : List UInt8).length = 2 := rfl
    rw [size_len]; simp only; omega
  generalize codQ (R'.drop 2) = Y at *
  obtain ⟨q, k⟩ := Y
  simp only at hO hQ
  have HC := Lib.hid hcut; have HT1 := Lib.hid hT1; have HT2 := Lib.hid hT2; have HL := Lib.hid hL; have HN := Lib.hid hN; have HP := Lib.hid hP; have HQ := Lib.hid hQ; have HX := Lib.hid hx; have H2 := Lib.hid h2; have HCR := Lib.hid hcr; have HZ4 := Lib.hid hz4
  clear hcut hT1 hT2 hL hN hP hQ hl1 hl2 ht1 ht2 hsl hz1 hz2 hz3 hz4 hz5 hpre hx h2 hcr
  obtain ⟨wA, hwA⟩ : ∃ wA, wA = w.alloc (.cells #[.int .i64 0, .int .i64 0] 127) := ⟨_, rfl⟩
  have hsA : wA.heap.size = w.heap.size + 1 := by rw [hwA]; simp
  have hX0 : wA.heap[w.heap.size]? = some (.cells #[.int .i64 0, .int .i64 0] 127 (0, 0)) := by rw [hwA]; exact heap_alloc_new w _
  have HB0 : Hid (∀ W, Below wA.heap.size wA W → W.heap[w.heap.size]? = some (.cells #[.int .i64 0, .int .i64 0] 127 (0, 0))) := Lib.hid fun W hW => (hW.block w.heap.size (by omega)).trans hX0
  have HA : Hid (∀ W, Below wA.heap.size wA W → Below w.heap.size w W) := Lib.hid fun W hW => by
    have hb0 : Below w.heap.size w wA := by rw [hwA]; exact (Below.refl _ _).alloc (Nat.le_refl _) _
    exact hb0.trans (hW.mono (by omega))
  have HWA := Lib.hid hwA
  clear hwA hX0
  go_enter Tryz.func135, Tryz.ntmps135
  go_wp2_with fail
  rw [← HWA.out]
  refine (HC.out _).mono ?_
  rintro e w1 ⟨rfl, n1, rfl⟩
  have hb1 : Below wA.heap.size wA (wA.drewN n1) := below_drewN (Below.refl _ _)
  go_wp2_with fail
  refine (HT1.out _).mono ?_
  rintro e w2 ⟨rfl, rfl⟩
  simp only [strV]
  go_wp2_with fail
  refine (HL.out _).mono ?_
  rintro e w3 ⟨rfl, hb3⟩
  have hb03 := hb1.trans (hb3.mono hb1.size)
  clear hb1 hb3
  simp only [strV]
  go_wp2_with fail
  refine (HN.out _).mono ?_
  rintro e w4 ⟨rfl, hb4⟩
  have hb04 := hb03.trans (hb4.mono hb03.size)
  clear hb03 hb4
  obtain ⟨w5, hw5⟩ : ∃ w5, w5 = w4.alloc (.cells #[.int .i64 c, .int .i64 1000] 127) := ⟨_, rfl⟩
  have hs5 : w5.heap.size = w4.heap.size + 1 := by rw [hw5]; simp
  have hb45 : Below w4.heap.size w4 w5 := by rw [hw5]; exact (Below.refl _ _).alloc (Nat.le_refl _) _
  have hX5 : w5.heap[w4.heap.size]? = some (.cells #[.int .i64 c, .int .i64 1000] 127 (0, 0)) := by rw [hw5]; exact heap_alloc_new w4 _
  have hs4 := hb04.size
  have hb05 := hb04.trans (hb45.mono hs4)
  obtain ⟨t0, t1, g0, g1⟩ := wt_facts hX5
  have u0 := t0
  have u1 := t1
  rw [hw5] at u0 u1
  have HW5 := Lib.hid hw5
  clear hw5 hb04 hb45
  by_cases hc : c = -2
  · rw [if_pos hc] at hO
    have hlt : c < -1 := HCR.out.2 hc
    clear hc
    have r0 := HB0.out _ hb05
    have rr := r0
    rw [HW5.out] at rr
    obtain ⟨q0, q1, f0, f1⟩ := wt_facts rr
    obtain ⟨z0, z1, _, _⟩ := wt_facts (wt_set r0 (.int .i64 0) (.int .i64 0))
    have HZ := Lib.hid (And.intro z0 z1)
    have HF := Lib.hid (wt_below (b := w.heap.size) (HA.out _ hb05) (Nat.le_refl _) (.int .i64 0) (.int .i64 0))
    have HR := Lib.hid (show (codOne s.data.toList).isSome = false from by rw [hO]; rfl)
    have HR2 := Lib.hid (show ∀ x, codOne s.data.toList = some x → x = (0, 0) from fun x hx => by rw [hO] at hx; cases hx)
    clear z0 z1 r0 rr hO
    go_wp2
    rw [← HW5.out]
    obtain ⟨z0, z1⟩ := HZ.out
    refine bodyPost_ret (v := .tuple #[.agg #[.int .i64 0, .int .i64 0], .bool false]) (by simp [results, Tryz.results135, go_sem, z0, z1]) rfl ?_
    exact ⟨⟨_, _, by rw [HR.out], HR2.out⟩, HF.out⟩
  · rw [if_neg hc] at hO
    have hlt : ¬ c < -1 := fun h => hc (HCR.out.1 h)
    clear hc
    cases B
    · rw [if_pos rfl] at hO
      have r0 := HB0.out _ hb05
      have rr := r0
      rw [HW5.out] at rr
      obtain ⟨q0, q1, f0, f1⟩ := wt_facts rr
      obtain ⟨z0, z1, _, _⟩ := wt_facts (wt_set r0 (.int .i64 c) (.int .i64 1000))
      have HZ := Lib.hid (And.intro z0 z1)
      have HF := Lib.hid (wt_below (b := w.heap.size) (HA.out _ hb05) (Nat.le_refl _) (.int .i64 c) (.int .i64 1000))
      have HR := Lib.hid (show (codOne s.data.toList).isSome = true from by rw [hO]; rfl)
      have HR2 := Lib.hid (show ∀ x, codOne s.data.toList = some x → x = (c, 1000) from fun x hx => by rw [hO] at hx; injection hx with hx; exact hx.symm)
      clear z0 z1 r0 rr hO
      go_wp2
      rw [← HW5.out]
      obtain ⟨z0, z1⟩ := HZ.out
      refine bodyPost_ret (v := .tuple #[.agg #[.int .i64 c, .int .i64 1000], .bool true]) (by simp [results, Tryz.results135, go_sem, z0, z1]) rfl ?_
      exact ⟨⟨_, _, by rw [HR.out], HR2.out⟩, HF.out⟩
    · rw [if_neg (by decide)] at hO
      go_wp2_with fail
      rw [← HW5.out]
      refine (HT2.out _).mono ?_
      rintro e w6 ⟨rfl, rfl⟩
      simp only [strV]
      clear u0 u1
      go_wp2_with fail
      refine (HP.out _).mono ?_
      rintro e w7 ⟨rfl, rfl⟩
      by_cases t : R'.take 2 = [113, 61]
      · rw [decide_eq_true t]
        have hO2 : codOne s.data.toList = if k = true then some (c, (q : Int)) else none := by
          rw [hO]
          by_cases hk : k = true
          · rw [if_pos ⟨t, hk⟩, if_pos hk]
          · rw [if_neg (fun h => hk h.2), if_neg hk]
        have h2 := H2.out t
        have hz4 := HZ4.out
        clear t hO
        go_wp2_with fail
        rw [HX.out]
        refine (HQ.out _).mono ?_
        rintro e w8 ⟨rfl, n8, rfl⟩
        have hb8 : Below w5.heap.size w5 (w5.drewN n8) := below_drewN (Below.refl _ _)
        have hX8 : (w5.drewN n8).heap[w4.heap.size]? = some (.cells #[.int .i64 c, .int .i64 1000] 127 (0, 0)) := hX5
        have hb08 := hb05.trans (hb8.mono hb05.size)
        clear hX5 hb05 hb8 h2 hz4 t0 t1 g0 g1
        obtain ⟨t0, t1, g0, g1⟩ := wt_facts hX8
        have hX9 := wt_set1 hX8 (.int .i64 q)
        have hb09 : Below wA.heap.size wA ((w5.drewN n8).setCell ⟨w4.heap.size, 1, none⟩ (.int .i64 q)) := hb08.setCell (by simpa using hs4) _
        have HX9 := Lib.hid (wt_facts hX9)
        have HB9 := Lib.hid hb09
        clear hX8 hX9 hb09 hb08
        cases k
        · rw [if_neg (by decide)] at hO2
          have r0 := HB0.out _ HB9.out
          obtain ⟨q0, q1, f0, f1⟩ := wt_facts r0
          obtain ⟨z0, z1, _, _⟩ := wt_facts (wt_set r0 (.int .i64 c) (.int .i64 q))
          have HZ := Lib.hid (And.intro z0 z1)
          have HF := Lib.hid (wt_below (b := w.heap.size) (HA.out _ HB9.out) (Nat.le_refl _) (.int .i64 c) (.int .i64 q))
          have HR := Lib.hid (show (codOne s.data.toList).isSome = false from by rw [hO2]; rfl)
          have HR2 := Lib.hid (show ∀ x, codOne s.data.toList = some x → x = (c, (q : Int)) from fun x hx => by rw [hO2] at hx; cases hx)
          obtain ⟨y0, y1, y2, y3⟩ := HX9.out
          clear z0 z1 r0 hO2
          go_wp2
          obtain ⟨z0, z1⟩ := HZ.out
          refine bodyPost_ret (v := .tuple #[.agg #[.int .i64 c, .int .i64 q], .bool false]) (by simp [results, Tryz.results135, go_sem, z0, z1]) rfl ?_
          exact ⟨⟨_, _, by rw [HR.out], HR2.out⟩, HF.out⟩
        · rw [if_pos rfl] at hO2
          have r0 := HB0.out _ HB9.out
          obtain ⟨q0, q1, f0, f1⟩ := wt_facts r0
          obtain ⟨z0, z1, _, _⟩ := wt_facts (wt_set r0 (.int .i64 c) (.int .i64 q))
          have HZ := Lib.hid (And.intro z0 z1)
          have HF := Lib.hid (wt_below (b := w.heap.size) (HA.out _ HB9.out) (Nat.le_refl _) (.int .i64 c) (.int .i64 q))
          have HR := Lib.hid (show (codOne s.data.toList).isSome = true from by rw [hO2]; rfl)
          have HR2 := Lib.hid (show ∀ x, codOne s.data.toList = some x → x = (c, (q : Int)) from fun x hx => by rw [hO2] at hx; injection hx with hx; exact hx.symm)
          obtain ⟨y0, y1, y2, y3⟩ := HX9.out
          clear z0 z1 r0 hO2
          go_wp2
          obtain ⟨z0, z1⟩ := HZ.out
          refine bodyPost_ret (v := .tuple #[.agg #[.int .i64 c, .int .i64 q], .bool true]) (by simp [results, Tryz.results135, go_sem, z0, z1]) rfl ?_
          exact ⟨⟨_, _, by rw [HR.out], HR2.out⟩, HF.out⟩
      · rw [decide_eq_false t]
        have hO2 : codOne s.data.toList = none := by
          rw [hO, if_neg (fun h => t h.1)]
        clear t hO
        have r0 := HB0.out _ hb05
        obtain ⟨q0, q1, f0, f1⟩ := wt_facts r0
        obtain ⟨z0, z1, _, _⟩ := wt_facts (wt_set r0 (.int .i64 0) (.int .i64 0))
        have HZ := Lib.hid (And.intro z0 z1)
        have HF := Lib.hid (wt_below (b := w.heap.size) (HA.out _ hb05) (Nat.le_refl _) (.int .i64 0) (.int .i64 0))
        have HR := Lib.hid (show (codOne s.data.toList).isSome = false from by rw [hO2]; rfl)
        have HR2 := Lib.hid (show ∀ x, codOne s.data.toList = some x → x = (0, 0) from fun x hx => by rw [hO2] at hx; cases hx)
        clear z0 z1 r0
        go_wp2
        obtain ⟨z0, z1⟩ := HZ.out
        refine bodyPost_ret (v := .tuple #[.agg #[.int .i64 0, .int .i64 0], .bool false]) (by simp [results, Tryz.results135, go_sem, z0, z1]) rfl ?_
        exact ⟨⟨_, _, by rw [HR.out], HR2.out⟩, HF.out⟩
end Go.Proofs.YtncegikmpapldaaGreatDoor

-- from XCodU
/- Walks: what somebody would take, read, by the program and by the specification. -/
namespace Go.Proofs.YtncegikmpapldaaGreatDoor
open Go.RowKit Go.Maps

/-- What the reading of all things returns: whether it is right, and a row of its own. -/
def PRet (B : Nat) (l : List UInt8) (e : Ending) (w' : World) : Prop := ∃ v ws, e = .returned (.tuple #[v, .bool (codParse l).isSome]) ∧ ws = (codParse l).getD [] ∧ w'.ownsRow B 127 2 v ws.length (wcells ws)
theorem own_base {w : World} {B B' : Nat} {T : TypeId} {size n : Nat} {v : Value} {xs : List Value} (h : w.ownsRow B T size v n xs) (hB : B' ≤ B) : w.ownsRow B' T size v n xs := by
  rcases h with ⟨h1, h2 | ⟨g, cap, cur, h2, h3, h4⟩⟩
  · exact ⟨h1, .inl h2⟩
  · exact ⟨h1, .inr ⟨g, cap, cur, h2, Nat.le_trans hB h3, h4⟩⟩
theorem pair_newI (w : World) (s t : Int) (T : TypeId) : ∀ (j : Nat) u, [Value.int .i64 s, .int .i64 t][j]? = some u → (w.alloc (.cells #[.int .i64 s, .int .i64 t] T)).cell? ((⟨w.heap.size, 0, none⟩ : Addr).add j) = some u := by
  intro j u hu
  match j, hu with
  | 0, hu => exact (World.cell?_alloc_at _ _ _ _ rfl).trans (by simpa using hu)
  | 1, hu => exact (World.cell?_alloc_at _ _ _ _ rfl).trans (by simpa using hu)
  | j + 2, hu => simp at hu
theorem parts_le6 {c : UInt8} : ∀ {l p : List UInt8}, p ∈ partsL l c → p.length ≤ l.length := by
  intro l
  induction l with
  | nil => intro p h; have : p = [] := by simpa [partsL] using h
           subst this; simp
  | cons b l ih =>
    intro p h
    unfold partsL at h
    split at h
    · rcases List.mem_cons.1 h with rfl | h
      · simp
      · have := ih h; simp; omega
    · have hne := partsL_ne l c
      cases hq : partsL l c with
      | nil => exact absurd hq hne
      | cons q qs =>
        rw [hq] at h
        rcases List.mem_cons.1 h with rfl | h
        · have := ih (p := q) (by rw [hq]; exact List.mem_cons_self ..)
          simp; omega
        · have := ih (p := p) (by rw [hq]; exact List.mem_cons_of_mem _ h)
          simp; omega

set_option maxRecDepth 100000 in
set_option maxHeartbeats 3200000 in
theorem impl_codparse (s : ByteArray) (w : World) (hs : s.size ≤ 1048576) (hd : Cds w) (hc : Cls w) (he : Errs w) :
    Calls Tryz.prog 55 #[.string s] w fun e w' => PRet w.heap.size s.data.toList e w' ∧ Below w.heap.size w w' := by
  obtain ⟨i0, hi, hz0, hz1, hz2⟩ := info_parts Tryz.infoWt
  have hP := impl_parts s 44 w hs
  have hsl := size_len s
  have hdef := Eq.refl (codParse s.data.toList)
  conv at hdef => rhs; unfold codParse
  have hple := fun p (h : p ∈ partsL s.data.toList 44) => parts_le6 h
  generalize partsL s.data.toList 44 = ps at *
  have HX : Hid (∀ W, Below w.heap.size w W → Cds W ∧ Cls W ∧ Errs W) := Lib.hid fun W hW => ⟨hd.below hW (Nat.le_refl _), hc.below hW (Nat.le_refl _), he.below hW (Nat.le_refl _)⟩
  have HW1 : Hid (∀ (p : List UInt8) W, p.length ≤ 1048576 → Below w.heap.size w W → Calls Tryz.prog 105 #[.string ⟨p.toArray⟩] W fun e w' => ORet p e ∧ Below W.heap.size W w') := Lib.hid fun p W hp hW => by
    obtain ⟨k1, k2, k3⟩ := HX.out W hW
    exact read_want ⟨p.toArray⟩ W (by rw [size_len]; exact hp) k1 k2 k3
  clear hd hc he HX
  have HP := Lib.hid hP; have HPL := Lib.hid hple; have HD := Lib.hid hdef; have HI := Lib.hid hi
  clear hP hple hdef hi
  go_enter Tryz.func55, Tryz.ntmps55
  go_wp2_with fail
  refine HP.out.mono ?_
  rintro e w1 ⟨pv, rfl, hpo, hb1⟩
  have hrd := Rd1.of_own hpo
  have hplt : ∀ b, pv.ownBlock = some b → b < w1.heap.size := fun b hb => (hpo.lt b hb).2
  clear hpo
  obtain ⟨pa, pc, rfl, HR⟩ : ∃ pa pc, pv = .slice pa ps.length pc ∧ Hid (∀ W, Below w1.heap.size w1 W → ∀ k p, ps[k]? = some p → ∃ b o, pa = some ⟨b, o, none⟩ ∧ W.cell? ⟨b, o + k, none⟩ = some (.string ⟨p.toArray⟩)) := by
    rcases hrd with ⟨rfl, hn⟩ | ⟨b, o, c, rfl, _, _, h3⟩
    · have : ps = [] := List.map_eq_nil_iff.1 hn
      subst this
      exact ⟨none, 0, rfl, Lib.hid fun W hW k p hk => by simp at hk⟩
    · refine ⟨_, c, by rw [List.length_map], Lib.hid fun W hW k p hk => ⟨b, o, rfl, ?_⟩⟩
      have hb : b < w1.heap.size := hplt b rfl
      exact (hW.cell (p := ⟨b, o + k, none⟩) hb).trans (h3 k _ (by rw [List.getElem?_map, hk]; rfl))
  clear hrd hplt
  have hs1 := hb1.size
  have HB1 := Lib.hid hb1
  clear hb1
  by_cases h5 : 5 < ps.length
  · have hno := HD.out
    rw [if_neg (by omega)] at hno
    have HN := Lib.hid hno
    clear hno
    have h5' : 5 < (ps.length : Int) := by omega
    go_wp2
    go_ret2
    refine ⟨⟨_, [], by rw [HN.out]; rfl, by rw [HN.out]; rfl, rfl, .inl ⟨rfl, rfl⟩⟩, HB1.out⟩
  have h5' : ¬ 5 < (ps.length : Int) := by omega
  have HO0 : Hid (w1.ownsRow w1.heap.size 127 2 (.slice none 0 0) 0 []) := Lib.hid ⟨rfl, .inl ⟨rfl, rfl⟩⟩
  have HBB : Hid (Below w1.heap.size w1 w1) := Lib.hid (Below.refl _ _)
  go_wp2
  go_loopw [5, 17] (fun o i wr => ∃ (k : Nat) (ws : List Wt), k ≤ ps.length ∧ i = .int .i64 k ∧ wr.ownsRow w1.heap.size 127 2 o ws.length (wcells ws) ∧ Hid (codAll (ps.take k) = some ws) ∧ ws.length = k ∧ Below w1.heap.size w1 wr) (fun _ i _ => ps.length - (intOf i).toNat)
  case atStart => exact ⟨0, [], Nat.zero_le _, rfl, HO0.out, Lib.hid rfl, rfl, HBB.out⟩
  case round =>
    obtain ⟨k, ws, hk, rfl, hown, hall, hwl, hb⟩ := hrel
    have hsr := hb.size
    by_cases hlt : k < ps.length
    · have hpk := List.getElem?_eq_getElem hlt
      have hmem : ps[k] ∈ ps := List.getElem_mem hlt
      obtain ⟨p, hp⟩ : ∃ p, p = ps[k] := ⟨_, rfl⟩
      rw [← hp] at hpk hmem
      obtain ⟨b, o, rfl, hcell⟩ := HR.out wr hb k p hpk
      have hpl : p.length ≤ 1048576 := by have := HPL.out p hmem; omega
      have hcall := HW1.out p wr hpl (HB1.out.trans (hb.mono hs1))
      have hst : codAll (ps.take (k + 1)) = match codOne p with | some b => some (ws ++ [b]) | _ => none := by
        rw [List.take_add_one, hpk]
        show codAll (ps.take k ++ [p]) = _
        rw [codAll_snoc, hall.out]
        cases codOne p <;> rfl
      have hbad : codOne p = none → codParse s.data.toList = none := fun h => by
        rw [HD.out, if_pos (by omega), codAll_bad hpk h]
      have HST := Lib.hid hst; have HBAD := Lib.hid hbad; have HC := Lib.hid hcall
      clear hpk hmem hp hpl hst hbad hcall
      go_wp2_with fail
      refine HC.out.mono ?_
      rintro e w2 ⟨⟨c, q, rfl, hx⟩, hb2⟩
      have hown2 := own_below hown hb2
      have hb02 := hb.trans (hb2.mono hsr)
      have hs2 := hb02.size
      obtain ⟨w3, hw3⟩ : ∃ w3, w3 = w2.alloc (.cells #[.int .i64 c, .int .i64 q] 127) := ⟨_, rfl⟩
      have hs3 : w3.heap.size = w2.heap.size + 1 := by rw [hw3]; simp
      have hX3 : w3.heap[w2.heap.size]? = some (.cells #[.int .i64 c, .int .i64 q] 127 (0, 0)) := by rw [hw3]; exact heap_alloc_new w2 _
      have hb03 : Below w1.heap.size w1 w3 := by rw [hw3]; exact hb02.alloc hs2 _
      have hown3 := hown2.alloc (.cells #[.int .i64 c, .int .i64 q] 127)
      rw [← hw3] at hown3
      have HX2 := Lib.hid hx
      have HB3 := Lib.hid hb03; have HO3 := Lib.hid hown3
      obtain ⟨t0, t1, _, _⟩ := wt_facts hX3
      have u0 := t0
      have u1 := t1
      rw [hw3] at u0 u1
      have HW3 := Lib.hid hw3
      have hvl := hown.lt
      clear hown hown2 hb hb2 hb02 hb03 hown3 hx hw3 hX3 hcell
      cases hone : codOne p with
      | none =>
        have HN := Lib.hid (HBAD.out hone)
        simp only [Option.isSome_none]
        clear hone
        go_wp2
        rw [← HW3.out]
        go_ret2
        exact ⟨⟨_, [], by rw [HN.out]; rfl, by rw [HN.out]; rfl, rfl, .inl ⟨rfl, rfl⟩⟩, HB1.out.trans (HB3.out.mono hs1)⟩
      | some x =>
        have hxe := HX2.out x hone
        subst hxe
        have hal := HST.out
        rw [hone] at hal
        have HAL := Lib.hid hal
        simp only [Option.isSome_some]
        clear hone hal u0 u1
        have hs13 : w1.heap.size ≤ w3.heap.size := by omega
        go_wp2_with (at_builtin; rw [← HW3.out]; go_must (refine wpList_append_own _ rfl _ _ 85 (by rfl) w1.heap.size 127 i0 _ 2 16 Tryz.underlying85 HI.out hz0 hz1 hz2 (by rfl) (by decide) _ ws.length (wcells ws) (by rfl) (HO3.out.alloc _) ⟨w2.heap.size + 1, 0, none⟩ 1 1 [.int .i64 c, .int .i64 q] (by rfl) (by rfl) (by rw [← hs3]; exact pair_newI w3 c q _) (by intro x hx; simp at hx; rcases hx with rfl | rfl <;> rfl) (by unfold maxLen; omega) (by omega) (by simp; omega) ?_); intro v4 w4 ho4 hg4 _)
        have hb4 : Below w1.heap.size w1 w4 := (HB3.out.alloc hs13 _).grown hg4 (by simp; omega) (fun k hk => (hvl k hk).1)
        clear hg4
        go_roundw
        case rel => exact ⟨k + 1, ws ++ [(c, q)], by omega, by go_num, by rw [wcells_app, List.length_append]; exact ho4, HAL, by rw [List.length_append, hwl]; rfl, hb4⟩
        case measure => simp [intOf]; omega
    · have hkn : k = ps.length := by omega
      have hall2 := hall.out
      rw [hkn, List.take_length] at hall2
      have hfin : codParse s.data.toList = some ws := by rw [HD.out, if_pos (by omega), hall2]
      have HN := Lib.hid hfin
      have HO := Lib.hid (own_base hown hs1)
      have HBF := Lib.hid (HB1.out.trans (hb.mono hs1))
      clear hall2 hfin hown hb hall
      go_wp2
      go_ret2
      exact ⟨⟨_, ws, by rw [HN.out]; rfl, by rw [HN.out]; rfl, HO.out⟩, HBF.out⟩

set_option maxRecDepth 100000 in
set_option maxHeartbeats 3200000 in
theorem spec_codparse (s : ByteArray) (w : World) (hs : s.size ≤ 1048576) :
    Calls Tryz.prog 98 #[.string s] w fun e w' => PRet w.heap.size s.data.toList e w' ∧ Below w.heap.size w w' := by
  obtain ⟨i0, hi, hz0, hz1, hz2⟩ := info_parts Tryz.infoWt
  have hP := spec_parts s 44 w hs
  have hsl := size_len s
  have hdef := Eq.refl (codParse s.data.toList)
  conv at hdef => rhs; unfold codParse
  have hple := fun p (h : p ∈ partsL s.data.toList 44) => parts_le6 h
  generalize partsL s.data.toList 44 = ps at *
  have HW1 : Hid (∀ (p : List UInt8) W, p.length ≤ 1048576 → Below w.heap.size w W → Calls Tryz.prog 135 #[.string ⟨p.toArray⟩] W fun e w' => ORet p e ∧ Below W.heap.size W w') := Lib.hid fun p W hp hW => spec_one6 ⟨p.toArray⟩ W (by rw [size_len]; exact hp)
  have HP := Lib.hid hP; have HPL := Lib.hid hple; have HD := Lib.hid hdef; have HI := Lib.hid hi
  clear hP hple hdef hi
  go_enter Tryz.func98, Tryz.ntmps98
  go_wp2_with fail
  refine HP.out.mono ?_
  rintro e w1 ⟨pv, rfl, hpo, hb1⟩
  have hrd := Rd1.of_own hpo
  have hplt : ∀ b, pv.ownBlock = some b → b < w1.heap.size := fun b hb => (hpo.lt b hb).2
  clear hpo
  obtain ⟨pa, pc, rfl, HR⟩ : ∃ pa pc, pv = .slice pa ps.length pc ∧ Hid (∀ W, Below w1.heap.size w1 W → ∀ k p, ps[k]? = some p → ∃ b o, pa = some ⟨b, o, none⟩ ∧ W.cell? ⟨b, o + k, none⟩ = some (.string ⟨p.toArray⟩)) := by
    rcases hrd with ⟨rfl, hn⟩ | ⟨b, o, c, rfl, _, _, h3⟩
    · have : ps = [] := List.map_eq_nil_iff.1 hn
      subst this
      exact ⟨none, 0, rfl, Lib.hid fun W hW k p hk => by simp at hk⟩
    · refine ⟨_, c, by rw [List.length_map], Lib.hid fun W hW k p hk => ⟨b, o, rfl, ?_⟩⟩
      have hb : b < w1.heap.size := hplt b rfl
      exact (hW.cell (p := ⟨b, o + k, none⟩) hb).trans (h3 k _ (by rw [List.getElem?_map, hk]; rfl))
  clear hrd hplt
  have hs1 := hb1.size
  have HB1 := Lib.hid hb1
  clear hb1
  by_cases h5 : 5 < ps.length
  · have hno := HD.out
    rw [if_neg (by omega)] at hno
    have HN := Lib.hid hno
    clear hno
    have h5' : 5 < (ps.length : Int) := by omega
    have HO : Hid ((w1.alloc (.cells #[] 127)).ownsRow w1.heap.size 127 2 (.slice (some ⟨w1.heap.size, 0, none⟩) 0 0) 0 []) := Lib.hid (World.ownsRow_made w1 #[] 0 (Nat.le_refl _) (by decide) rfl)
    go_wp2
    go_ret2
    exact ⟨⟨_, [], by rw [HN.out]; rfl, by rw [HN.out]; rfl, own_base HO.out hs1⟩, HB1.out.alloc hs1 _⟩
  have h5' : ¬ 5 < (ps.length : Int) := by omega
  have HO0 : Hid ((w1.alloc (.cells #[] 127)).ownsRow w1.heap.size 127 2 (.slice (some ⟨w1.heap.size, 0, none⟩) 0 0) 0 []) := Lib.hid (World.ownsRow_made w1 #[] 0 (Nat.le_refl _) (by decide) rfl)
  have HBB : Hid (Below w1.heap.size w1 (w1.alloc (.cells #[] 127))) := Lib.hid ((Below.refl _ _).alloc (Nat.le_refl _) _)
  go_wp2
  go_loopw [5, 6] (fun o i wr => ∃ (k : Nat) (ws : List Wt), k ≤ ps.length ∧ i = .int .i64 k ∧ wr.ownsRow w1.heap.size 127 2 o ws.length (wcells ws) ∧ Hid (codAll (ps.take k) = some ws) ∧ ws.length = k ∧ Below w1.heap.size w1 wr) (fun _ i _ => ps.length - (intOf i).toNat)
  case atStart => exact ⟨0, [], Nat.zero_le _, rfl, HO0.out, Lib.hid rfl, rfl, HBB.out⟩
  case round =>
    obtain ⟨k, ws, hk, rfl, hown, hall, hwl, hb⟩ := hrel
    have hsr := hb.size
    by_cases hlt : k < ps.length
    · have hpk := List.getElem?_eq_getElem hlt
      have hmem : ps[k] ∈ ps := List.getElem_mem hlt
      obtain ⟨p, hp⟩ : ∃ p, p = ps[k] := ⟨_, rfl⟩
      rw [← hp] at hpk hmem
      obtain ⟨b, o, rfl, hcell⟩ := HR.out wr hb k p hpk
      have hpl : p.length ≤ 1048576 := by have := HPL.out p hmem; omega
      have hcall := HW1.out p wr hpl (HB1.out.trans (hb.mono hs1))
      have hst : codAll (ps.take (k + 1)) = match codOne p with | some b => some (ws ++ [b]) | _ => none := by
        rw [List.take_add_one, hpk]
        show codAll (ps.take k ++ [p]) = _
        rw [codAll_snoc, hall.out]
        cases codOne p <;> rfl
      have hbad : codOne p = none → codParse s.data.toList = none := fun h => by
        rw [HD.out, if_pos (by omega), codAll_bad hpk h]
      have HST := Lib.hid hst; have HBAD := Lib.hid hbad; have HC := Lib.hid hcall
      clear hpk hmem hp hpl hst hbad hcall
      go_wp2_with fail
      refine HC.out.mono ?_
      rintro e w2 ⟨⟨c, q, rfl, hx⟩, hb2⟩
      have hown2 := own_below hown hb2
      have hb02 := hb.trans (hb2.mono hsr)
      have hs2 := hb02.size
      obtain ⟨w3, hw3⟩ : ∃ w3, w3 = w2.alloc (.cells #[.int .i64 c, .int .i64 q] 127) := ⟨_, rfl⟩
      have hs3 : w3.heap.size = w2.heap.size + 1 := by rw [hw3]; simp
      have hX3 : w3.heap[w2.heap.size]? = some (.cells #[.int .i64 c, .int .i64 q] 127 (0, 0)) := by rw [hw3]; exact heap_alloc_new w2 _
      have hb03 : Below w1.heap.size w1 w3 := by rw [hw3]; exact hb02.alloc hs2 _
      have hown3 := hown2.alloc (.cells #[.int .i64 c, .int .i64 q] 127)
      rw [← hw3] at hown3
      have HX2 := Lib.hid hx
      have HB3 := Lib.hid hb03; have HO3 := Lib.hid hown3
      obtain ⟨t0, t1, _, _⟩ := wt_facts hX3
      have u0 := t0
      have u1 := t1
      rw [hw3] at u0 u1
      have HW3 := Lib.hid hw3
      have hvl := hown.lt
      clear hown hown2 hb hb2 hb02 hb03 hown3 hx hw3 hX3 hcell
      cases hone : codOne p with
      | none =>
        have HN := Lib.hid (HBAD.out hone)
        simp only [Option.isSome_none]
        clear hone
        have HOn : Hid ((w3.alloc (.cells #[] 127)).ownsRow (w2.heap.size + 1) 127 2 (.slice (some ⟨w2.heap.size + 1, 0, none⟩) 0 0) 0 []) := Lib.hid (by rw [← hs3]; exact World.ownsRow_made w3 #[] 0 (Nat.le_refl _) (by decide) rfl)
        have HS3 : Hid (w.heap.size ≤ w3.heap.size) := Lib.hid (by have := HB3.out.size; omega)
        go_wp2
        rw [← HW3.out]
        go_ret2
        exact ⟨⟨_, [], by rw [HN.out]; rfl, by rw [HN.out]; rfl, own_base HOn.out (by rw [← hs3]; exact HS3.out)⟩, (HB1.out.trans (HB3.out.mono hs1)).alloc HS3.out _⟩
      | some x =>
        have hxe := HX2.out x hone
        subst hxe
        have hal := HST.out
        rw [hone] at hal
        have HAL := Lib.hid hal
        simp only [Option.isSome_some]
        clear hone hal u0 u1
        have hs13 : w1.heap.size ≤ w3.heap.size := by omega
        go_wp2_with (at_builtin; rw [← HW3.out]; go_must (refine wpList_append_own _ rfl _ _ 85 (by rfl) w1.heap.size 127 i0 _ 2 16 Tryz.underlying85 HI.out hz0 hz1 hz2 (by rfl) (by decide) _ ws.length (wcells ws) (by rfl) (HO3.out.alloc _) ⟨w2.heap.size + 1, 0, none⟩ 1 1 [.int .i64 c, .int .i64 q] (by rfl) (by rfl) (by rw [← hs3]; exact pair_newI w3 c q _) (by intro x hx; simp at hx; rcases hx with rfl | rfl <;> rfl) (by unfold maxLen; omega) (by omega) (by simp; omega) ?_); intro v4 w4 ho4 hg4 _)
        have hb4 : Below w1.heap.size w1 w4 := (HB3.out.alloc hs13 _).grown hg4 (by simp; omega) (fun k hk => (hvl k hk).1)
        clear hg4
        go_roundw
        case rel => exact ⟨k + 1, ws ++ [(c, q)], by omega, by go_num, by rw [wcells_app, List.length_append]; exact ho4, HAL, by rw [List.length_append, hwl]; rfl, hb4⟩
        case measure => simp [intOf]; omega
    · have hkn : k = ps.length := by omega
      have hall2 := hall.out
      rw [hkn, List.take_length] at hall2
      have hfin : codParse s.data.toList = some ws := by rw [HD.out, if_pos (by omega), hall2]
      have HN := Lib.hid hfin
      have HO := Lib.hid (own_base hown hs1)
      have HBF := Lib.hid (HB1.out.trans (hb.mono hs1))
      clear hall2 hfin hown hb hall
      go_wp2
      go_ret2
      exact ⟨⟨_, ws, by rw [HN.out]; rfl, by rw [HN.out]; rfl, HO.out⟩, HBF.out⟩
end Go.Proofs.YtncegikmpapldaaGreatDoor

-- from XCodOf
/- Walks: the set of codings that a request would take. -/
namespace Go.Proofs.YtncegikmpapldaaGreatDoor
open Go.RowKit Go.Maps

def bAccept : ByteArray := ⟨#[97, 99, 99, 101, 112, 116]⟩
/-- The set of codings that fields would take. -/
def codOfF (fs : List Fd) : Nat := match oneOf (allTo fs bAccept fs.length) with
  | (v, true) => match codParse v.data.toList with
    | some ws => maskL ws
    | none => 1
  | _ => 1
theorem codOf_no {fs : List Fd} {v : ByteArray} (h : oneOf (allTo fs bAccept fs.length) = (v, false)) : codOfF fs = 1 := by
  unfold codOfF; rw [h]
theorem codOf_bad {fs : List Fd} {v : ByteArray} (h : oneOf (allTo fs bAccept fs.length) = (v, true)) (h2 : codParse v.data.toList = none) : codOfF fs = 1 := by
  unfold codOfF; rw [h]; simp only; rw [h2]
theorem codOf_yes {fs : List Fd} {v : ByteArray} {ws : List Wt} (h : oneOf (allTo fs bAccept fs.length) = (v, true)) (h2 : codParse v.data.toList = some ws) : codOfF fs = maskL ws := by
  unfold codOfF; rw [h]; simp only; rw [h2]
theorem one_sizeK {fs : List Fd} {K : Nat} (hok : FOk fs K) (s : ByteArray) : (oneOf (allTo fs s fs.length)).1.size ≤ K := by
  have h : ∀ k, ∀ x ∈ allTo fs s k, x.size ≤ K := by
    intro k
    induction k with
    | zero => intro x hx; simp [allTo] at hx
    | succ k ih =>
      intro x hx
      cases hf : fs[k]? with
      | none => rw [allTo] at hx; simp only [hf] at hx; exact ih x hx
      | some f =>
        rw [allTo_at s hf] at hx
        split at hx
        · rcases List.mem_append.1 hx with hx | hx
          · exact ih x hx
          · have : x = f.2 := by simpa using hx
            rw [this]; exact (hok f (List.mem_of_getElem? hf)).2
        · exact ih x hx
  by_cases h1 : (allTo fs s fs.length).length = 1
  · obtain ⟨x, hx, ho⟩ := oneOf_one h1
    rw [ho]; exact h fs.length x (by rw [hx]; exact List.mem_cons_self ..)
  · rw [oneOf_not h1]; exact Nat.zero_le _

set_option maxHeartbeats 1600000 in
theorem impl_codof (v : Value) (fs : List Fd) (w : World) (hF : FRow w v fs) (hok : FOk fs 1048576) (hn : fs.length ≤ 2000000) (hd : Cds w) (hc : Cls w) (he : Errs w) :
    Calls Tryz.prog 21 #[v] w fun e w' => e = .returned (.int .i64 (codOfF fs : Int)) ∧ Below w.heap.size w w' := by
  have hO := impl_one v fs bAccept w hF (fun f hf => ⟨Nat.le_trans (hok f hf).1 (by omega), Nat.le_trans (hok f hf).2 (by omega)⟩) hn (by decide)
  have hsz := one_sizeK hok bAccept
  have h1 := fun v (h : oneOf (allTo fs bAccept fs.length) = (v, false)) => codOf_no h
  have h2 := fun v (h : oneOf (allTo fs bAccept fs.length) = (v, true)) (k : codParse v.data.toList = none) => codOf_bad h k
  have h3 := fun v ws (h : oneOf (allTo fs bAccept fs.length) = (v, true)) (k : codParse v.data.toList = some ws) => codOf_yes h k
  have hvl : ∃ va vc, v = .slice va fs.length vc := by
    obtain ⟨va, vc, e, _⟩ := hF
    exact ⟨va, vc, e⟩
  obtain ⟨va, vc, rfl⟩ := hvl
  generalize oneOf (allTo fs bAccept fs.length) = O at *
  obtain ⟨x, one⟩ := O
  simp only at hO hsz
  have HP : Hid (∀ W, Below w.heap.size w W → Calls Tryz.prog 55 #[.string x] W fun e w' => PRet W.heap.size x.data.toList e w' ∧ Below W.heap.size W w') := Lib.hid fun W hW => impl_codparse x W hsz (hd.below hW (Nat.le_refl _)) (hc.below hW (Nat.le_refl _)) (he.below hW (Nat.le_refl _))
  have HO := Lib.hid hO; have H1 := Lib.hid h1; have H2 := Lib.hid h2; have H3 := Lib.hid h3
  clear hO h1 h2 h3 hd hc he hF hsz
  go_enter Tryz.func21, Tryz.ntmps21
  unfold bAccept at HO
  go_wp2_with fail
  refine HO.out.mono ?_
  rintro e w1 ⟨rfl, hb1⟩
  go_wp2_with fail
  refine (HP.out _ hb1).mono ?_
  rintro e w2 ⟨⟨u, ws, rfl, hws, ho⟩, hb2⟩
  have hb02 := hb1.trans (hb2.mono hb1.size)
  have HW := Lib.hid (wrow_of_own ho)
  have hul : ∃ ua uc, u = .slice ua ws.length uc := by
    obtain ⟨ua, uc, e, _⟩ := HW.out
    exact ⟨ua, uc, e⟩
  obtain ⟨ua, uc, rfl⟩ := hul
  clear ho hb1 hb2
  cases one
  · have HR := Lib.hid (H1.out x rfl)
    clear hws
    go_wp2
    go_ret
    exact ⟨by rw [HR.out]; rfl, hb02⟩
  · cases hp : codParse x.data.toList with
    | none =>
      have HR := Lib.hid (H2.out x rfl hp)
      simp only [Option.isSome_none]
      clear hp hws
      go_wp2
      go_ret
      exact ⟨by rw [HR.out]; rfl, hb02⟩
    | some ws2 =>
      rw [hp] at hws
      have hww : ws = ws2 := hws
      subst hww
      have HR := Lib.hid (H3.out x ws rfl hp)
      simp only [Option.isSome_some]
      clear hp hws
      go_wp2_with fail
      refine (impl_mask _ ws _ HW.out).mono ?_
      rintro e w3 ⟨rfl, hb3⟩
      have hb03 := hb02.trans (hb3.mono hb02.size)
      go_wp2
      go_ret
      exact ⟨by rw [HR.out]; rfl, hb03⟩
end Go.Proofs.YtncegikmpapldaaGreatDoor

