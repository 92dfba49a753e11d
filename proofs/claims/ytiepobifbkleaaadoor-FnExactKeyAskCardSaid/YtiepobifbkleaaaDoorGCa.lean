import Derived.Test.YtiepobifbkleaaaDoorPure
import Derived.Test.YtiepobifbkleaaaDoorNum
import Derived.Test.YtiepobifbkleaaaDoorParts
import Derived.Test.YtiepobifbkleaaaDoorLower
import Derived.Test.YtiepobifbkleaaaDoorCutB
import Derived.Test.YtiepobifbkleaaaDoorNumR
import Derived.Test.YtiepobifbkleaaaDoorOwn
import Derived.Stop.LaidErr
import Derived.Lib.LaidTab
import Derived.Test.YtiepobifbkleaaaDoorGrp
import Derived.Test.YtiepobifbkleaaaDoorEq
import Derived.Laws.MakeOwn
import Derived.Test.YtiepobifbkleaaaDoorTrim
import Derived.Test.YtiepobifbkleaaaDoorCutI
import Derived.Test.YtiepobifbkleaaaDoorRegR
import Derived.Test.YtiepobifbkleaaaDoorGcan
import Derived.Test.YtiepobifbkleaaaDoorFOne
-- from XMaskP
/- Sets of codings: plain functions; no program. -/
namespace Go.Proofs.YtiepobifbkleaaaDoor

abbrev Wt : Type := Int × Int
/-- What is told last for a coding. -/
def lastQ (ws : List Wt) (c : Int) (o : Int) : Int := ws.foldl (fun q w => if w.1 = c then w.2 else q) o
def qual (ws : List Wt) (c : Int) : Int := lastQ ws c (lastQ ws (-1) (if c = 0 then 1000 else 0))
def maskL (ws : List Wt) : Nat := (if 0 < qual ws 0 then 1 else 0) + (if 0 < qual ws 1 then 2 else 0) + (if 0 < qual ws 2 then 4 else 0)
def inB (m c : Int) : Bool := decide (0 ≤ m ∧ m < 8) && ((decide (c = 0) && decide (m % 2 = 1)) || (decide (c = 1) && decide (m / 2 % 2 = 1)) || (decide (c = 2) && decide (m / 4 % 2 = 1)))
theorem lastQ_snoc (ws : List Wt) (w : Wt) (c o : Int) : lastQ (ws ++ [w]) c o = if w.1 = c then w.2 else lastQ ws c o := by
  unfold lastQ; rw [List.foldl_append]; rfl
theorem lastQ_take {ws : List Wt} {k : Nat} {w : Wt} (h : ws[k]? = some w) (c o : Int) : lastQ (ws.take (k + 1)) c o = if w.1 = c then w.2 else lastQ (ws.take k) c o := by
  rw [show ws.take (k + 1) = ws.take k ++ [w] from by rw [List.take_add_one, h]; rfl, lastQ_snoc]
theorem maskL_lt (ws : List Wt) : maskL ws < 8 := by
  unfold maskL; split <;> split <;> split <;> omega
/-- The codings below k that would be taken. -/
def maskTo (ws : List Wt) (k : Nat) : Nat := (if 0 < k ∧ 0 < qual ws 0 then 1 else 0) + (if 1 < k ∧ 0 < qual ws 1 then 2 else 0) + (if 2 < k ∧ 0 < qual ws 2 then 4 else 0)
theorem maskTo_all (ws : List Wt) : maskTo ws 3 = maskL ws := by simp [maskTo, maskL]
theorem maskTo_zero (ws : List Wt) : maskTo ws 0 = 0 := by simp [maskTo]
theorem maskTo_step (ws : List Wt) (k : Nat) (hk : k < 3) : maskTo ws (k + 1) = maskTo ws k + if 0 < qual ws (k : Int) then 2 ^ k else 0 := by
  have h : k = 0 ∨ k = 1 ∨ k = 2 := by omega
  rcases h with rfl | rfl | rfl <;> simp [maskTo]
theorem maskTo_lt (ws : List Wt) (k : Nat) (_hk : k ≤ 3) : maskTo ws k < 2 ^ k := by
  have h : k = 0 ∨ k = 1 ∨ k = 2 ∨ k = 3 := by omega
  rcases h with rfl | rfl | rfl | rfl
  all_goals simp only [maskTo]
  all_goals simp
  all_goals (repeat' split)
  all_goals omega

end Go.Proofs.YtiepobifbkleaaaDoor

-- from XCodP
/- Codings: plain functions on lists of bytes; no program. -/
namespace Go.Proofs.YtiepobifbkleaaaDoor

/-- What a quality's four digits say. -/
def qVal (a : UInt8) (d : List UInt8) : Nat := valF 0 (a :: (d ++ List.replicate (3 - d.length) 48))
/-- A quality, in thousandths. -/
def codQ (l : List UInt8) : Nat × Bool :=
  if ((cutL l 46).1 = [48] ∨ (cutL l 46).1 = [49]) ∧ (cutL l 46).2.1.length ≤ 3 ∧ (cutL l 46).2.1.all isDig = true ∧ qVal ((cutL l 46).1.headD 0) (cutL l 46).2.1 ≤ 1000
  then (qVal ((cutL l 46).1.headD 0) (cutL l 46).2.1, true) else (0, false)

def nPlain : List UInt8 := [112, 108, 97, 105, 110]
def nGz : List UInt8 := [103, 122]
def nBr : List UInt8 := [98, 114]
/-- The coding of a name in small letters; -2 of none. -/
def codN (l : List UInt8) : Int := if l = [42] then -1 else if l = nPlain then 0 else if l = nGz then 1 else if l = nBr then 2 else -2
def nameOf (l : List UInt8) : List UInt8 := Lib.trimB (cutL l 59).1 32
def restOf (l : List UInt8) : List UInt8 := Lib.trimB (cutL l 59).2.1 32
/-- One thing that somebody would take. -/
def codOne (l : List UInt8) : Option Wt :=
  if codN (lowL (nameOf l)) = -2 then none
  else if (cutL l 59).2.2 = false then some (codN (lowL (nameOf l)), 1000)
  else if (restOf l).take 2 = [113, 61] ∧ (codQ ((restOf l).drop 2)).2 = true then some (codN (lowL (nameOf l)), ((codQ ((restOf l).drop 2)).1 : Int)) else none
def codAll : List (List UInt8) → Option (List Wt)
  | [] => some []
  | p :: ps => match codOne p, codAll ps with
    | some a, some b => some (a :: b)
    | _, _ => none
def codParse (l : List UInt8) : Option (List Wt) := if (partsL l 44).length ≤ 5 then codAll (partsL l 44) else none

def codT (m : Int) : List UInt8 :=
  if 0 ≤ m ∧ m < 8 then (if m % 2 = 1 then nPlain else nPlain ++ [59, 113, 61, 48]) ++ (if m / 2 % 2 = 1 then [44, 32, 103, 122] else []) ++ (if m / 4 % 2 = 1 then [44, 32, 98, 114] else []) else []

theorem codAll_snoc (ps : List (List UInt8)) (p : List UInt8) : codAll (ps ++ [p]) = match codAll ps, codOne p with | some a, some b => some (a ++ [b]) | _, _ => none := by
  induction ps with
  | nil => simp only [List.nil_append, codAll]; cases codOne p <;> rfl
  | cons q ps ih =>
    rw [List.cons_append, codAll, ih, codAll]
    cases codOne q <;> cases codAll ps <;> cases codOne p <;> rfl
theorem codAll_len {ps : List (List UInt8)} {ws : List Wt} (h : codAll ps = some ws) : ws.length = ps.length := by
  induction ps generalizing ws with
  | nil => cases h; rfl
  | cons p ps ih =>
    rw [codAll] at h
    cases h1 : codOne p <;> cases h2 : codAll ps <;> rw [h1, h2] at h <;> try (cases h)
    rename_i a b
    simp [ih h2]
/-- A list with a wrong part is wrong. -/
theorem codAll_bad {ps : List (List UInt8)} {k : Nat} {p : List UInt8} (hp : ps[k]? = some p) (h : codOne p = none) : codAll ps = none := by
  induction ps generalizing k with
  | nil => simp at hp
  | cons q ps ih =>
    rw [codAll]
    cases k with
    | zero =>
      have : q = p := by simpa using hp
      rw [this, h]
    | succ k =>
      rw [ih (by simpa using hp)]
      cases codOne q <;> rfl
/-- What four signs or fewer are read as: never too much. -/
theorem parse_small (l : List UInt8) : ∀ acc, (acc + 1) * 10 ^ l.length ≤ 100000000000000000 → Lib.parseUint10 acc l ≠ .range ∧ ∀ v, Lib.parseUint10 acc l = .ok v → l.all isDig = true ∧ v = valF acc l := by
  induction l with
  | nil =>
    intro acc _
    refine ⟨fun h => (by cases h), fun v h => ?_⟩
    injection h with h
    exact ⟨rfl, h.symm⟩
  | cons c l ih =>
    intro acc h
    rw [List.length_cons, Nat.pow_succ] at h
    have hp : 1 ≤ 10 ^ l.length := Nat.pow_pos (by omega)
    have h1 : (acc + 1) * 10 * 10 ^ l.length ≤ 100000000000000000 := by rw [Nat.mul_assoc, Nat.mul_comm 10]; exact h
    have h3 : (acc + 1) * 10 ≤ 100000000000000000 := Nat.le_trans (Nat.le_mul_of_pos_right _ hp) h1
    unfold Lib.parseUint10
    by_cases hc : 48 ≤ c.toNat ∧ c.toNat ≤ 57
    · rw [if_pos hc, if_neg (by omega), if_neg (by omega)]
      have h2 : (acc * 10 + (c.toNat - 48) + 1) * 10 ^ l.length ≤ 100000000000000000 := Nat.le_trans (Nat.mul_le_mul_right _ (by omega)) h1
      have := ih _ h2
      refine ⟨this.1, fun v hv => ?_⟩
      have h4 := this.2 v hv
      refine ⟨?_, h4.2⟩
      rw [List.all_cons, h4.1]
      simp [isDig, hc]
    · rw [if_neg hc]
      exact ⟨fun h => (by cases h), fun v h => (by cases h)⟩
theorem atoi_small {a : UInt8} {l : List UInt8} (ha : a = 48 ∨ a = 49) (hl : l.length ≤ 3) : Lib.atoiAll (a :: l) ≠ .range ∧ (∀ v, Lib.atoiAll (a :: l) = .ok v → l.all isDig = true ∧ v = (valF 0 (a :: l) : Int)) ∧ (l.all isDig = true → Lib.atoiAll (a :: l) = .ok (valF 0 (a :: l) : Int)) := by
  have h1 : ¬ (a.toNat = 43 ∨ a.toNat = 45) := by rcases ha with rfl | rfl <;> decide
  have h45 : ¬ a.toNat = 45 := fun h => h1 (.inr h)
  have h43 : ¬ a.toNat = 43 := fun h => h1 (.inl h)
  have hb : (0 + 1) * 10 ^ (a :: l).length ≤ 100000000000000000 := by
    have : 10 ^ (a :: l).length ≤ 10 ^ 4 := Nat.pow_le_pow_right (by omega) (by simp; omega)
    omega
  have hd : isDig a = true := by rcases ha with rfl | rfl <;> decide
  have hs := parse_small (a :: l) 0 hb
  have hlt : ∀ v, Lib.parseUint10 0 (a :: l) = .ok v → v < 100000 := fun v hv => by
    obtain ⟨h3, h4⟩ := hs.2 v hv
    have := valF_lt (a :: l) 0 h3
    have h5 : 10 ^ (a :: l).length ≤ 10 ^ 4 := Nat.pow_le_pow_right (by omega) (by simp; omega)
    omega
  have hok := fun (h : l.all isDig = true) => parse_val (a :: l) 0 (by rw [List.all_cons, hd, h]; rfl) (by
    have := valF_lt (a :: l) 0 (by rw [List.all_cons, hd, h]; rfl)
    have h5 : 10 ^ (a :: l).length ≤ 10 ^ 4 := Nat.pow_le_pow_right (by omega) (by simp; omega)
    omega)
  unfold Lib.atoiAll Lib.parseMag
  simp only [h43, h45, or_self, reduceCtorEq, not_false_eq_true, true_and, false_and, if_false]
  cases hq : Lib.parseUint10 0 (a :: l) with
  | ok v =>
    have := hlt v hq
    simp only
    rw [if_neg (by omega)]
    have h2 := hs.2 v hq
    refine ⟨fun h => (by cases h), fun v' h => ?_, fun _ => by rw [h2.2]⟩
    injection h with h
    have h3 := h2.1
    rw [List.all_cons, Bool.and_eq_true] at h3
    exact ⟨h3.2, by rw [← h, h2.2]⟩
  | range => exact absurd hq hs.1
  | _ =>
    refine ⟨fun h => (by cases h), fun v' h => (by cases h), fun h => ?_⟩
    have h3 := hok h
    rw [hq] at h3; cases h3
end Go.Proofs.YtiepobifbkleaaaDoor

-- from XCodQ
/- Walks: a quality. -/
namespace Go.Proofs.YtiepobifbkleaaaDoor
open Go.RowKit

theorem codQ_no {l : List UInt8} (h : ¬ (((cutL l 46).1 = [48] ∨ (cutL l 46).1 = [49]) ∧ (cutL l 46).2.1.length ≤ 3 ∧ (cutL l 46).2.1.all isDig = true ∧ qVal ((cutL l 46).1.headD 0) (cutL l 46).2.1 ≤ 1000)) : codQ l = (0, false) := by
  unfold codQ; rw [if_neg h]
theorem codQ_one (a : UInt8) (h : a = 48 ∨ a = 49) : codQ [a] = ((a.toNat - 48) * 1000, true) := by
  rcases h with rfl | rfl <;> decide
theorem cut_dot {a : UInt8} {d : List UInt8} (h : a = 48 ∨ a = 49) : cutL (a :: 46 :: d) 46 = ([a], d, true) := by
  rcases h with rfl | rfl <;> simp [cutL]
theorem codQ_dot {a : UInt8} {d : List UInt8} (h : a = 48 ∨ a = 49) : codQ (a :: 46 :: d) = if d.length ≤ 3 ∧ d.all isDig = true ∧ qVal a d ≤ 1000 then (qVal a d, true) else (0, false) := by
  unfold codQ
  rw [cut_dot h]
  have h1 : ([a] = [48] ∨ [a] = [49]) := by rcases h with rfl | rfl <;> simp
  simp only [h1, true_and, List.headD_cons]
theorem cut_head (a : UInt8) (l : List UInt8) (h : (cutL (a :: l) 46).1 = [48] ∨ (cutL (a :: l) 46).1 = [49]) : (a = 48 ∨ a = 49) ∧ (l = [] ∨ ∃ d, l = 46 :: d) := by
  unfold cutL at h
  split at h
  · rcases h with h | h <;> simp at h
  · simp only [List.cons.injEq] at h
    refine ⟨by rcases h with h | h; exact .inl h.1; exact .inr h.1, ?_⟩
    have h2 : (cutL l 46).1 = [] := by rcases h with h | h <;> exact h.2
    cases l with
    | nil => exact .inl rfl
    | cons b l =>
      right
      unfold cutL at h2
      split at h2
      · rename_i hb; exact ⟨l, by rw [hb]⟩
      · simp at h2
theorem codQ_bad {a : UInt8} {l : List UInt8} (h : ¬ ((a = 48 ∨ a = 49) ∧ (l = [] ∨ ∃ d, l = 46 :: d))) : codQ (a :: l) = (0, false) := codQ_no fun hc => h (cut_head a l hc.1)

/-- The places behind the point, as far as they are read. -/
def qTo (a : UInt8) (d : List UInt8) (j : Nat) : Nat := (a.toNat - 48) * 1000 + (if 0 < j then ((d.getD 0 0).toNat - 48) * 100 else 0) + (if 1 < j then ((d.getD 1 0).toNat - 48) * 10 else 0) + (if 2 < j then ((d.getD 2 0).toNat - 48) else 0)
def qW (j : Nat) : Nat := if j = 0 then 100 else if j = 1 then 10 else if j = 2 then 1 else 0
theorem qTo_step (a : UInt8) (d : List UInt8) (j : Nat) (hj : j < 3) : qTo a d (j + 1) = qTo a d j + ((d.getD j 0).toNat - 48) * qW j := by
  have h : j = 0 ∨ j = 1 ∨ j = 2 := by omega
  rcases h with rfl | rfl | rfl <;> simp [qTo, qW]
theorem qW_step (j : Nat) (hj : j < 3) : qW (j + 1) = qW j / 10 := by
  have h : j = 0 ∨ j = 1 ∨ j = 2 := by omega
  rcases h with rfl | rfl | rfl <;> simp [qW]
theorem qTo_all (a : UInt8) (d : List UInt8) (h : d.length ≤ 3) : qTo a d d.length = qVal a d := by
  match d, h with
  | [], _ => simp [qTo, qVal, valF]; omega
  | [x], _ => simp [qTo, qVal, valF]; omega
  | [x, y], _ => simp [qTo, qVal, valF]; omega
  | [x, y, z], _ => simp [qTo, qVal, valF]; omega
  | _ :: _ :: _ :: _ :: _, h => simp at h
theorem qTo_le (a : UInt8) (d : List UInt8) (j : Nat) : qTo a d j ≤ 1000000 := by
  have h0 := a.toNat_lt
  have h1 := (d.getD 0 0).toNat_lt
  have h2 := (d.getD 1 0).toNat_lt
  have h3 := (d.getD 2 0).toNat_lt
  unfold qTo
  split <;> split <;> split <;> omega

def QEnd (l : List UInt8) : Value := .tuple #[.int .i64 ((codQ l).1 : Int), .bool (codQ l).2]
theorem QEnd_no {l : List UInt8} (h : codQ l = (0, false)) : QEnd l = .tuple #[.int .i64 0, .bool false] := by unfold QEnd; rw [h]; rfl

theorem b8_eq {a b : UInt8} (h : a = b) : ((a.toNat : Int) == (b.toNat : Int)) = true := by subst h; simp
theorem b8_ne {a b : UInt8} (h : a ≠ b) : ¬ (a.toNat : Int) = (b.toNat : Int) := fun e => h (UInt8.toNat_inj.mp (by omega))

/-- What the loop over the places carries. -/
def QRel (a : UInt8) (d : List UInt8) (n wt i : Value) : Prop := ∃ j, j ≤ d.length ∧ i = .int .i64 ((j : Int) + 2) ∧ n = .int .i64 (qTo a d j : Int) ∧ wt = .int .i64 (qW j : Int) ∧ (d.take j).all isDig = true

end Go.Proofs.YtiepobifbkleaaaDoor

-- from XCodQi
/- Walks: a quality, by the program. -/
namespace Go.Proofs.YtiepobifbkleaaaDoor
open Go.RowKit

theorem qS (a : UInt8) (D : List UInt8) (h : D.length ≤ 3) : (⟨#[a]⟩ ++ ⟨D.toArray⟩ ++ (⟨#[48, 48, 48]⟩ : ByteArray).extract D.length 3 : ByteArray) = ⟨(a :: (D ++ List.replicate (3 - D.length) 48)).toArray⟩ := by
  match D, h with
  | [], _ => rfl
  | [x], _ => rfl
  | [x, y], _ => rfl
  | [x, y, z], _ => rfl
  | _ :: _ :: _ :: _ :: _, h => simp at h
theorem q_digs (D : List UInt8) (n : Nat) : (D ++ List.replicate n (48 : UInt8)).all isDig = D.all isDig := by
  rw [List.all_append]
  have : (List.replicate n (48 : UInt8)).all isDig = true := by
    rw [List.all_eq_true]
    intro x hx
    rw [List.eq_of_mem_replicate hx]; decide
  rw [this, Bool.and_true]

/-- How the reading of a quality's four digits ends. -/
def QAtoi (a : UInt8) (D : List UInt8) (w : World) (e : Ending) (w' : World) : Prop :=
  Below w.heap.size w w' ∧ ((e = .returned (.tuple #[.int .i64 (qVal a D : Int), .nilIface]) ∧ D.all isDig = true) ∨ ∃ t p v, e = .returned (.tuple #[.int .i64 v, .iface t p]) ∧ D.all isDig = false)
end Go.Proofs.YtiepobifbkleaaaDoor

-- from XLaidC
/- The table of the names of codings: what a row's list of package-level variables gives. -/
namespace Go.Proofs.YtiepobifbkleaaaDoor
open Go.RowKit

def strsData {H : Type} (zs : List (List UInt8)) : DataW H := .agg (zs.map fun z => .lit (.string z))

/-- An array of texts that reads as the table holds the table's texts, cell for cell. -/
theorem cells_of_strs {H : Type} {enc : TypeId × Value → H} {P : Program} {w : World} {base : Nat} {sp : Nat → Bool} {held : Bool} {fuel : Nat} {t e : TypeId} {n : Nat} {cs : List Value} {zs : List (List UInt8)} {p : List MemPlace}
    (ht : P.underlying t = some (.array n e)) (he : P.underlying e = some .string) (hce : P.cellsOf e = 1) (hct : P.cellsOf t = n)
    (h : DataW.trod enc P w base sp held fuel t cs = some (strsData zs, p)) : cs = zs.map strV := by
  cases fuel with
  | zero => simp [DataW.trod] at h
  | succ fuel =>
    simp only [DataW.trod, ht, hce, hct, Nat.mul_one] at h
    split at h
    · rename_i hl
      obtain ⟨xs, hm, hx⟩ := Option.map_eq_some_iff.1 h
      have hxs : xs.map (·.1) = zs.map fun z => (DataW.lit (.string z) : DataW H) := by
        have := congrArg Prod.fst hx
        simpa [strsData] using this
      have hxl : xs.length = n := by simpa using Lib.mapM_length hm
      have hzl : zs.length = n := by
        have := congrArg List.length hxs
        simp at this
        omega
      apply List.ext_getElem?
      intro i
      by_cases hi : i < n
      · obtain ⟨b, hb, hf⟩ := Lib.mapM_at hm i i (by simp [hi])
        obtain ⟨z, hc, rfl, _⟩ := DataW.trod_string he hf
        have h1 : cs[i]? = some (.string z) := by
          have := congrArg (·[0]?) hc
          simpa [List.getElem?_take, List.getElem?_drop] using this
        have h2 : (xs.map (·.1))[i]? = some (DataW.lit (.string z.data.toList) : DataW H) := by simp [hb]
        rw [hxs] at h2
        simp only [List.getElem?_map, Option.map_eq_some_iff, DataW.lit.injEq, Lit.string.injEq] at h2
        obtain ⟨z', hz', hz2⟩ := h2
        rw [h1, List.getElem?_map, hz']
        simp [hz2]
      · rw [List.getElem?_eq_none (by omega), List.getElem?_eq_none (by simp; omega)]
    · cases h

/-- The names of codings lie in their variable. -/
def Cds (w : World) : Prop := 0 < w.heap.size ∧ w.cell? ⟨0, 0, none⟩ = some (.string ⟨#[112, 108, 97, 105, 110]⟩) ∧ w.cell? ⟨0, 1, none⟩ = some (.string ⟨#[103, 122]⟩) ∧ w.cell? ⟨0, 2, none⟩ = some (.string ⟨#[98, 114]⟩)
theorem Cds.below {w w' : World} (h : Cds w) {B : Nat} (hb : Below B w w') (hB : w.heap.size ≤ B) : Cds w' := by
  obtain ⟨h0, h1, h2, h3⟩ := h
  have hl := Nat.lt_of_lt_of_le h0 hB
  exact ⟨Nat.lt_of_lt_of_le h0 hb.size, (hb.cell (p := ⟨0, 0, none⟩) hl).trans h1, (hb.cell (p := ⟨0, 1, none⟩) hl).trans h2, (hb.cell (p := ⟨0, 2, none⟩) hl).trans h3⟩
theorem Cds.drewN {w : World} (h : Cds w) (n : Nat) : Cds (w.drewN n) := h

theorem gCds : Tryd.prog.globalNamed "loop.example/godown/impl.codingNames" = some 0 := by kernel_rfl
theorem gCdsT : (Tryd.prog.globals[0]?).map (·.type) = some 111 := by kernel_rfl
theorem cellsCds : Tryd.prog.cellsOf 111 = 3 := by kernel_rfl
theorem cellsCdsS : Tryd.prog.cellsOf 9 = 1 := by kernel_rfl

theorem cds_of_head {W : World} {rest : List (String × DataW Unit)} (h : laidMet Tryd.prog (("loop.example/godown/impl.codingNames", Rows.laid_loop_example_godown_impl_codingNames) :: rest) W) : Cds W := by
  rw [show Rows.laid_loop_example_godown_impl_codingNames = strsData [nPlain, nGz, nBr] from by kernel_rfl] at h
  obtain ⟨ps, ⟨g', t', cs, fuel, p, q, hg', ht', hvar, hd, _, _⟩, _⟩ := h
  obtain rfl := Option.some.inj (gCds.symm.trans hg')
  obtain rfl := Option.some.inj (gCdsT.symm.trans ht')
  have hcs := cells_of_strs Tryd.underlying111 Tryd.underlying9 cellsCdsS cellsCds hd
  obtain ⟨l⟩ := cs
  have hcs : l = [strV nPlain, strV nGz, strV nBr] := hcs
  subst hcs
  have c0 := World.var?_cell gCds hvar 0
  have c1 := World.var?_cell gCds hvar 1
  have c2 := World.var?_cell gCds hvar 2
  exact ⟨World.block_lt_of_cell? W _ c0, c0, c1, c2⟩
end Go.Proofs.YtiepobifbkleaaaDoor

-- from XWant
/- Lists of what somebody would take: in memory; the laws' own helpers over them: sized, copied, equal, marked, held. -/
namespace Go.Proofs.YtiepobifbkleaaaDoor
open Go.RowKit Go.Maps

def WRow (w : World) (v : Value) (fs : List Wt) : Prop :=
  ∃ a c, v = .slice a fs.length c ∧ fs.length ≤ c ∧ c ≤ maxLen ∧ ∀ j f, fs[j]? = some f → ∃ b o, a = some ⟨b, o, none⟩ ∧ b < w.heap.size ∧ w.cell? ⟨b, o + j * 2, none⟩ = some (.int .i64 f.1) ∧ w.cell? ⟨b, o + j * 2 + 1, none⟩ = some (.int .i64 f.2)

theorem WRow.below {w w' : World} {v : Value} {fs : List Wt} (h : WRow w v fs) {B : Nat} (hB : w.heap.size ≤ B) (hb : Below B w w') : WRow w' v fs := by
  obtain ⟨a, c, rfl, h1, h2, h3⟩ := h
  refine ⟨a, c, rfl, h1, h2, fun j f hj => ?_⟩
  obtain ⟨b, o, rfl, hlt, c1, c2⟩ := h3 j f hj
  exact ⟨b, o, rfl, Nat.lt_of_lt_of_le hlt hb.size, (hb.cell (p := ⟨b, o + j * 2, none⟩) (Nat.lt_of_lt_of_le hlt hB)).trans c1, (hb.cell (p := ⟨b, o + j * 2 + 1, none⟩) (Nat.lt_of_lt_of_le hlt hB)).trans c2⟩
theorem WRow.drewN {w : World} {v : Value} {fs : List Wt} (h : WRow w v fs) (n : Nat) : WRow (w.drewN n) v fs := h
def noWt : Wt := (0, 0)
/-- Block g holds n fields, the i-th one F i; none is frozen. -/
def WCells (w : World) (g n : Nat) (F : Nat → Wt) : Prop :=
  ∃ cur t, w.heap[g]? = some (.cells cur t (0, 0)) ∧ n * 2 ≤ cur.size ∧ ∀ i, i < n → cur[i * 2]? = some (.int .i64 (F i).1) ∧ cur[i * 2 + 1]? = some (.int .i64 (F i).2)

theorem WCells.lt {w : World} {g n : Nat} {F : Nat → Wt} (h : WCells w g n F) : g < w.heap.size := by
  obtain ⟨cur, t, hh, _⟩ := h
  exact (Array.getElem?_eq_some_iff.1 hh).1
theorem WCells.keep {w w' : World} {g n : Nat} {F : Nat → Wt} (h : WCells w g n F) (hk : w'.heap[g]? = w.heap[g]?) : WCells w' g n F := by
  obtain ⟨cur, t, hh, r⟩ := h
  exact ⟨cur, t, hk.trans hh, r⟩
theorem WCells.congr {w : World} {g n : Nat} {F F' : Nat → Wt} (h : WCells w g n F) (he : ∀ i, i < n → F i = F' i) : WCells w g n F' := by
  obtain ⟨cur, t, hh, hs, hc⟩ := h
  exact ⟨cur, t, hh, hs, fun i hi => by rw [← he i hi]; exact hc i hi⟩
theorem WCells.cell0 {w : World} {g n : Nat} {F : Nat → Wt} (h : WCells w g n F) {i : Nat} (hi : i < n) : w.cell? ⟨g, i * 2, none⟩ = some (.int .i64 (F i).1) := by
  obtain ⟨cur, t, hh, hs, hc⟩ := h
  simp [World.cell?, hh, (hc i hi).1]
theorem WCells.cell1 {w : World} {g n : Nat} {F : Nat → Wt} (h : WCells w g n F) {i : Nat} (hi : i < n) : w.cell? ⟨g, i * 2 + 1, none⟩ = some (.int .i64 (F i).2) := by
  obtain ⟨cur, t, hh, hs, hc⟩ := h
  simp [World.cell?, hh, (hc i hi).2]
theorem WCells.frozen {w : World} {g n : Nat} {F : Nat → Wt} (h : WCells w g n F) (j : Nat) : w.frozen? ⟨g, j, none⟩ = false := by
  obtain ⟨cur, t, hh, hs, hc⟩ := h
  simp [World.frozen?, hh]
def wupd0 (F : Nat → Wt) (i : Nat) (s : Int) : Nat → Wt := fun j => if j = i then (s, (F j).2) else F j
def wupd1 (F : Nat → Wt) (i : Nat) (s : Int) : Nat → Wt := fun j => if j = i then ((F j).1, s) else F j
theorem WCells.set0 {w : World} {g n : Nat} {F : Nat → Wt} (h : WCells w g n F) {i : Nat} (_hi : i < n) (s : Int) : WCells (w.setCell ⟨g, i * 2, none⟩ (.int .i64 s)) g n (wupd0 F i s) := by
  obtain ⟨cur, t, hh, hs, hc⟩ := h
  refine ⟨_, t, heap_setCell_same w g (i * 2) cur t _ hh, by simpa using hs, fun j hj => ?_⟩
  obtain ⟨h0, h1⟩ := hc j hj
  rw [Array.getElem?_setIfInBounds, Array.getElem?_setIfInBounds]
  unfold wupd0
  by_cases e : j = i
  · subst e
    simp only [if_true, show ¬ (j * 2 = j * 2 + 1) from by omega, show j * 2 < cur.size from by omega, if_false]
    exact ⟨trivial, h1⟩
  · simp only [show ¬ (i * 2 = j * 2 + 1) from by omega, show ¬ (i * 2 = j * 2) from by omega, if_neg e, if_false]
    exact ⟨h0, h1⟩
theorem WCells.set1 {w : World} {g n : Nat} {F : Nat → Wt} (h : WCells w g n F) {i : Nat} (_hi : i < n) (s : Int) : WCells (w.setCell ⟨g, i * 2 + 1, none⟩ (.int .i64 s)) g n (wupd1 F i s) := by
  obtain ⟨cur, t, hh, hs, hc⟩ := h
  refine ⟨_, t, heap_setCell_same w g (i * 2 + 1) cur t _ hh, by simpa using hs, fun j hj => ?_⟩
  obtain ⟨h0, h1⟩ := hc j hj
  rw [Array.getElem?_setIfInBounds, Array.getElem?_setIfInBounds]
  unfold wupd1
  by_cases e : j = i
  · subst e
    simp only [if_true, show ¬ (j * 2 + 1 = j * 2) from by omega, show j * 2 + 1 < cur.size from by omega, if_false]
    exact ⟨h0, trivial⟩
  · simp only [show ¬ (i * 2 + 1 = j * 2 + 1) from by omega, show ¬ (i * 2 + 1 = j * 2) from by omega, if_neg e, if_false]
    exact ⟨h0, h1⟩
def wget (fs : List Wt) (i : Nat) : Wt := (fs[i]?).getD noWt
theorem wget_at {fs : List Wt} {i : Nat} {f : Wt} (h : fs[i]? = some f) : wget fs i = f := by simp [wget, h]
theorem WCells.row {w : World} {g : Nat} {fs : List Wt} (h : WCells w g fs.length (wget fs)) (hn : fs.length ≤ maxLen) : WRow w (.slice (some ⟨g, 0, none⟩) fs.length fs.length) fs := by
  refine ⟨_, _, rfl, Nat.le_refl _, hn, fun j f hj => ⟨g, 0, rfl, h.lt, ?_, ?_⟩⟩
  · have := h.cell0 (i := j) (List.getElem?_eq_some_iff.1 hj).1
    rw [wget_at hj] at this
    rw [Nat.zero_add]; exact this
  · have := h.cell1 (i := j) (List.getElem?_eq_some_iff.1 hj).1
    rw [wget_at hj] at this
    rw [Nat.zero_add]; exact this

theorem made_wt (n : Nat) : (madeCells (Value.agg #[.int .i64 0, .int .i64 0]).cells (n * 2)).size = n * 2 ∧ ∀ i, i < n → (madeCells (Value.agg #[.int .i64 0, .int .i64 0]).cells (n * 2))[i * 2]? = some (.int .i64 noWt.1) ∧ (madeCells (Value.agg #[.int .i64 0, .int .i64 0]).cells (n * 2))[i * 2 + 1]? = some (.int .i64 noWt.2) := by
  refine ⟨size_madeCells _ _, fun i hi => ?_⟩
  have hc : (Value.agg #[.int .i64 0, .int .i64 0]).cells = #[.int .i64 0, .int .i64 0] := by rfl
  unfold madeCells
  rw [hc]
  constructor
  · rw [Array.getElem?_map, Array.getElem?_range, if_pos (by omega)]
    simp [noWt]
  · rw [Array.getElem?_map, Array.getElem?_range, if_pos (by omega)]
    have : (i * 2 + 1) % 2 = 1 := by omega
    simp [noWt, this]

def wupto (fs : List Wt) (k : Nat) : Nat → Wt := fun i => if i < k then wget fs i else noWt
theorem wupto_step {fs : List Wt} {k : Nat} {a b : Int} (h : fs[k]? = some (a, b)) : wupd1 (wupd0 (wupto fs k) k a) k b = wupto fs (k + 1) := by
  funext i
  unfold wupd1 wupd0 wupto
  by_cases e : i = k
  · subst e
    simp [wget_at h]
  · rw [if_neg e, if_neg e]
    by_cases hi : i < k
    · rw [if_pos hi, if_pos (by omega)]
    · rw [if_neg hi, if_neg (by omega)]

def wcells (fs : List Wt) : List Value := fs.flatMap fun f => [.int .i64 f.1, .int .i64 f.2]
theorem wcells_len (fs : List Wt) : (wcells fs).length = fs.length * 2 := by
  induction fs with
  | nil => rfl
  | cons f fs ih => simp only [wcells, List.flatMap_cons, List.length_append, List.length_cons, List.length_nil] at ih ⊢; omega
theorem wcells_app (fs : List Wt) (f : Wt) : wcells (fs ++ [f]) = wcells fs ++ [.int .i64 f.1, .int .i64 f.2] := by simp [wcells]
theorem wcells_at : ∀ {fs : List Wt} {j : Nat} {f : Wt}, fs[j]? = some f → (wcells fs)[j * 2]? = some (.int .i64 f.1) ∧ (wcells fs)[j * 2 + 1]? = some (.int .i64 f.2)
  | [], j, f, h => by simp at h
  | a :: fs, 0, f, h => by
    have : a = f := by simpa using h
    subst this
    simp [wcells]
  | a :: fs, j + 1, f, h => by
    have h' : fs[j]? = some f := by simpa using h
    have ih := wcells_at h'
    have e : wcells (a :: fs) = [.int .i64 a.1, .int .i64 a.2] ++ wcells fs := rfl
    rw [e, List.getElem?_append_right (by simp; omega), List.getElem?_append_right (by simp; omega)]
    simpa [show (j + 1) * 2 - 2 = j * 2 from by omega, show (j + 1) * 2 + 1 - 2 = j * 2 + 1 from by omega] using ih
/-- A row of the call's own: nothing, or a block of pairs. -/
theorem own_wants {w : World} {B : Nat} {T : TypeId} {v : Value} {fs : List Wt} (h : w.ownsRow B T 2 v fs.length (wcells fs)) :
    (v = .slice none 0 0 ∧ fs = []) ∨ ∃ g cap, v = .slice (some ⟨g, 0, none⟩) fs.length cap ∧ B ≤ g ∧ fs.length ≤ cap ∧ cap ≤ maxLen ∧ WCells w g fs.length (wget fs) := by
  rcases h.2 with ⟨rfl, h0⟩ | ⟨g, cap, cur, rfl, hb, hh, hn, hm, hs, ht⟩
  · exact .inl ⟨rfl, List.eq_nil_of_length_eq_zero h0⟩
  · refine .inr ⟨g, cap, rfl, hb, hn, hm, cur, T, hh, by omega, fun i hi => ?_⟩
    have hat := wcells_at (List.getElem?_eq_getElem hi)
    rw [← ht] at hat
    rw [List.getElem?_take_of_lt (by omega), List.getElem?_take_of_lt (by omega)] at hat
    rw [wget_at (List.getElem?_eq_getElem hi)]
    simpa using hat
theorem wrow_of_own {w : World} {B : Nat} {T : TypeId} {v : Value} {fs : List Wt} (h : w.ownsRow B T 2 v fs.length (wcells fs)) : WRow w v fs := by
  rcases own_wants h with ⟨rfl, rfl⟩ | ⟨g, cap, rfl, _, h1, h2, h3⟩
  · exact ⟨none, 0, rfl, Nat.le_refl _, Nat.zero_le _, fun j f hj => by simp at hj⟩
  · refine ⟨_, cap, rfl, h1, h2, fun j f hj => ⟨g, 0, rfl, h3.lt, ?_, ?_⟩⟩
    · have := h3.cell0 (i := j) (List.getElem?_eq_some_iff.1 hj).1
      rw [wget_at hj] at this
      rw [Nat.zero_add]; exact this
    · have := h3.cell1 (i := j) (List.getElem?_eq_some_iff.1 hj).1
      rw [wget_at hj] at this
      rw [Nat.zero_add]; exact this

/-- The marks: two a thing. -/
def mk2 (F : Nat → Wt) (k j : Nat) : Nat → Wt := fun i => if i < j then ((k + 2 * i : Nat), (k + 2 * i + 1 : Nat)) else F i
theorem mk2_step (F : Nat → Wt) (k j : Nat) : wupd1 (wupd0 (mk2 F k j) j ((k + 2 * j : Nat) : Int)) j ((k + 2 * j + 1 : Nat) : Int) = mk2 F k (j + 1) := by
  funext i
  unfold wupd1 wupd0 mk2
  by_cases e : i = j
  · subst e
    simp
  · rw [if_neg e, if_neg e]
    by_cases hi : i < j
    · rw [if_pos hi, if_pos (by omega)]
    · rw [if_neg hi, if_neg (by omega)]

end Go.Proofs.YtiepobifbkleaaaDoor

-- from XCodN
/- Walks: the name of a coding; one thing that somebody would take. -/
namespace Go.Proofs.YtiepobifbkleaaaDoor
open Go.RowKit

/-- The coding of a name, and whether there is one. -/
def codK (l : List UInt8) : Int × Bool := if l = nPlain then (0, true) else if l = nGz then (1, true) else if l = nBr then (2, true) else (0, false)
def codW (l : List UInt8) : Int × Bool := if l = [42] then (-1, true) else codK (lowL l)

theorem low_star (l : List UInt8) : lowL l = [42] ↔ l = [42] := by
  constructor
  · intro h
    match l, h with
    | [c], h =>
      have hc : lowB c = 42 := by simpa [lowL] using h
      unfold lowB at hc
      split at hc
      · rename_i hg
        unfold isGreat at hg
        simp only [Bool.and_eq_true, decide_eq_true_eq] at hg
        have := congrArg UInt8.toNat hc
        rw [UInt8.toNat_add] at this
        have e1 : (32 : UInt8).toNat = 32 := rfl
        have e2 : (42 : UInt8).toNat = 42 := rfl
        rw [e1, e2] at this
        omega
      · rw [hc]
    | [], h => simp [lowL] at h
    | _ :: _ :: _, h => simp [lowL] at h
  · rintro rfl; decide
theorem codN_star : codN (lowL [42]) = -1 := by decide
theorem codW_codN (l : List UInt8) : codN (lowL l) = if (codW l).2 = true then (codW l).1 else -2 := by
  unfold codW codN
  by_cases h : l = [42]
  · rw [if_pos h, if_pos ((low_star l).2 h)]; rfl
  · rw [if_neg h, if_neg (fun e => h ((low_star l).1 e))]
    unfold codK
    split
    · rfl
    · split
      · rfl
      · split <;> rfl
theorem codK_ge (l : List UInt8) : 0 ≤ (codK l).1 ∧ (codK l).1 ≤ 2 := by
  unfold codK; split
  · decide
  · split
    · decide
    · split <;> decide
theorem codW_ge (l : List UInt8) : -1 ≤ (codW l).1 ∧ (codW l).1 ≤ 2 := by
  unfold codW; split
  · decide
  · have := codK_ge (lowL l); omega

def CRet (r : Int × Bool) : Value := .tuple #[.int .i64 r.1, .bool r.2]

theorem names_at0 (W : World) : (Instr.index 111 (.agg #[.string ⟨#[112, 108, 97, 105, 110]⟩, .string ⟨#[103, 122]⟩, .string ⟨#[98, 114]⟩]) (.int .i64 0)).run Tryd.prog W = .ok (.string ⟨#[112, 108, 97, 105, 110]⟩) W := by kernel_rfl
theorem names_at1 (W : World) : (Instr.index 111 (.agg #[.string ⟨#[112, 108, 97, 105, 110]⟩, .string ⟨#[103, 122]⟩, .string ⟨#[98, 114]⟩]) (.int .i64 1)).run Tryd.prog W = .ok (.string ⟨#[103, 122]⟩) W := by kernel_rfl
theorem names_at2 (W : World) : (Instr.index 111 (.agg #[.string ⟨#[112, 108, 97, 105, 110]⟩, .string ⟨#[103, 122]⟩, .string ⟨#[98, 114]⟩]) (.int .i64 2)).run Tryd.prog W = .ok (.string ⟨#[98, 114]⟩) W := by kernel_rfl

theorem pre_q (l : List UInt8) : ([113, 61] : List UInt8).isPrefixOf l = decide (l.take 2 = [113, 61]) := by
  match l with
  | [] => rfl
  | [a] => simp [List.isPrefixOf]
  | a :: b :: l =>
    rw [Bool.eq_iff_iff]
    simp only [List.isPrefixOf, Bool.and_true, Bool.and_eq_true, beq_iff_eq, List.take_succ_cons, List.take_zero, decide_eq_true_eq, List.cons.injEq, and_true]
    exact ⟨fun h => ⟨h.1.symm, h.2.symm⟩, fun h => ⟨h.1.symm, h.2.symm⟩⟩

end Go.Proofs.YtiepobifbkleaaaDoor

-- from XCodO
/- Walks: one thing that somebody would take, by the program. -/
namespace Go.Proofs.YtiepobifbkleaaaDoor
open Go.RowKit

theorem codOne_eq (l : List UInt8) : codOne l = if (codW (nameOf l)).2 = false then none
    else if (cutL l 59).2.2 = false then some ((codW (nameOf l)).1, 1000)
    else if (restOf l).take 2 = [113, 61] ∧ (codQ ((restOf l).drop 2)).2 = true then some ((codW (nameOf l)).1, ((codQ ((restOf l).drop 2)).1 : Int)) else none := by
  have h := codW_codN (nameOf l)
  have hg := codW_ge (nameOf l)
  unfold codOne
  by_cases c : (codW (nameOf l)).2 = true
  · rw [if_pos c] at h
    rw [h, if_neg (by omega), if_neg (show ¬ (codW (nameOf l)).2 = false from by rw [c]; decide)]
  · rw [if_neg c] at h
    rw [h, if_pos rfl, if_pos (by simpa using c)]

/-- What the reading of one thing returns. -/
def ORet (l : List UInt8) (e : Ending) : Prop := ∃ c q : Int, e = .returned (.tuple #[.agg #[.int .i64 c, .int .i64 q], .bool (codOne l).isSome]) ∧ ∀ x, codOne l = some x → x = (c, q)

theorem wt_facts {w : World} {b : Nat} {x y : Value} {T : TypeId} (h : w.heap[b]? = some (.cells #[x, y] T (0, 0))) : w.cell? ⟨b, 0, none⟩ = some x ∧ w.cell? ⟨b, 1, none⟩ = some y ∧ w.frozen? ⟨b, 0, none⟩ = false ∧ w.frozen? ⟨b, 1, none⟩ = false := by
  simp [World.cell?, World.frozen?, h]
theorem wt_set {w : World} {b : Nat} {x y : Value} {T : TypeId} (h : w.heap[b]? = some (.cells #[x, y] T (0, 0))) (x' y' : Value) : ((w.setCell ⟨b, 0, none⟩ x').setCell ⟨b, 1, none⟩ y').heap[b]? = some (.cells #[x', y'] T (0, 0)) := by
  have h1 := heap_setCell_same w b 0 _ _ x' h
  have h2 := heap_setCell_same _ b 1 _ _ y' h1
  simpa using h2
theorem wt_set1 {w : World} {b : Nat} {x y : Value} {T : TypeId} (h : w.heap[b]? = some (.cells #[x, y] T (0, 0))) (y' : Value) : (w.setCell ⟨b, 1, none⟩ y').heap[b]? = some (.cells #[x, y'] T (0, 0)) := by
  have h2 := heap_setCell_same _ b 1 _ _ y' h
  simpa using h2
theorem wt_below {w W : World} {b : Nat} (h : Below w.heap.size w W) (hb : w.heap.size ≤ b) (x y : Value) : Below w.heap.size w ((W.setCell ⟨b, 0, none⟩ x).setCell ⟨b, 1, none⟩ y) :=
  (h.setCell (by simpa using hb) x).setCell (by simpa using hb) y

end Go.Proofs.YtiepobifbkleaaaDoor

-- from XMaskI
/- Walks: the set of what would be taken, by the program. -/
namespace Go.Proofs.YtiepobifbkleaaaDoor
open Go.RowKit Go.Maps

theorem eqs_at (xs : List Value) (i : Nat) (v : Value) (w w' : World) (h : RAt (xs.map REq) i v w) : RAt (xs.map REq) i v w' := by
  unfold RAt at h ⊢
  rw [List.getD_eq_getElem?_getD, List.getElem?_map] at h ⊢
  cases hx : xs[i]? with
  | none => trivial
  | some x => rw [hx] at h; exact h

theorem or_bits : ∀ m : Fin 8, (m.val < 1 → bits .or .i64 (m.val : Int) 1 = (m.val : Int) + 1) ∧ (m.val < 2 → bits .or .i64 (m.val : Int) 2 = (m.val : Int) + 2) ∧ (m.val < 4 → bits .or .i64 (m.val : Int) 4 = (m.val : Int) + 4) := by decide

end Go.Proofs.YtiepobifbkleaaaDoor

-- from XCodS
/- Walks: one thing that somebody would take, by the specification. -/
namespace Go.Proofs.YtiepobifbkleaaaDoor
open Go.RowKit

end Go.Proofs.YtiepobifbkleaaaDoor

-- from XCodT
/- Walks: one thing that somebody would take, by the specification, whole. -/
namespace Go.Proofs.YtiepobifbkleaaaDoor
open Go.RowKit

end Go.Proofs.YtiepobifbkleaaaDoor

-- from XCodU
/- Walks: what somebody would take, read, by the program and by the specification. -/
namespace Go.Proofs.YtiepobifbkleaaaDoor
open Go.RowKit Go.Maps

theorem own_base {w : World} {B B' : Nat} {T : TypeId} {size n : Nat} {v : Value} {xs : List Value} (h : w.ownsRow B T size v n xs) (hB : B' ≤ B) : w.ownsRow B' T size v n xs := by
  rcases h with ⟨h1, h2 | ⟨g, cap, cur, h2, h3, h4⟩⟩
  · exact ⟨h1, .inl h2⟩
  · exact ⟨h1, .inr ⟨g, cap, cur, h2, Nat.le_trans hB h3, h4⟩⟩
theorem pair_newI (w : World) (s t : Int) (T : TypeId) : ∀ (j : Nat) u, [Value.int .i64 s, .int .i64 t][j]? = some u → (w.alloc (.cells #[.int .i64 s, .int .i64 t] T)).cell? ((⟨w.heap.size, 0, none⟩ : Addr).add j) = some u := by
  intro j u hu
  match j, hu with
  | 0, hu => exact (World.cell?_alloc_at _ _ _ _ rfl).trans (by simpa using hu)
  | 1, hu => exact (World.cell?_alloc_at _ _ _ _ rfl).trans (by simpa using hu)
  | j + 2, hu => simp at hu
theorem parts_le6 {c : UInt8} : ∀ {l p : List UInt8}, p ∈ partsL l c → p.length ≤ l.length := by
  intro l
  induction l with
  | nil => intro p h; have : p = [] := by simpa [partsL] using h
           subst this; simp
  | cons b l ih =>
    intro p h
    unfold partsL at h
    split at h
    · rcases List.mem_cons.1 h with rfl | h
      · simp
      · have := ih h; simp; omega
    · have hne := partsL_ne l c
      cases hq : partsL l c with
      | nil => exact absurd hq hne
      | cons q qs =>
        rw [hq] at h
        rcases List.mem_cons.1 h with rfl | h
        · have := ih (p := q) (by rw [hq]; exact List.mem_cons_self ..)
          simp; omega
        · have := ih (p := p) (by rw [hq]; exact List.mem_cons_of_mem _ h)
          simp; omega

end Go.Proofs.YtiepobifbkleaaaDoor

-- from XCodOf
/- Walks: the set of codings that a request would take. -/
namespace Go.Proofs.YtiepobifbkleaaaDoor
open Go.RowKit Go.Maps

def bAccept : ByteArray := ⟨#[97, 99, 99, 101, 112, 116]⟩
/-- The set of codings that fields would take. -/
def codOfF (fs : List Fd) : Nat := match oneOf (allTo fs bAccept fs.length) with
  | (v, true) => match codParse v.data.toList with
    | some ws => maskL ws
    | none => 1
  | _ => 1
theorem codOf_no {fs : List Fd} {v : ByteArray} (h : oneOf (allTo fs bAccept fs.length) = (v, false)) : codOfF fs = 1 := by
  unfold codOfF; rw [h]
theorem codOf_bad {fs : List Fd} {v : ByteArray} (h : oneOf (allTo fs bAccept fs.length) = (v, true)) (h2 : codParse v.data.toList = none) : codOfF fs = 1 := by
  unfold codOfF; rw [h]; simp only; rw [h2]
theorem codOf_yes {fs : List Fd} {v : ByteArray} {ws : List Wt} (h : oneOf (allTo fs bAccept fs.length) = (v, true)) (h2 : codParse v.data.toList = some ws) : codOfF fs = maskL ws := by
  unfold codOfF; rw [h]; simp only; rw [h2]
theorem one_sizeK {fs : List Fd} {K : Nat} (hok : FOk fs K) (s : ByteArray) : (oneOf (allTo fs s fs.length)).1.size ≤ K := by
  have h : ∀ k, ∀ x ∈ allTo fs s k, x.size ≤ K := by
    intro k
    induction k with
    | zero => intro x hx; simp [allTo] at hx
    | succ k ih =>
      intro x hx
      cases hf : fs[k]? with
      | none => rw [allTo] at hx; simp only [hf] at hx; exact ih x hx
      | some f =>
        rw [allTo_at s hf] at hx
        split at hx
        · rcases List.mem_append.1 hx with hx | hx
          · exact ih x hx
          · have : x = f.2 := by simpa using hx
            rw [this]; exact (hok f (List.mem_of_getElem? hf)).2
        · exact ih x hx
  by_cases h1 : (allTo fs s fs.length).length = 1
  · obtain ⟨x, hx, ho⟩ := oneOf_one h1
    rw [ho]; exact h fs.length x (by rw [hx]; exact List.mem_cons_self ..)
  · rw [oneOf_not h1]; exact Nat.zero_le _

end Go.Proofs.YtiepobifbkleaaaDoor

