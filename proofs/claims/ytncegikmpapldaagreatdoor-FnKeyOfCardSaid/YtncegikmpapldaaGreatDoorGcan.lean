import Derived.Test.YtncegikmpapldaaGreatDoorCutB
import Derived.Test.YtncegikmpapldaaGreatDoorOwn
import Derived.Test.YtncegikmpapldaaGreatDoorOwn2
import Derived.Test.YtncegikmpapldaaGreatDoorParts
import Derived.Test.YtncegikmpapldaaGreatDoorTok
import Derived.Laws.EntriesVeiled
import Derived.Deep.RegionWith
import Derived.Deep.RegionLaw
import Derived.Test.YtncegikmpapldaaGreatDoorLaid
-- from XUri
/- Places: plain functions on lists of bytes, and walks of the small helpers: digits of codes, codes, paths, what lies under. -/
namespace Go.Proofs.YtncegikmpapldaaGreatDoor
open Go.RowKit

/-- What a digit of a code says. -/
def hexV (c : UInt8) : Option Nat :=
  if 48 ≤ c.toNat ∧ c.toNat ≤ 57 then some (c.toNat - 48) else if 97 ≤ c.toNat ∧ c.toNat ≤ 102 then some (c.toNat - 87) else if 65 ≤ c.toNat ∧ c.toNat ≤ 70 then some (c.toNat - 55) else none

theorem hexV_lt {c : UInt8} {x : Nat} (h : hexV c = some x) : x < 16 := by
  unfold hexV at h
  split at h
  · simp at h; omega
  · split at h
    · simp at h; omega
    · split at h
      · simp at h; omega
      · cases h

theorem hexV_cases (c : UInt8) : (48 ≤ c.toNat ∧ c.toNat ≤ 57 ∧ hexV c = some (c.toNat - 48)) ∨ (97 ≤ c.toNat ∧ c.toNat ≤ 102 ∧ hexV c = some (c.toNat - 87)) ∨ (65 ≤ c.toNat ∧ c.toNat ≤ 70 ∧ hexV c = some (c.toNat - 55)) ∨
    ((c.toNat < 48 ∨ (58 ≤ c.toNat ∧ c.toNat ≤ 64) ∨ (71 ≤ c.toNat ∧ c.toNat ≤ 96) ∨ 103 ≤ c.toNat) ∧ hexV c = none) := by
  unfold hexV
  by_cases h1 : 48 ≤ c.toNat ∧ c.toNat ≤ 57
  · exact .inl ⟨h1.1, h1.2, if_pos h1⟩
  · by_cases h2 : 97 ≤ c.toNat ∧ c.toNat ≤ 102
    · exact .inr (.inl ⟨h2.1, h2.2, by rw [if_neg h1, if_pos h2]⟩)
    · by_cases h3 : 65 ≤ c.toNat ∧ c.toNat ≤ 70
      · exact .inr (.inr (.inl ⟨h3.1, h3.2, by rw [if_neg h1, if_neg h2, if_pos h3]⟩))
      · exact .inr (.inr (.inr ⟨by omega, by rw [if_neg h1, if_neg h2, if_neg h3]⟩))

theorem hexV_37 : hexV 37 = none := by decide

theorem wrap_u8 (r : Nat) (h : r < 256) : IntKind.u8.wrap (r : Int) = (r : Int) := by simp [IntKind.wrap, IntKind.bits, IntKind.signed]; omega

def hexI (c : UInt8) : Int := match hexV c with | some x => (x : Int) | none => -1

set_option maxHeartbeats 400000 in
theorem l2_hex (c : UInt8) (w : World) :
    Calls Tryz.prog 186 #[.int .u8 c.toNat] w fun e w' => e = .returned (.int .i64 (hexI c)) ∧ w = w' := by
  have hc := c.toNat_lt
  unfold hexI
  rcases hexV_cases c with ⟨h1, h2, e⟩ | ⟨h1, h2, e⟩ | ⟨h1, h2, e⟩ | ⟨hr, e⟩
  · rw [e]; clear e
    generalize c.toNat = n at *
    go_enter Tryz.func186, Tryz.ntmps186
    go_wp2
    go_ret
    exact ⟨by go_num, rfl⟩
  · rw [e]; clear e
    generalize c.toNat = n at *
    go_enter Tryz.func186, Tryz.ntmps186
    go_wp2
    go_ret
    exact ⟨by go_num, rfl⟩
  · rw [e]; clear e
    generalize c.toNat = n at *
    go_enter Tryz.func186, Tryz.ntmps186
    go_wp2
    go_ret
    exact ⟨by go_num, rfl⟩
  · rw [e]; clear e
    generalize c.toNat = n at *
    rcases hr with hr | ⟨h1, h2⟩ | ⟨h1, h2⟩ | hr
    all_goals go_enter Tryz.func186, Tryz.ntmps186
    all_goals go_wp2
    all_goals go_ret
    all_goals exact ⟨rfl, rfl⟩

set_option maxHeartbeats 400000 in
theorem hex_value_some (c : UInt8) (x : Nat) (hx : hexV c = some x) (w : World) :
    Calls Tryz.prog 219 #[.int .u8 c.toNat] w fun e w' => e = .returned (.tuple #[.int .u8 (x : Int), .bool true]) ∧ w = w' := by
  have hc := c.toNat_lt
  rcases hexV_cases c with ⟨h1, h2, e⟩ | ⟨h1, h2, e⟩ | ⟨h1, h2, e⟩ | ⟨hr, e⟩
  · rw [e] at hx; obtain rfl := Option.some.inj hx; clear e hx
    generalize c.toNat = n at *
    go_enter Tryz.func219, Tryz.ntmps219
    go_wp2
    go_ret2
    exact ⟨by go_num, rfl⟩
  · rw [e] at hx; obtain rfl := Option.some.inj hx; clear e hx
    generalize c.toNat = n at *
    go_enter Tryz.func219, Tryz.ntmps219
    go_wp2
    go_ret2
    exact ⟨by go_num, rfl⟩
  · rw [e] at hx; obtain rfl := Option.some.inj hx; clear e hx
    generalize c.toNat = n at *
    go_enter Tryz.func219, Tryz.ntmps219
    go_wp2
    go_ret2
    exact ⟨by go_num, rfl⟩
  · rw [e] at hx; cases hx

set_option maxHeartbeats 400000 in
theorem hex_value_none (c : UInt8) (hx : hexV c = none) (w : World) :
    Calls Tryz.prog 219 #[.int .u8 c.toNat] w fun e w' => e = .returned (.tuple #[.int .u8 0, .bool false]) ∧ w = w' := by
  have hc := c.toNat_lt
  rcases hexV_cases c with ⟨h1, h2, e⟩ | ⟨h1, h2, e⟩ | ⟨h1, h2, e⟩ | ⟨hr, e⟩
  · rw [e] at hx; cases hx
  · rw [e] at hx; cases hx
  · rw [e] at hx; cases hx
  · clear e hx
    generalize c.toNat = n at *
    rcases hr with hr | ⟨h1, h2⟩ | ⟨h1, h2⟩ | hr
    all_goals go_enter Tryz.func219, Tryz.ntmps219
    all_goals go_wp2
    all_goals go_ret2
    all_goals exact ⟨rfl, rfl⟩

/-- The byte that the first three bytes are a code of. -/
def codeL : List UInt8 → Option Nat
  | c :: a :: b :: _ => if c = 37 then (match hexV a, hexV b with | some x, some y => some (x * 16 + y) | _, _ => none) else none
  | _ => none
def codeI (l : List UInt8) : Int := match codeL l with | some x => (x : Int) | none => -1

theorem drop_at (s : ByteArray) (k : Nat) (h : k < s.size) : s.data.toList.drop k = s[k] :: s.data.toList.drop (k + 1) := by
  have hk : k < s.data.toList.length := by rw [← size_len]; exact h
  rw [List.drop_eq_getElem_cons hk]; rfl
theorem drop_end (s : ByteArray) (k : Nat) (h : s.size ≤ k) : s.data.toList.drop k = [] := List.drop_of_length_le (by rw [← size_len]; exact h)

theorem codeL_short {l : List UInt8} (h : l.length < 3) : codeL l = none := by
  match l, h with
  | [], _ => rfl
  | [_], _ => rfl
  | [_, _], _ => rfl
  | _ :: _ :: _ :: _, h => simp at h; omega

theorem codeL_cons (a b : UInt8) (l : List UInt8) : codeI (37 :: a :: b :: l) = if hexI a < 0 then -1 else if hexI b < 0 then -1 else hexI a * 16 + hexI b := by
  unfold codeI codeL hexI
  simp only [if_true]
  cases h1 : hexV a with
  | none => simp
  | some x =>
    cases h2 : hexV b with
    | none => simp
    | some y => simp only; rw [if_neg (by omega), if_neg (by omega)]; omega
theorem codeL_ne {c : UInt8} {l : List UInt8} (h : c ≠ 37) : codeL (c :: l) = none := by
  match l with
  | [] => rfl
  | [_] => rfl
  | _ :: _ :: _ => simp [codeL, h]
theorem hexI_in (c : UInt8) : -1 ≤ hexI c ∧ hexI c < 16 := by
  unfold hexI; cases h1 : hexV c with
  | none => simp
  | some x => have := hexV_lt h1; simp only; omega
theorem codeI_ne {c : UInt8} {l : List UInt8} (h : c ≠ 37) : codeI (c :: l) = -1 := by unfold codeI; rw [codeL_ne h]

set_option maxHeartbeats 400000 in
theorem l2_code (s : ByteArray) (k : Nat) (hk : k < s.size) (w : World) (hs : s.size ≤ maxLen) :
    Calls Tryz.prog 161 #[.string s, .int .i64 k] w fun e w' => e = .returned (.int .i64 (codeI (s.data.toList.drop k))) ∧ w = w' := by
  unfold maxLen at hs
  by_cases h3 : k + 3 ≤ s.size
  · rw [drop_at s k hk, drop_at s (k + 1) (by omega), drop_at s (k + 1 + 1) (by omega)]
    by_cases hc : s[k] = 37
    · rw [hc, codeL_cons]
      have b1 := hexI_in s[k + 1]
      have b2 := hexI_in s[k + 1 + 1]
      have c1 := fun W => l2_hex s[k + 1] W
      have c2 := fun W => l2_hex s[k + 1 + 1] W
      have hc' : ((s[k].toNat : Int) != 37) = false := by rw [hc]; rfl
      clear hc
      generalize hexI s[k + 1] = x at *
      generalize hexI s[k + 1 + 1] = y at *
      obtain ⟨R, hR⟩ : ∃ R : Int, R = if x < 0 then -1 else if y < 0 then -1 else x * 16 + y := ⟨_, rfl⟩
      rw [← hR]
      have HR := Lib.hid hR; clear hR
      go_enter Tryz.func161, Tryz.ntmps161
      go_wp2_with fail
      refine (c1 _).mono ?_
      rintro e w' ⟨rfl, rfl⟩
      go_wp2_with fail
      refine (c2 _).mono ?_
      rintro e w' ⟨rfl, rfl⟩
      clear c1 c2
      by_cases hx : x < 0
      · go_wp2
        go_ret
        exact ⟨by rw [HR.out, if_pos hx]; rfl, rfl⟩
      · by_cases hy : y < 0
        · go_wp2
          go_ret
          exact ⟨by rw [HR.out, if_neg (by omega), if_pos hy]; rfl, rfl⟩
        · go_wp2
          go_ret
          refine ⟨?_, rfl⟩
          rw [HR.out, if_neg (by omega), if_neg (by omega)]; go_num
    · rw [codeI_ne hc]
      have hc' : ((s[k].toNat : Int) != 37) = true := by
        simp only [bne_iff_ne]; intro h
        exact hc (UInt8.toNat_inj.mp (by have e : (37 : UInt8).toNat = 37 := rfl; omega))
      clear hc
      go_enter Tryz.func161, Tryz.ntmps161
      go_wp2
      go_ret
      exact ⟨rfl, rfl⟩
  · have he : codeI (s.data.toList.drop k) = -1 := by unfold codeI; rw [codeL_short (by rw [List.length_drop, ← size_len]; omega)]
    rw [he]; clear he
    go_enter Tryz.func161, Tryz.ntmps161
    go_wp2
    go_ret
    exact ⟨rfl, rfl⟩

def pathL (l : List UInt8) : List UInt8 := (cutL l 63).1

end Go.Proofs.YtncegikmpapldaaGreatDoor

-- from XMeans
/- Places: the bytes that a place means: the machine that takes it byte by byte, and its model. -/
namespace Go.Proofs.YtncegikmpapldaaGreatDoor
open Go.RowKit

/-- The bytes that a text means: each code replaced by its byte. -/
def meansL : List UInt8 → List UInt8
  | [] => []
  | c :: l => match codeL (c :: l) with
    | some n => UInt8.ofNat n :: meansL (l.drop 2)
    | none => c :: meansL l
termination_by l => l.length
decreasing_by
  · simp; omega
  · simp

theorem meansL_nil : meansL [] = [] := by rw [meansL]
theorem meansL_none {c : UInt8} {l : List UInt8} (h : codeL (c :: l) = none) : meansL (c :: l) = c :: meansL l := by rw [meansL]; rw [h]
theorem meansL_some {c : UInt8} {l : List UInt8} {n : Nat} (h : codeL (c :: l) = some n) : meansL (c :: l) = UInt8.ofNat n :: meansL (l.drop 2) := by rw [meansL]; rw [h]
theorem meansL_len (l : List UInt8) : (meansL l).length ≤ l.length := by
  induction h : l.length using Nat.strongRecOn generalizing l with
  | _ n ih =>
    subst h
    match l with
    | [] => rw [meansL_nil]; simp
    | c :: l =>
      cases hc : codeL (c :: l) with
      | none => rw [meansL_none hc]; have := ih l.length (by simp) l rfl; simp; omega
      | some m => rw [meansL_some hc]; have := ih (l.drop 2).length (by simp; omega) (l.drop 2) rfl; simp at this ⊢; omega

theorem codeL_two {a b : UInt8} {l : List UInt8} : codeL (37 :: a :: b :: l) = match hexV a, hexV b with | some x, some y => some (x * 16 + y) | _, _ => none := by unfold codeL; simp only [if_true]; try rfl
theorem codeL_37_none {a : UInt8} {l : List UInt8} (h : hexV a = none) : codeL (37 :: a :: l) = none := by
  match l with
  | [] => rfl
  | b :: l => rw [codeL_two, h]
theorem codeL_37_none2 {a b : UInt8} {l : List UInt8} (h : hexV b = none) : codeL (37 :: a :: b :: l) = none := by
  rw [codeL_two, h]; cases hexV a <;> rfl
theorem codeL_37_some {a b : UInt8} {l : List UInt8} {x y : Nat} (h : hexV a = some x) (h2 : hexV b = some y) : codeL (37 :: a :: b :: l) = some (x * 16 + y) := by
  rw [codeL_two, h, h2]
theorem codeL_lt {l : List UInt8} {n : Nat} (h : codeL l = some n) : n < 256 := by
  match l, h with
  | c :: a :: b :: l, h =>
    by_cases hc : c = 37
    · subst hc
      rw [codeL_two] at h
      cases ha : hexV a with
      | none => rw [ha] at h; cases h
      | some x =>
        cases hb : hexV b with
        | none => rw [ha, hb] at h; cases h
        | some y =>
          rw [ha, hb] at h
          have := hexV_lt ha; have := hexV_lt hb; have := Option.some.inj h; omega
    · rw [codeL_ne hc] at h; cases h
  | [], h => cases h
  | [_], h => cases h
  | [_, _], h => cases h
theorem hex_ne_37 {a : UInt8} {x : Nat} (h : hexV a = some x) : a ≠ 37 := by rintro rfl; rw [hexV_37] at h; cases h

end Go.Proofs.YtncegikmpapldaaGreatDoor

-- from XMach
/- Places: the machine that takes a place byte by byte for what it means. -/
namespace Go.Proofs.YtncegikmpapldaaGreatDoor
open Go.RowKit

def u8s (l : List UInt8) : List Value := l.map fun c => .int .u8 (c.toNat : Int)
theorem u8s_len (l : List UInt8) : (u8s l).length = l.length := by simp [u8s]
theorem u8s_at {l : List UInt8} {j : Nat} (hj : j < l.length) : (u8s l)[j]? = some (.int .u8 ((l[j]).toNat : Int)) := by simp [u8s, hj]
theorem u8s_app (l : List UInt8) (c : UInt8) : u8s (l ++ [c]) = u8s l ++ [.int .u8 (c.toNat : Int)] := by simp [u8s]

theorem Tryz.info5 : (Tryz.prog.info? 5).map (fun i => (i.zero, i.size, i.bytes)) = some (some (.int .u8 0), 1, 1) := by kernel_rfl

theorem set_at {w3 : World} {b n : Nat} {v v' : Value} {xs : List Value} {T e : TypeId} (hh : w3.heap[b]? = some (.cells #[v] T (0, 0))) (ho : w3.ownsRow (b + 1) e 1 v' n xs) :
    (w3.setCell ⟨b, 0, none⟩ v').heap[b]? = some (.cells #[v'] T (0, 0)) ∧ (w3.setCell ⟨b, 0, none⟩ v').ownsRow (b + 1) e 1 v' n xs := by
  have hg : w3.grownBy (w3.setCell ⟨b, 0, none⟩ v') (some b) := ⟨rfl, rfl, rfl, by simp, fun k _ hk => heap_setCell_other w3 ⟨b, 0, none⟩ k _ (fun e => hk (by simp [e]))⟩
  refine ⟨?_, ho.kept hg (.inr fun e => ?_)⟩
  · rw [heap_setCell_same w3 b 0 _ _ _ hh]; simp
  · have := (ho.lt b e).1; omega
theorem set_below {w w3 : World} {b : Nat} {v' : Value} (h : Below b w w3) : Below b w (w3.setCell ⟨b, 0, none⟩ v') :=
  ⟨h.os, h.tape, h.output, by simpa using h.size, fun k hk => (heap_setCell_other w3 ⟨b, 0, none⟩ k _ (by simp; omega)).trans (h.block k hk)⟩


inductive MS where | p | f | s
theorem u8_eq37 {c : UInt8} (h : c = 37) : ((c.toNat : Int) == 37) = true := by rw [h]; rfl
theorem u8_ne37 {c : UInt8} (h : c ≠ 37) : ((c.toNat : Int) == 37) = false := by
  rw [beq_eq_false_iff_ne]; intro h2
  exact h (UInt8.toNat_inj.mp (by have e : (37 : UInt8).toNat = 37 := rfl; omega))

def nextP (c : UInt8) : MS := if c = 37 then .f else .p

/-- What the machine holds: in its first state the bytes of what is read; ahead of an open code these, then the code's bytes. -/
def MInv (R : List UInt8) (st : MS) (ys l : List UInt8) : Prop :=
  match st with
  | .p => R = ys ++ meansL l
  | .f => ∃ xs, ys = xs ++ [37] ∧ R = xs ++ meansL (37 :: l)
  | .s => ∃ xs a x, hexV a = some x ∧ ys = xs ++ [37, a] ∧ R = xs ++ meansL (37 :: a :: l)

theorem minv_plain {R ys l : List UInt8} {c : UInt8} (h : R = ys ++ meansL (c :: l)) : MInv R (nextP c) (ys ++ [c]) l := by
  unfold nextP
  by_cases hc : c = 37
  · subst hc; rw [if_pos rfl]; exact ⟨ys, rfl, h⟩
  · rw [if_neg hc]
    show R = ys ++ [c] ++ meansL l
    rw [h, meansL_none (codeL_ne hc)]; simp
theorem minv_end {R ys : List UInt8} {st : MS} (h : MInv R st ys []) : R = ys := by
  cases st with
  | p => have h' : R = ys ++ meansL [] := h; rw [meansL_nil, List.append_nil] at h'; exact h'
  | f =>
    obtain ⟨xs, rfl, h⟩ := h
    rw [meansL_none rfl, meansL_nil] at h; exact h
  | s =>
    obtain ⟨xs, a, x, hx, rfl, h⟩ := h
    rw [meansL_none rfl, meansL_none (codeL_ne (hex_ne_37 hx)), meansL_nil] at h; exact h

theorem nib (x y : Nat) (hx : x < 16) (hy : y < 16) : bits .or .u8 ((x : Int) * 16) (y : Int) = ((x * 16 + y : Nat) : Int) := by
  have h : ∀ x y : Fin 16, bits .or .u8 ((x.val : Int) * 16) (y.val : Int) = ((x.val * 16 + y.val : Nat) : Int) := by decide +kernel
  exact h ⟨x, hx⟩ ⟨y, hy⟩

theorem u8s_two (xs : List UInt8) (a : UInt8) (k : Nat) (hk : k = xs.length) : (u8s (xs ++ [37, a]))[k + 1]? = some (.int .u8 (a.toNat : Int)) ∧ (u8s (xs ++ [37, a])).take k = u8s xs := by
  subst hk
  constructor
  · simp [u8s]
  · simp [u8s]

end Go.Proofs.YtncegikmpapldaaGreatDoor

-- from XTakes
/- Places: what a place means, by the machine; the exact law. -/
namespace Go.Proofs.YtncegikmpapldaaGreatDoor
open Go.RowKit

theorem step_not_nil (f : Fn) (a c : Array Value) (w : World) : (binOp .eql 145 (.func f a c) .nilFunc).run Tryz.prog w = .ok (.bool false) w := by kernel_rfl
theorem step_nil (w : World) : (binOp .eql 145 .nilFunc .nilFunc).run Tryz.prog w = .ok (.bool true) w := by kernel_rfl

namespace Lw
end Lw
end Go.Proofs.YtncegikmpapldaaGreatDoor

-- from XCanL
/- Places: their plainest form, on lists of bytes; no walk. -/
namespace Go.Proofs.YtncegikmpapldaaGreatDoor
open Go.RowKit

def freeB (c : UInt8) : Bool := isSmall c || isGreat c || c == 95 || c == 126 || c == 46
def doubtB (n : Nat) : Bool := n == 46 || n == 47 || n == 63 || n == 37 || n == 38 || n == 61
def hexU (k : Nat) : UInt8 := if k < 10 then UInt8.ofNat (48 + k) else UInt8.ofNat (55 + k)
def upperL (n : Nat) : List UInt8 := [37, hexU (n / 16), hexU (n % 16)]
def putC (n : Nat) : List UInt8 := if freeB (UInt8.ofNat n) = true then [UInt8.ofNat n] else upperL n
def okLit (asks : Bool) (c : UInt8) : Bool := freeB c || (c == 47 && !asks) || (asks && (c == 61 || c == 38))

/-- A path, or what is asked, in its plainest form. -/
def plainL (asks : Bool) : List UInt8 → Option (List UInt8)
  | [] => some []
  | c :: l => match codeL (c :: l) with
    | some n => if doubtB n = true then none else (plainL asks (l.drop 2)).map (putC n ++ ·)
    | none => if okLit asks c = true then (plainL asks l).map (c :: ·) else none
termination_by l => l.length
decreasing_by
  · simp; omega
  · simp

theorem plainL_nil (asks : Bool) : plainL asks [] = some [] := by rw [plainL]
theorem plainL_code {asks : Bool} {c : UInt8} {l : List UInt8} {n : Nat} (h : codeL (c :: l) = some n) : plainL asks (c :: l) = if doubtB n = true then none else (plainL asks (l.drop 2)).map (putC n ++ ·) := by rw [plainL]; rw [h]
theorem plainL_lit {asks : Bool} {c : UInt8} {l : List UInt8} (h : codeL (c :: l) = none) : plainL asks (c :: l) = if okLit asks c = true then (plainL asks l).map (c :: ·) else none := by rw [plainL]; rw [h]
theorem okLit_37 (asks : Bool) : okLit asks 37 = false := by cases asks <;> decide
theorem plainL_bad {asks : Bool} {l : List UInt8} (h : codeL (37 :: l) = none) : plainL asks (37 :: l) = none := by rw [plainL_lit h, okLit_37]; rfl
theorem codeL_head {c : UInt8} {l : List UInt8} {n : Nat} (h : codeL (c :: l) = some n) : c = 37 := by
  rcases Decidable.em (c = 37) with e | e
  · exact e
  · rw [codeL_ne e] at h; cases h

def isDots (l : List UInt8) : Bool := l == [46] || l == [46, 46]
def segsOk : List (List UInt8) → Bool
  | [] => true
  | [a] => !isDots a
  | a :: b :: rest => !isDots a && !a.isEmpty && segsOk (b :: rest)
def dotL (l : List UInt8) : Bool := isDots (cutL l 63).1

theorem cutL_cons {b c : UInt8} {l : List UInt8} (h : b ≠ c) : cutL (b :: l) c = (b :: (cutL l c).1, (cutL l c).2.1, (cutL l c).2.2) := by
  conv => lhs; unfold cutL
  rw [if_neg h]
theorem cutL_hit (c : UInt8) (l : List UInt8) : cutL (c :: l) c = ([], l, true) := by unfold cutL; rw [if_pos rfl]
theorem partsL_app (cur l : List UInt8) (h : 47 ∉ cur) : partsL (cur ++ 47 :: l) 47 = cur :: partsL l 47 := by
  rw [partsL_cut, cutL_yes _ _ _ h]; rfl
theorem partsL_one (cur : List UInt8) (h : 47 ∉ cur) : partsL cur 47 = [cur] := by
  rw [partsL_cut, cutL_no _ _ h]; rfl
theorem segsOk_cons (a : List UInt8) (l : List UInt8) : segsOk (a :: partsL l 47) = (!isDots a && !a.isEmpty && segsOk (partsL l 47)) := by
  cases h : partsL l 47 with
  | nil => exact absurd h (partsL_ne _ _)
  | cons b r => rfl

/-- What becomes of the rest of a place behind the form ys, whose last part begins at seg, in the path. -/
def resP (ys : List UInt8) (seg : Nat) (l : List UInt8) : Option (List UInt8) :=
  match plainL false (cutL l 63).1 with
  | none => none
  | some o => if segsOk (partsL (ys.drop seg ++ o) 47) = true then (if (cutL l 63).2.2 = true then (plainL true (cutL l 63).2.1).map (fun m => ys ++ o ++ 63 :: m) else some (ys ++ o)) else none
/-- The same, behind the sign of what is asked. -/
def resQ (ys : List UInt8) (seg : Nat) (l : List UInt8) : Option (List UInt8) := if dotL (ys.drop seg) = true then none else (plainL true l).map (ys ++ ·)
def rootR : List UInt8 → Option (List UInt8)
  | [] => none
  | c :: l => if c = 47 then resP [47] 1 l else none
def canonL (l : List UInt8) : Option (List UInt8) := if l.length = 0 ∨ 40 < l.length then none else rootR l

structure POk (ys : List UInt8) (seg : Nat) : Prop where
  le : seg ≤ ys.length
  ne : 0 < ys.length
  sl : 47 ∉ ys.drop seg
  qm : 63 ∉ ys.drop seg
structure QOk (ys : List UInt8) (seg : Nat) : Prop where
  le : seg ≤ ys.length
  ne : 0 < ys.length
  qm : ∃ cur m, ys.drop seg = cur ++ 63 :: m ∧ 63 ∉ cur

theorem POk.app {ys : List UInt8} {seg : Nat} (h : POk ys seg) (xs : List UInt8) (h1 : 47 ∉ xs) (h2 : 63 ∉ xs) : POk (ys ++ xs) seg := by
  have e : (ys ++ xs).drop seg = ys.drop seg ++ xs := List.drop_append_of_le_length h.le
  exact ⟨by have := h.le; simp; omega, by have := h.ne; simp; omega, by rw [e]; simp [h.sl, h1], by rw [e]; simp [h.qm, h2]⟩
theorem POk.slash {ys : List UInt8} (__h : 0 < ys.length) : POk (ys ++ [47]) (ys.length + 1) :=
  ⟨by simp, by simp, by simp, by simp⟩
theorem POk.ask {ys : List UInt8} {seg : Nat} (h : POk ys seg) : QOk (ys ++ [63]) seg :=
  ⟨by have := h.le; simp; omega, by simp, ys.drop seg, [], List.drop_append_of_le_length h.le, h.qm⟩
theorem QOk.app {ys : List UInt8} {seg : Nat} (h : QOk ys seg) (xs : List UInt8) : QOk (ys ++ xs) seg := by
  have e : (ys ++ xs).drop seg = ys.drop seg ++ xs := List.drop_append_of_le_length h.le
  obtain ⟨cur, m, h1, h2⟩ := h.qm
  exact ⟨by have := h.le; simp; omega, by have := h.ne; simp; omega, cur, m ++ xs, by rw [e, h1]; simp, h2⟩
theorem QOk.dot {ys : List UInt8} {seg : Nat} (h : QOk ys seg) (xs : List UInt8) : dotL ((ys ++ xs).drop seg) = dotL (ys.drop seg) := by
  obtain ⟨cur, m, h1, h2⟩ := h.qm
  rw [List.drop_append_of_le_length h.le, h1]
  unfold dotL
  rw [cutL_yes _ _ _ h2, List.append_assoc, List.cons_append, cutL_yes _ _ _ h2]
theorem POk.dot {ys : List UInt8} {seg : Nat} (h : POk ys seg) : dotL (ys.drop seg) = isDots (ys.drop seg) := by
  unfold dotL; rw [cutL_no _ _ h.qm]

theorem resP_slash {ys : List UInt8} {seg : Nat} {l : List UInt8} (h : POk ys seg) : resP ys seg (47 :: l) = if (!dotL (ys.drop seg) && !(ys.drop seg).isEmpty) = true then resP (ys ++ [47]) (ys.length + 1) l else none := by
  rw [h.dot]
  unfold resP
  rw [cutL_cons (by decide), plainL_lit (codeL_ne (by decide))]
  have e0 : (ys ++ [47]).drop (ys.length + 1) = [] := by simp
  simp only [show okLit false 47 = true from by decide, if_true, e0, List.nil_append]
  cases hp : plainL false (cutL l 63).1 with
  | none => simp
  | some o =>
    simp only [Option.map_some]
    rw [partsL_app _ _ h.sl, segsOk_cons]
    cases h1 : (!isDots (ys.drop seg) && !(ys.drop seg).isEmpty)
    · simp
    · simp
theorem resP_ask {ys : List UInt8} {seg : Nat} {l : List UInt8} (h : POk ys seg) : resP ys seg (63 :: l) = resQ (ys ++ [63]) seg l := by
  unfold resP resQ
  obtain ⟨cur, hc⟩ : ∃ cur, cur = ys.drop seg := ⟨_, rfl⟩
  rw [cutL_hit, plainL_nil, List.drop_append_of_le_length h.le, ← hc]
  have h2 : 63 ∉ cur := hc ▸ h.qm
  have h1 : 47 ∉ cur := hc ▸ h.sl
  have e : dotL (cur ++ [63]) = isDots cur := by unfold dotL; rw [cutL_yes _ _ _ h2]
  simp only [List.append_nil]
  rw [partsL_one _ h1, e]
  have es : segsOk [cur] = !isDots cur := rfl
  rw [es]
  cases isDots cur
  · simp
  · simp
theorem resP_lit {ys : List UInt8} {seg : Nat} {l : List UInt8} {c : UInt8} (h : POk ys seg) (h1 : c ≠ 37) (h2 : c ≠ 63) (h3 : c ≠ 47) : resP ys seg (c :: l) = if freeB c = true then resP (ys ++ [c]) seg l else none := by
  unfold resP
  rw [cutL_cons h2, plainL_lit (codeL_ne h1), List.drop_append_of_le_length h.le]
  have e : okLit false c = freeB c := by unfold okLit; simp [h3]
  rw [e]
  cases freeB c
  · simp
  · simp only [if_true]
    cases hp : plainL false (cutL l 63).1 with
    | none => simp
    | some o => simp
theorem resP_bad1 {ys : List UInt8} {seg : Nat} {l : List UInt8} {c : UInt8} (h1 : hexV c = none) : resP ys seg (37 :: c :: l) = none := by
  unfold resP
  rw [cutL_cons (by decide)]
  have : plainL false (37 :: (cutL (c :: l) 63).1) = none := by
    apply plainL_bad
    by_cases h : c = 63
    · subst h; rw [cutL_hit]; rfl
    · rw [cutL_cons h]; exact codeL_37_none h1
  simp only [this]
theorem hex_ne {a c : UInt8} {x : Nat} (h : hexV a = some x) (hc : hexV c = none) : a ≠ c := by rintro rfl; rw [h] at hc; cases hc
theorem resP_bad2 {ys : List UInt8} {seg : Nat} {l : List UInt8} {a c : UInt8} {x : Nat} (ha : hexV a = some x) (h1 : hexV c = none) : resP ys seg (37 :: a :: c :: l) = none := by
  unfold resP
  rw [cutL_cons (by decide), cutL_cons (hex_ne ha (by decide))]
  have : plainL false (37 :: a :: (cutL (c :: l) 63).1) = none := by
    apply plainL_bad
    by_cases h : c = 63
    · subst h; rw [cutL_hit]; rfl
    · rw [cutL_cons h]; exact codeL_37_none2 h1
  simp only [this]
theorem resP_code {ys : List UInt8} {seg : Nat} {l : List UInt8} {a c : UInt8} {x y : Nat} (h : POk ys seg) (ha : hexV a = some x) (hc : hexV c = some y) :
    resP ys seg (37 :: a :: c :: l) = if doubtB (x * 16 + y) = true then none else resP (ys ++ putC (x * 16 + y)) seg l := by
  unfold resP
  rw [cutL_cons (by decide), cutL_cons (hex_ne ha (by decide)), cutL_cons (hex_ne hc (by decide)), plainL_code (codeL_37_some ha hc), List.drop_append_of_le_length h.le]
  cases doubtB (x * 16 + y)
  · simp only [Bool.false_eq_true, if_false]
    have e : List.drop 2 (a :: c :: (cutL l 63).1) = (cutL l 63).1 := rfl
    rw [e]
    cases hp : plainL false (cutL l 63).1 with
    | none => simp
    | some o => simp
  · simp
theorem resQ_lit {ys : List UInt8} {seg : Nat} {l : List UInt8} {c : UInt8} (h : QOk ys seg) (h1 : c ≠ 37) : resQ ys seg (c :: l) = if okLit true c = true then resQ (ys ++ [c]) seg l else none := by
  unfold resQ
  rw [plainL_lit (codeL_ne h1), h.dot]
  cases okLit true c
  · simp
  · cases dotL (ys.drop seg)
    · simp only [if_true, Bool.false_eq_true, if_false, Option.map_map]
      congr 1; funext m; simp
    · simp
theorem resQ_bad1 {ys : List UInt8} {seg : Nat} {l : List UInt8} {c : UInt8} (h1 : hexV c = none) : resQ ys seg (37 :: c :: l) = none := by
  unfold resQ
  rw [plainL_bad (codeL_37_none h1)]; simp
theorem resQ_bad2 {ys : List UInt8} {seg : Nat} {l : List UInt8} {a c : UInt8} (h1 : hexV c = none) : resQ ys seg (37 :: a :: c :: l) = none := by
  unfold resQ
  rw [plainL_bad (codeL_37_none2 h1)]; simp
theorem resQ_code {ys : List UInt8} {seg : Nat} {l : List UInt8} {a c : UInt8} {x y : Nat} (h : QOk ys seg) (ha : hexV a = some x) (hc : hexV c = some y) :
    resQ ys seg (37 :: a :: c :: l) = if doubtB (x * 16 + y) = true then none else resQ (ys ++ putC (x * 16 + y)) seg l := by
  unfold resQ
  rw [plainL_code (codeL_37_some ha hc), h.dot]
  cases doubtB (x * 16 + y)
  · cases dotL (ys.drop seg)
    · simp only [Bool.false_eq_true, if_false, Option.map_map]
      have e : List.drop 2 (a :: c :: l) = l := rfl
      rw [e]
      congr 1; funext m; simp
    · simp
  · simp
theorem resP_end {ys : List UInt8} {seg : Nat} (h : POk ys seg) : resP ys seg [] = if dotL (ys.drop seg) = true then none else some ys := by
  rw [h.dot]
  unfold resP
  rw [show cutL [] 63 = ([], [], false) from rfl]
  simp only [plainL_nil, List.append_nil]
  rw [partsL_one _ h.sl]
  have es : segsOk [ys.drop seg] = !isDots (ys.drop seg) := rfl
  rw [es]
  cases isDots (ys.drop seg) <;> simp
theorem resQ_end {ys : List UInt8} {seg : Nat} : resQ ys seg [] = if dotL (ys.drop seg) = true then none else some ys := by
  unfold resQ; rw [plainL_nil]; simp
end Go.Proofs.YtncegikmpapldaaGreatDoor

-- from XSCan
/- Places: walks of the helpers that write a place in its plainest form. -/
namespace Go.Proofs.YtncegikmpapldaaGreatDoor
open Go.RowKit

theorem freeB_small {c : UInt8} (h : isSmall c = true) : freeB c = true := by unfold freeB; rw [h]; rfl
theorem freeB_great {c : UInt8} (h : isGreat c = true) : freeB c = true := by unfold freeB; rw [h]; simp
theorem freeB_no {c : UInt8} (h : isSmall c = false) (h2 : isGreat c = false) : freeB c = (decide (c.toNat = 95) || decide (c.toNat = 126) || decide (c.toNat = 46)) := by
  unfold freeB; rw [h, h2]
  have e (k : UInt8) : (c == k) = decide (c.toNat = k.toNat) := by
    rw [Bool.eq_iff_iff, beq_iff_eq, decide_eq_true_iff]
    exact ⟨fun h => by rw [h], fun h => UInt8.toNat_inj.mp h⟩
  rw [e 95, e 126, e 46]; rfl

set_option maxHeartbeats 800000 in
theorem l2_free (c : UInt8) (w : World) :
    Calls Tryz.prog 163 #[.int .u8 c.toNat] w fun e w' => e = .returned (.bool (freeB c)) ∧ w = w' := by
  have c1 := fun W => l1_small c W
  have hc := c.toNat_lt
  cases hs : isSmall c with
  | true =>
    rw [freeB_small hs]
    rw [hs] at c1
    clear hs
    go_enter Tryz.func163, Tryz.ntmps163
    go_wp2_with fail
    refine (c1 _).mono ?_
    rintro e w' ⟨rfl, rfl⟩
    go_wp2
    go_ret
    exact ⟨rfl, rfl⟩
  | false =>
    rw [hs] at c1
    cases hg : isGreat c with
    | true =>
      rw [freeB_great hg]
      unfold isGreat at hg
      have h1 : 65 ≤ c.toNat ∧ c.toNat ≤ 90 := by simpa using hg
      obtain ⟨h1, h2⟩ := h1
      clear hs hg
      generalize c.toNat = n at *
      go_enter Tryz.func163, Tryz.ntmps163
      go_wp2_with fail
      refine (c1 _).mono ?_
      rintro e w' ⟨rfl, rfl⟩
      go_wp2
      go_ret
      exact ⟨rfl, rfl⟩
    | false =>
      rw [freeB_no hs hg]
      unfold isGreat at hg
      have h1 : c.toNat < 65 ∨ 90 < c.toNat := by
        rcases Nat.lt_or_ge c.toNat 65 with h | h
        · exact .inl h
        · rcases Nat.lt_or_ge 90 c.toNat with h2 | h2
          · exact .inr h2
          · simp [h, h2] at hg
      clear hs hg
      generalize c.toNat = n at *
      have hr : n < 46 ∨ n = 46 ∨ (47 ≤ n ∧ n ≤ 64) ∨ (91 ≤ n ∧ n ≤ 94) ∨ n = 95 ∨ (96 ≤ n ∧ n ≤ 125) ∨ n = 126 ∨ 127 ≤ n := by omega
      clear h1
      rcases hr with hr | rfl | ⟨h1, h2⟩ | ⟨h1, h2⟩ | rfl | ⟨h1, h2⟩ | rfl | hr
      all_goals go_enter Tryz.func163, Tryz.ntmps163
      all_goals go_wp2_with fail
      all_goals refine (c1 _).mono ?_
      all_goals rintro e w' ⟨rfl, rfl⟩
      all_goals clear c1
      all_goals go_wp2
      all_goals go_ret
      all_goals (refine ⟨congrArg (fun b => Ending.returned (Value.bool b)) ?_, rfl⟩)
      all_goals (show (_ : Bool) = _)
      all_goals first | rfl | (rw [Bool.eq_iff_iff]; simp; done) | (rw [Bool.eq_iff_iff]; simp; omega)

set_option maxHeartbeats 800000 in
theorem impl_free (c : UInt8) (w : World) (h : Cls w) :
    Calls Tryz.prog 208 #[.int .u8 c.toNat] w fun e w' => e = .returned (.bool (freeB c)) ∧ w = w' := by
  have c1 := class_of c w h
  rw [clsOf_eq] at c1
  have hc := c.toNat_lt
  clear h
  cases hs : isSmall c with
  | true =>
    rw [freeB_small hs]
    rw [hs] at c1
    simp only [if_true] at c1
    clear hs
    go_enter Tryz.func208, Tryz.ntmps208
    go_wp2_with fail
    refine c1.mono ?_
    rintro e w' ⟨rfl, rfl⟩
    go_wp2
    go_ret
    exact ⟨rfl, rfl⟩
  | false =>
    rw [hs] at c1
    simp only [Bool.false_eq_true, if_false] at c1
    cases hg : isGreat c with
    | true =>
      rw [freeB_great hg]
      rw [hg] at c1
      simp only [if_true] at c1
      clear hs hg
      go_enter Tryz.func208, Tryz.ntmps208
      go_wp2_with fail
      refine c1.mono ?_
      rintro e w' ⟨rfl, rfl⟩
      go_wp2
      go_ret
      exact ⟨rfl, rfl⟩
    | false =>
      rw [freeB_no hs hg]
      rw [hg] at c1
      simp only [Bool.false_eq_true, if_false] at c1
      clear hs hg
      generalize c.toNat = n at *
      have hr : n < 46 ∨ n = 46 ∨ (47 ≤ n ∧ n ≤ 94) ∨ n = 95 ∨ (96 ≤ n ∧ n ≤ 125) ∨ n = 126 ∨ 127 ≤ n := by omega
      rcases hr with hr | rfl | ⟨h1, h2⟩ | rfl | ⟨h1, h2⟩ | rfl | hr
      all_goals go_enter Tryz.func208, Tryz.ntmps208
      all_goals go_wp2_with fail
      all_goals refine c1.mono ?_
      all_goals rintro e w' ⟨rfl, rfl⟩
      all_goals clear c1
      all_goals go_wp2
      all_goals go_ret
      all_goals (refine ⟨congrArg (fun b => Ending.returned (Value.bool b)) ?_, rfl⟩)
      all_goals (show (_ : Bool) = _)
      all_goals first | rfl | (rw [Bool.eq_iff_iff]; simp; done) | (rw [Bool.eq_iff_iff]; simp; omega)

theorem doubt_no {n : Nat} (h1 : n ≠ 46) (h2 : n ≠ 47) (h3 : n ≠ 63) (h4 : n ≠ 37) (h5 : n ≠ 38) (h6 : n ≠ 61) : doubtB n = false := by
  unfold doubtB; simp [h1, h2, h3, h4, h5, h6]

set_option maxHeartbeats 800000 in
theorem l2_doubt (n : Nat) (hn : n < 256) (w : World) :
    Calls Tryz.prog 162 #[.int .i64 n] w fun e w' => e = .returned (.bool (doubtB n)) ∧ w = w' := by
  by_cases h1 : n = 46
  · subst h1
    go_enter Tryz.func162, Tryz.ntmps162
    go_wp2
    go_ret
    exact ⟨rfl, rfl⟩
  · by_cases h2 : n = 47
    · subst h2
      go_enter Tryz.func162, Tryz.ntmps162
      go_wp2
      go_ret
      exact ⟨rfl, rfl⟩
    · by_cases h3 : n = 63
      · subst h3
        go_enter Tryz.func162, Tryz.ntmps162
        go_wp2
        go_ret
        exact ⟨rfl, rfl⟩
      · by_cases h4 : n = 37
        · subst h4
          go_enter Tryz.func162, Tryz.ntmps162
          go_wp2
          go_ret
          exact ⟨rfl, rfl⟩
        · by_cases h5 : n = 38
          · subst h5
            go_enter Tryz.func162, Tryz.ntmps162
            go_wp2
            go_ret
            exact ⟨rfl, rfl⟩
          · by_cases h6 : n = 61
            · subst h6
              go_enter Tryz.func162, Tryz.ntmps162
              go_wp2
              go_ret
              exact ⟨rfl, rfl⟩
            · rw [doubt_no h1 h2 h3 h4 h5 h6]
              have q (k : Nat) (h : n ≠ k) : ((n : Int) == (k : Int)) = false := beq_eq_false_iff_ne.2 (by omega)
              have q1 := q _ h1; have q2 := q _ h2; have q3 := q _ h3; have q4 := q _ h4; have q5 := q _ h5; have q6 := q _ h6
              simp only [Int.cast_ofNat_Int] at q1 q2 q3 q4 q5 q6
              clear q h1 h2 h3 h4 h5 h6
              go_enter Tryz.func162, Tryz.ntmps162
              go_wp2
              go_ret
              exact ⟨rfl, rfl⟩

end Go.Proofs.YtncegikmpapldaaGreatDoor

-- from XUpper
/- Places: a code in great digits. -/
namespace Go.Proofs.YtncegikmpapldaaGreatDoor
open Go.RowKit

/-- The digits of a code. -/
def digs : ByteArray := ⟨#[48, 49, 50, 51, 52, 53, 54, 55, 56, 57, 65, 66, 67, 68, 69, 70]⟩
theorem digs_at (k : Nat) (h : k < 16) (h2 : k < digs.size) : digs[k] = hexU k := by
  have e : ∀ k : Fin 16, digs.data[k.val]? = some (hexU k.val) := by decide
  have h3 := e ⟨k, h⟩
  have h4 : digs.data[k]? = some (digs.data[k]'h2) := Array.getElem?_eq_getElem h2
  rw [h4] at h3
  exact Option.some.inj h3

/-- 'string([]byte{x, y})': the two new bytes as a text. -/
theorem run_conv2 {P : Program} (src dst e e' : TypeId) (hs : P.underlying src = some (.slice e)) (he : P.underlying e = some (.int .u8)) (hd : P.underlying dst = some .string)
    (w : World) (x y : UInt8) :
    (convert src dst (.slice (some ⟨w.heap.size, 0, none⟩) 2 2)).run P (w.alloc (.cells #[.int .u8 (x.toNat : Int), .int .u8 (y.toNat : Int)] e')).drew = .ok (.string ⟨#[x, y]⟩) (w.alloc (.cells #[.int .u8 (x.toNat : Int), .int .u8 (y.toNat : Int)] e')).drew := by
  have := run_convert_bytes_back (P := P) (w.alloc (.cells #[.int .u8 (x.toNat : Int), .int .u8 (y.toNat : Int)] e')).drew src dst e ⟨w.heap.size, 0, none⟩ 2 [x, y] hs he hd (fun j hj => by
    have : j = 0 ∨ j = 1 := by simp at hj; omega
    rcases this with rfl | rfl
    · rw [show ((⟨w.heap.size, 0, none⟩ : Addr).add 0) = ⟨w.heap.size, 0, none⟩ from rfl]
      exact (World.cell?_alloc_at _ _ _ _ rfl).trans rfl
    · rw [show ((⟨w.heap.size, 0, none⟩ : Addr).add 1) = ⟨w.heap.size, 1, none⟩ from rfl]
      exact (World.cell?_alloc_at _ _ _ _ rfl).trans rfl)
  simpa using this

set_option maxRecDepth 100000 in
set_option maxHeartbeats 800000 in
theorem l2_upper (n : Nat) (hn : n < 256) (w : World) :
    Calls Tryz.prog 164 #[.int .i64 n] w fun e w' => e = .returned (strV (upperL n)) ∧ Below w.heap.size w w' := by
  have t1 : (n : Int).tmod 16 = (n : Int) % 16 := Int.tmod_eq_emod_of_nonneg (by omega)
  have z1 : (n : Int) / 16 < 16 := by omega
  have z2 : (n : Int) % 16 < 16 := by omega
  have z3 : IntKind.i64.wrap ((n : Int) / 16) = (n : Int) / 16 := by rw [IntKind.wrap_i64]; omega
  have z4 : IntKind.i64.wrap ((n : Int) % 16) = (n : Int) % 16 := by rw [IntKind.wrap_i64]; omega
  have hcv := fun W x y => run_conv2 (P := Tryz.prog) 22 9 5 5 Tryz.underlying22 Tryz.underlying5 Tryz.underlying9 W x y
  go_enter Tryz.func164, Tryz.ntmps164
  go_wp2_with fail
  go_region_with (fail)
  all_goals go_wp2
  all_goals go_ret
  all_goals (refine ⟨?_, below_drewN (n := 1) ((Below.refl w.heap.size w).alloc (Nat.le_refl _) _)⟩)
  all_goals (
    have q1 := digs_at (n / 16) (by omega) (by simp [digs, ByteArray.size]; omega)
    have q2 := digs_at (n % 16) (by omega) (by simp [digs, ByteArray.size]; omega)
    unfold strV upperL
    rw [← q1, ← q2]
    rfl)
end Go.Proofs.YtncegikmpapldaaGreatDoor

-- from XSPlain
/- Places: walks of the model's plainest form: a step, a path or what is asked, the parts of a path. -/
namespace Go.Proofs.YtncegikmpapldaaGreatDoor
open Go.RowKit

theorem u8_eqk (c k : UInt8) : ((c.toNat : Int) == (k.toNat : Int)) = (c == k) := by
  rw [Bool.eq_iff_iff, beq_iff_eq, beq_iff_eq]
  exact ⟨fun h => UInt8.toNat_inj.mp (by omega), fun h => by rw [h]⟩
theorem ofNat_toNat {n : Nat} (h : n < 256) : (UInt8.ofNat n).toNat = n := by simp; omega
theorem codeI_some {l : List UInt8} {n : Nat} (h : codeL l = some n) : codeI l = n := by unfold codeI; rw [h]
theorem codeI_none {l : List UInt8} (h : codeL l = none) : codeI l = -1 := by unfold codeI; rw [h]

set_option maxHeartbeats 800000 in
theorem step_doubt (s : ByteArray) (k n : Nat) (asks : Bool) (hk : k < s.size) (w : World) (hs : s.size ≤ 1048576) (hc : codeL (s.data.toList.drop k) = some n) (hd : doubtB n = true) :
    Calls Tryz.prog 129 #[.string s, .int .i64 k, .bool asks] w fun e w' => e = .returned (.tuple #[.string ⟨#[]⟩, .int .i64 0]) ∧ w = w' := by
  have hn := codeL_lt hc
  have c1 := fun W => l2_code s k hk W (by unfold maxLen; omega)
  rw [codeI_some hc] at c1
  have c2 := fun W => l2_doubt n hn W
  rw [hd] at c2
  clear hc hd
  go_enter Tryz.func129, Tryz.ntmps129
  go_wp2_with fail
  refine (c1 _).mono ?_
  rintro e w' ⟨rfl, rfl⟩
  go_wp2_with fail
  refine (c2 _).mono ?_
  rintro e w' ⟨rfl, rfl⟩
  go_wp2
  go_ret2
  exact ⟨rfl, rfl⟩

set_option maxHeartbeats 800000 in
theorem step_code (s : ByteArray) (k n : Nat) (asks : Bool) (hk : k < s.size) (w : World) (hs : s.size ≤ 1048576) (hc : codeL (s.data.toList.drop k) = some n) (hd : doubtB n = false) :
    Calls Tryz.prog 129 #[.string s, .int .i64 k, .bool asks] w fun e w' => e = .returned (.tuple #[strV (putC n), .int .i64 3]) ∧ Below w.heap.size w w' := by
  have hn := codeL_lt hc
  have c1 := fun W => l2_code s k hk W (by unfold maxLen; omega)
  rw [codeI_some hc] at c1
  have c2 := fun W => l2_doubt n hn W
  rw [hd] at c2
  have c3 := fun W => l2_free (UInt8.ofNat n) W
  rw [ofNat_toNat hn] at c3
  have hw := wrap_u8 n hn
  clear hc hd
  unfold putC
  cases hf : freeB (UInt8.ofNat n) with
  | true =>
    rw [if_pos rfl]
    rw [hf] at c3
    clear hf
    have hcv := fun W => run_conv1 (P := Tryz.prog) 22 9 5 5 Tryz.underlying22 Tryz.underlying5 Tryz.underlying9 W (n : Int) (by omega) (by omega)
    go_enter Tryz.func129, Tryz.ntmps129
    go_wp2_with fail
    refine (c1 _).mono ?_
    rintro e w' ⟨rfl, rfl⟩
    go_wp2_with fail
    refine (c2 _).mono ?_
    rintro e w' ⟨rfl, rfl⟩
    go_wp2_with fail
    refine (c3 _).mono ?_
    rintro e w' ⟨rfl, rfl⟩
    clear c1 c2 c3
    go_wp2
    go_ret2
    exact ⟨rfl, (Below.refl _ _).alloc (Nat.le_refl _) _⟩
  | false =>
    rw [if_neg (by decide)]
    rw [hf] at c3
    have c4 := fun W => l2_upper n hn W
    generalize upperL n = u at c4
    clear hf
    go_enter Tryz.func129, Tryz.ntmps129
    go_wp2_with fail
    refine (c1 _).mono ?_
    rintro e w' ⟨rfl, rfl⟩
    go_wp2_with fail
    refine (c2 _).mono ?_
    rintro e w' ⟨rfl, rfl⟩
    go_wp2_with fail
    refine (c3 _).mono ?_
    rintro e w' ⟨rfl, rfl⟩
    go_wp2_with fail
    refine (c4 _).mono ?_
    rintro e w' ⟨rfl, hb⟩
    clear c1 c2 c3 c4
    go_wp2
    go_ret2
    exact ⟨rfl, hb⟩

theorem ext_one (s : ByteArray) (k : Nat) (h : k < s.size) : s.extract k (k + 1) = ⟨#[s[k]]⟩ := by
  apply ByteArray.ext
  apply Array.toList_inj.mp
  rw [ByteArray.data_extract, Array.toList_extract, List.extract_eq_take_drop, drop_at s k h]
  simp

set_option maxHeartbeats 3200000 in
theorem step_lit (s : ByteArray) (k : Nat) (asks : Bool) (hk : k < s.size) (w : World) (hs : s.size ≤ 1048576) (hc : codeL (s.data.toList.drop k) = none) :
    Calls Tryz.prog 129 #[.string s, .int .i64 k, .bool asks] w fun e w' => e = .returned (.tuple #[strV (if okLit asks s[k] = true then [s[k]] else []), .int .i64 (if okLit asks s[k] = true then 1 else 0)]) ∧ w = w' := by
  have c1 := fun W => l2_code s k hk W (by unfold maxLen; omega)
  rw [codeI_none hc] at c1
  have c2 := fun W => l2_free s[k] W
  have hx := ext_one s k hk
  have e1 := u8_eqk s[k] 47
  have e2 := u8_eqk s[k] 61
  have e3 := u8_eqk s[k] 38
  simp only [UInt8.reduceToNat, Int.cast_ofNat_Int] at e1 e2 e3
  have hsz : (s.extract k (k + 1)).size ≤ 1 := by simp; omega
  unfold okLit
  clear hc
  cases hf : freeB s[k] with
  | true =>
    rw [hf] at c2
    simp only [Bool.true_or, if_true]
    clear e1 e2 e3 hf
    cases asks
    all_goals go_enter Tryz.func129, Tryz.ntmps129
    all_goals go_wp2_with fail
    all_goals refine (c1 _).mono ?_
    all_goals rintro e w' ⟨rfl, rfl⟩
    all_goals go_wp2_with fail
    all_goals refine (c2 _).mono ?_
    all_goals rintro e w' ⟨rfl, rfl⟩
    all_goals clear c1 c2
    all_goals go_wp2
    all_goals go_ret2
    all_goals exact ⟨rfl, rfl⟩
  | false =>
    rw [hf] at c2
    clear hf
    generalize (s[k] == 47) = b1 at *
    generalize (s[k] == 61) = b2 at *
    generalize (s[k] == 38) = b3 at *
    cases asks
    · simp only [Bool.false_or, Bool.not_false, Bool.and_true, Bool.false_and, Bool.or_false]
      clear e2 e3
      cases b1
      all_goals simp only [if_true, Bool.false_eq_true, if_false]
      all_goals go_enter Tryz.func129, Tryz.ntmps129
      all_goals go_wp2_with fail
      all_goals refine (c1 _).mono ?_
      all_goals rintro e w' ⟨rfl, rfl⟩
      all_goals go_wp2_with fail
      all_goals refine (c2 _).mono ?_
      all_goals rintro e w' ⟨rfl, rfl⟩
      all_goals clear c1 c2
      all_goals go_wp2
      all_goals go_ret2
      all_goals exact ⟨rfl, rfl⟩
    · simp only [Bool.false_or, Bool.not_true, Bool.and_false, Bool.true_and]
      cases b1
      all_goals cases b2
      all_goals cases b3
      all_goals simp only [Bool.or_true, Bool.or_false, if_true, Bool.false_eq_true, if_false]
      all_goals go_enter Tryz.func129, Tryz.ntmps129
      all_goals go_wp2_with fail
      all_goals refine (c1 _).mono ?_
      all_goals rintro e w' ⟨rfl, rfl⟩
      all_goals go_wp2_with fail
      all_goals refine (c2 _).mono ?_
      all_goals rintro e w' ⟨rfl, rfl⟩
      all_goals clear c1 c2
      all_goals go_wp2
      all_goals go_ret2
      all_goals exact ⟨rfl, rfl⟩
end Go.Proofs.YtncegikmpapldaaGreatDoor

-- from XSCanon
/- Places: the model's plainest form, whole. -/
namespace Go.Proofs.YtncegikmpapldaaGreatDoor
open Go.RowKit

theorem putC_len (n : Nat) : (putC n).length ≤ 3 ∧ 0 < (putC n).length := by unfold putC; split <;> simp [upperL]
theorem plainL_len {asks : Bool} {l r : List UInt8} (h : plainL asks l = some r) : r.length ≤ l.length := by
  induction hl : l.length using Nat.strongRecOn generalizing l r with
  | _ n ih =>
    subst hl
    match l with
    | [] => rw [plainL_nil] at h; obtain rfl := Option.some.inj h; simp
    | c :: l =>
      cases hc : codeL (c :: l) with
      | none =>
        rw [plainL_lit hc] at h
        split at h
        · obtain ⟨m, hm, rfl⟩ := Option.map_eq_some_iff.1 h
          have := ih l.length (by simp) hm rfl; simp; omega
        · cases h
      | some k =>
        have h3 : 3 ≤ (c :: l).length := by
          rcases Nat.lt_or_ge (c :: l).length 3 with h | h
          · rw [codeL_short h] at hc; cases hc
          · exact h
        rw [plainL_code hc] at h
        split at h
        · cases h
        · obtain ⟨m, hm, rfl⟩ := Option.map_eq_some_iff.1 h
          have := ih (l.drop 2).length (by simp; omega) hm rfl
          have := (putC_len k).1
          simp at *; omega

set_option maxHeartbeats 1600000 in
theorem l2_plain (s : ByteArray) (asks : Bool) (w : World) (hs : s.size ≤ 1048576) :
    Calls Tryz.prog 88 #[.string s, .bool asks] w fun e w' => e = .returned (strV ((plainL asks s.data.toList).getD [])) ∧ Below w.heap.size w w' := by
  obtain ⟨R, hR⟩ : ∃ R, R = plainL asks s.data.toList := ⟨_, rfl⟩
  rw [← hR]
  have HT := Lib.hid hR
  have hR0 := Lib.hid (show R = (plainL asks (s.data.toList.drop 0)).map (([] : List UInt8) ++ ·) by rw [hR]; simp)
  clear hR
  go_enter Tryz.func88, Tryz.ntmps88
  go_wp2_with fail
  go_loopw [5, 6] (fun out i wr => ∃ (k : Nat) (acc : List UInt8), k ≤ s.size ∧ i = .int .i64 k ∧ out = .string ⟨acc.toArray⟩ ∧ acc.length ≤ k ∧ Hid (R = (plainL asks (s.data.toList.drop k)).map (acc ++ ·)) ∧ Below w.heap.size w wr) (fun _ i _ => s.size - (intOf i).toNat)
  case atStart => exact ⟨0, [], Nat.zero_le _, rfl, rfl, Nat.zero_le _, hR0, Below.refl _ _⟩
  case round =>
    clear hR0
    obtain ⟨k, acc, hk, rfl, rfl, hacc, HR, hbel⟩ := hrel
    have hsz : (ByteArray.mk acc.toArray).size ≤ 1048576 := by rw [size_len]; simp; omega
    by_cases hlt : k < s.size
    · have hdr := drop_at s k hlt
      cases hc : codeL (s.data.toList.drop k) with
      | none =>
        have c1 := fun W => step_lit s k asks hlt W hs hc
        rw [hdr] at HR hc
        rw [plainL_lit hc] at HR
        clear hc hdr
        cases ho : okLit asks s[k] with
        | true =>
          rw [ho] at HR c1
          simp only [if_true] at HR c1
          have hx : (ByteArray.mk acc.toArray) ++ ⟨#[s[k]]⟩ = ⟨(acc ++ [s[k]]).toArray⟩ := cat_mk acc [s[k]]
          have hsz1 : (ByteArray.mk #[s[k]]).size = 1 := rfl
          clear ho
          go_wp2_with fail
          refine (c1 _).mono ?_
          rintro e w' ⟨rfl, rfl⟩
          clear c1
          go_wp2
          go_roundw
          case rel => exact ⟨k + 1, acc ++ [s[k]], by omega, by go_num, by first | rfl | exact congrArg Value.string hx, by simp; omega, Lib.hid (by rw [HR.out, Option.map_map]; congr 1; funext m; simp), hbel⟩
          case measure => simp [intOf]; omega
        | false =>
          rw [ho] at HR c1
          simp only [Bool.false_eq_true, if_false] at HR c1
          clear ho
          go_wp2_with fail
          refine (c1 _).mono ?_
          rintro e w' ⟨rfl, rfl⟩
          clear c1
          go_wp2
          go_ret
          refine ⟨?_, hbel⟩
          rw [HR.out]; rfl
      | some n =>
        have h3 : k + 3 ≤ s.size := by
          rcases Nat.lt_or_ge (s.data.toList.drop k).length 3 with h | h
          · rw [codeL_short h] at hc; cases hc
          · rw [List.length_drop] at h; rw [size_len]; omega
        cases hd : doubtB n with
        | true =>
          have c1 := fun W => step_doubt s k n asks hlt W hs hc hd
          rw [hdr] at HR hc
          rw [plainL_code hc, hd] at HR
          clear hc hdr hd
          go_wp2_with fail
          refine (c1 _).mono ?_
          rintro e w' ⟨rfl, rfl⟩
          clear c1
          go_wp2
          go_ret
          refine ⟨?_, hbel⟩
          rw [HR.out]; rfl
        | false =>
          have c1 := fun W => step_code s k n asks hlt W hs hc hd
          rw [hdr] at HR hc
          rw [plainL_code hc, hd, List.drop_drop] at HR
          simp only [Bool.false_eq_true, if_false] at HR
          clear hc hdr hd
          have hx : (ByteArray.mk acc.toArray) ++ ⟨(putC n).toArray⟩ = ⟨(acc ++ putC n).toArray⟩ := cat_mk acc (putC n)
          have hl := (putC_len n).1
          have hsz1 : (ByteArray.mk (putC n).toArray).size ≤ 3 := by rw [size_len]; simpa using hl
          generalize putC n = u at *
          go_wp2_with fail
          refine (c1 _).mono ?_
          rintro e w1 ⟨rfl, hb1⟩
          clear c1
          go_wp2
          go_roundw
          case rel => exact ⟨k + 3, acc ++ u, by omega, by go_num, by first | rfl | exact congrArg Value.string hx, by simp; omega, Lib.hid (by rw [HR.out, Option.map_map]; congr 1; funext m; simp), hbel.trans (hb1.mono hbel.size)⟩
          case measure => simp [intOf]; omega
    · go_wp2
      go_ret
      refine ⟨?_, hbel⟩
      rw [HR.out, drop_end s k (by omega), plainL_nil]
      simp
end Go.Proofs.YtncegikmpapldaaGreatDoor

-- from XSSteps
/- Places: the model's check on the parts of a path; the model whole. -/
namespace Go.Proofs.YtncegikmpapldaaGreatDoor
open Go.RowKit

theorem segs_last (p : List UInt8) : segsOk [p] = !isDots p := rfl
theorem segs_more (p q : List UInt8) (r : List (List UInt8)) : segsOk (p :: q :: r) = (!isDots p && !p.isEmpty && segsOk (q :: r)) := rfl

set_option maxHeartbeats 1600000 in
theorem l2_steps (s : ByteArray) (w : World) (hs : s.size ≤ 1048576) :
    Calls Tryz.prog 89 #[.string s] w fun e w' => e = .returned (.bool (segsOk (partsL s.data.toList 47).tail)) ∧ Below w.heap.size w w' := by
  have c1 := fun W => spec_parts s 47 W hs
  obtain ⟨R, hR⟩ : ∃ R, R = segsOk (partsL s.data.toList 47).tail := ⟨_, rfl⟩
  rw [← hR]
  have hne := partsL_ne s.data.toList 47
  have hplen : (partsL s.data.toList 47).length ≤ s.data.toList.length + 1 := partsL_len _ _
  rw [← size_len] at hplen
  generalize partsL s.data.toList 47 = ps at *
  have HR0 := Lib.hid (show R = segsOk (ps.drop 1) by rw [hR]; simp)
  have h1 : 1 ≤ ps.length := by cases ps with
    | nil => exact absurd rfl hne
    | cons a l => simp
  clear hR hne
  go_enter Tryz.func89, Tryz.ntmps89
  go_wp2_with fail
  refine (c1 _).mono ?_
  rintro e w1 ⟨v, rfl, hown, hb1⟩
  clear c1
  obtain ⟨g, cap, rfl⟩ := own_form hown (by omega)
  have hmax := own_max hown
  have HC : ∀ j (hj : j < ps.length), w1.cell? ⟨g, j, none⟩ = some (.string ⟨(ps[j]).toArray⟩) := fun j hj => own_cell hown (u := strV ps[j]) (by simp [hj])
  have HH := Lib.hid HC
  clear hown HC
  go_wp2_with fail
  go_loop [4] (fun i => ∃ k : Nat, 1 ≤ k ∧ k ≤ ps.length ∧ i = .int .i64 k ∧ Hid (R = segsOk (ps.drop k))) (fun i => ps.length - (intOf i).toNat)
  case atStart => exact ⟨1, Nat.le_refl _, h1, rfl, HR0⟩
  case round =>
    clear HR0
    obtain ⟨k, hk1, hk, rfl, HR⟩ := hrel
    by_cases hlt : k < ps.length
    · have hc := HH.out k hlt
      rw [List.drop_eq_getElem_cons hlt] at HR
      generalize ps[k] = p at *
      obtain ⟨q, hq⟩ : ∃ q : ByteArray, q = ⟨p.toArray⟩ := ⟨_, rfl⟩
      have hqp : q.toList = p := by rw [hq, Lib.toList_data]
      rw [← hq] at hc
      clear hq
      cases b1 : (q.toList == [46]) with
      | true =>
        have hf : R = false := by
          rw [HR.out]
          have : isDots p = true := by unfold isDots; rw [← hqp, b1]; rfl
          cases h : ps.drop (k + 1) with
          | nil => rw [segs_last, this]; rfl
          | cons a r => rw [segs_more, this]; rfl
        clear HR hqp
        go_wp2
        go_ret
        exact ⟨rfl, hb1⟩
      | false =>
        cases b2 : (q.toList == [46, 46]) with
        | true =>
          have hf : R = false := by
            rw [HR.out]
            have : isDots p = true := by unfold isDots; rw [← hqp, b2]; simp
            cases h : ps.drop (k + 1) with
            | nil => rw [segs_last, this]; rfl
            | cons a r => rw [segs_more, this]; rfl
          clear HR hqp
          go_wp2
          go_ret
          exact ⟨rfl, hb1⟩
        | false =>
          have hd : isDots p = false := by unfold isDots; rw [← hqp, b1, b2]; rfl
          cases b3 : (q.toList == []) with
          | true =>
            have he : p = [] := by rw [← hqp]; simpa using b3
            by_cases hl : k + 1 < ps.length
            · have hf : R = false := by
                rw [HR.out, List.drop_eq_getElem_cons hl, segs_more, he]; rfl
              clear HR hqp hd he
              go_wp2
              go_ret
              exact ⟨rfl, hb1⟩
            · have hn : R = segsOk (ps.drop (k + 1)) := by
                rw [HR.out, List.drop_of_length_le (by omega), segs_last, hd]; rfl
              have HN := Lib.hid hn
              clear HR hqp hd he hn
              go_wp2
              go_round
              case rel => exact ⟨k + 1, by omega, by omega, by go_num, HN⟩
              case measure => simp [intOf]; omega
          | false =>
            have hn : R = segsOk (ps.drop (k + 1)) := by
              rw [HR.out]
              have hne : p.isEmpty = false := by rw [← hqp]; cases h : q.toList with
                | nil => rw [h] at b3; cases b3
                | cons a r => rfl
              cases h : ps.drop (k + 1) with
              | nil => rw [segs_last, hd]; rfl
              | cons a r => rw [segs_more, hd, hne]; rfl
            have HN := Lib.hid hn
            clear HR hqp hd hn
            go_wp2
            go_round
            case rel => exact ⟨k + 1, by omega, by omega, by go_num, HN⟩
            case measure => simp [intOf]; omega
    · have hf : R = true := by rw [HR.out, List.drop_of_length_le (by omega)]; rfl
      clear HR
      go_wp2
      go_ret
      exact ⟨rfl, hb1⟩

theorem plainL_empty {asks : Bool} {l : List UInt8} (h : plainL asks l = some []) : l = [] := by
  cases l with
  | nil => rfl
  | cons c l =>
    cases hc : codeL (c :: l) with
    | none =>
      rw [plainL_lit hc] at h
      split at h
      · obtain ⟨m, hm, he⟩ := Option.map_eq_some_iff.1 h; cases he
      · cases h
    | some k =>
      rw [plainL_code hc] at h
      split at h
      · cases h
      · obtain ⟨m, hm, he⟩ := Option.map_eq_some_iff.1 h
        have := (putC_len k).2
        have h2 := congrArg List.length he
        simp at h2; rw [h2.1] at this; simp at this

def canV (o : Option (List UInt8)) : Value := .tuple #[strV (o.getD []), .bool o.isSome]
theorem canonL_len {l r : List UInt8} (h : canonL l = some r) : l.length ≤ 40 ∧ 0 < l.length := by
  unfold canonL at h
  split at h
  · cases h
  · omega

theorem rootR_cons (c : UInt8) (l : List UInt8) : rootR (c :: l) = if c = 47 then resP [47] 1 l else none := rfl
theorem one_sz (c : UInt8) : (ByteArray.mk #[c]).size = 1 := rfl

set_option maxHeartbeats 1600000 in
theorem spec_canon (s : ByteArray) (w : World) (hs : s.size ≤ 1048576) :
    Calls Tryz.prog 45 #[.string s] w fun e w' => e = .returned (canV (canonL s.data.toList)) ∧ Below w.heap.size w w' := by
  obtain ⟨R, hR⟩ : ∃ R, R = canonL s.data.toList := ⟨_, rfl⟩
  rw [← hR]
  have hbad : R = none → canV R = .tuple #[.string ⟨#[]⟩, .bool false] := fun h => by rw [h]; rfl
  unfold canonL at hR
  rw [← size_len] at hR
  by_cases h0 : s.size = 0
  · rw [if_pos (.inl h0)] at hR
    rw [hbad hR]
    clear hbad hR hs
    have hz : ((s.size : Int) == 0) = true := by rw [h0]; rfl
    clear h0
    go_enter Tryz.func45, Tryz.ntmps45
    go_wp2
    go_ret2
    exact ⟨rfl, Below.refl _ _⟩
  · have hz : ((s.size : Int) == 0) = false := beq_eq_false_iff_ne.2 (by omega)
    by_cases h40 : 40 < s.size
    · rw [if_pos (.inr h40)] at hR
      rw [hbad hR]
      clear hbad hR h0
      go_enter Tryz.func45, Tryz.ntmps45
      go_wp2
      go_ret2
      exact ⟨rfl, Below.refl _ _⟩
    · rw [if_neg (by omega)] at hR
      have hd := drop_at s 0 (by omega)
      rw [List.drop_zero] at hd
      rw [hd] at hR
      have e1 := u8_eqk s[0] 47
      simp only [UInt8.reduceToNat, Int.cast_ofNat_Int] at e1
      by_cases hc : s[0] = 47
      · have c1 := fun W => spec_cut s 63 W (by unfold maxLen; omega)
        rw [hd, hc, cutL_cons (by decide)] at c1
        rw [rootR_cons, if_pos hc] at hR
        unfold resP at hR
        have hlen : (s.data.toList.drop (0 + 1)).length ≤ 40 := by rw [List.length_drop, ← size_len]; omega
        have hcl := cutL_len (s.data.toList.drop (0 + 1)) 63
        generalize s.data.toList.drop (0 + 1) = l at *
        generalize cutL l 63 = q at *
        obtain ⟨p, q, asks⟩ := q
        simp only at hR c1 hcl
        have hsz1 : (ByteArray.mk (47 :: p).toArray).size ≤ 1048576 := by rw [size_len]; simp; omega
        have hsz2 : (ByteArray.mk q.toArray).size ≤ 1048576 := by rw [size_len]; simp; omega
        have c2 := fun W => l2_plain ⟨(47 :: p).toArray⟩ false W hsz1
        have c3 := fun W => l2_plain ⟨q.toArray⟩ true W hsz2
        simp only at c2 c3
        rw [plainL_lit (codeL_ne (by decide)), show okLit false 47 = true from by decide, if_pos rfl] at c2
        have hh : ((s[0].toNat : Int) != 47) = false := by rw [hc]; rfl
        have h01 : (0 : Int) < s.size := by omega
        clear e1 hd hc
        cases hp : plainL false p with
        | none =>
          rw [hp] at hR c2
          rw [hbad hR]
          simp only [Option.map_none, Option.getD_none] at c2
          clear hR hp c3 hbad
          go_enter Tryz.func45, Tryz.ntmps45
          go_wp2_with fail
          refine (c1 _).mono ?_
          rintro e w1 ⟨rfl, n1, rfl⟩
          go_wp2_with fail
          refine (c2 _).mono ?_
          rintro e w2 ⟨rfl, hb2⟩
          clear c1 c2
          unfold strV
          go_wp2
          go_ret2
          exact ⟨rfl, below_drewN_left hb2⟩
        | some o =>
          rw [hp] at hR c2
          simp only [Option.map_some, Option.getD_some] at c2
          have hol := plainL_len hp
          have hsz3 : (ByteArray.mk (47 :: o).toArray).size ≤ 50 := by rw [size_len]; simp; omega
          have c4 := fun W => l2_steps ⟨(47 :: o).toArray⟩ W (by omega)
          simp only at c4
          have hpt : (partsL (47 :: o) 47).tail = partsL o 47 := by rw [show (47 :: o : List UInt8) = [] ++ 47 :: o from rfl, partsL_app _ _ (by simp)]; rfl
          rw [hpt] at c4
          have hnil : ((ByteArray.mk (47 :: o).toArray).toList == ([] : List UInt8)) = false := by rw [toList_mk]; rfl
          simp only [show List.drop 1 [(47 : UInt8)] = [] from rfl, List.nil_append] at hR
          cases hsg : segsOk (partsL o 47) with
          | false =>
            rw [hsg] at hR c4
            rw [hbad (by simpa using hR)]
            unfold strV at c2
            clear hR hp c3 hbad hpt hsg
            generalize ByteArray.mk (47 :: o).toArray = os at *
            go_enter Tryz.func45, Tryz.ntmps45
            go_wp2_with fail
            refine (c1 _).mono ?_
            rintro e w1 ⟨rfl, n1, rfl⟩
            go_wp2_with fail
            refine (c2 _).mono ?_
            rintro e w2 ⟨rfl, hb2⟩
            go_wp2_with fail
            refine (c4 _).mono ?_
            rintro e w3 ⟨rfl, hb3⟩
            clear c1 c2 c4
            go_wp2
            go_ret2
            exact ⟨rfl, (below_drewN_left hb2).trans (hb3.mono (by have := hb2.size; simpa using this))⟩
          | true =>
            rw [hsg] at hR c4
            simp only [if_true] at hR
            unfold strV at c2
            cases asks with
            | false =>
              simp only [Bool.false_eq_true, if_false] at hR
              have hR' : canV R = .tuple #[.string ⟨(47 :: o).toArray⟩, .bool true] := by rw [hR]; rfl
              rw [hR']
              clear hR hp c3 hbad hpt hsg hR'
              generalize ByteArray.mk (47 :: o).toArray = os at *
              go_enter Tryz.func45, Tryz.ntmps45
              go_wp2_with fail
              refine (c1 _).mono ?_
              rintro e w1 ⟨rfl, n1, rfl⟩
              go_wp2_with fail
              refine (c2 _).mono ?_
              rintro e w2 ⟨rfl, hb2⟩
              go_wp2_with fail
              refine (c4 _).mono ?_
              rintro e w3 ⟨rfl, hb3⟩
              have hb4 := (below_drewN_left hb2).trans (hb3.mono (by have := hb2.size; simpa using this))
              clear hb2 hb3 c1 c2 c4
              go_wp2
              go_ret2
              exact ⟨rfl, hb4⟩
            | true =>
              simp only [if_true] at hR
              cases hq : plainL true q with
              | none =>
                rw [hq] at hR c3
                rw [hbad (by simpa using hR)]
                have hqn : ((ByteArray.mk q.toArray).toList == ([] : List UInt8)) = false := by
                  rw [toList_mk]
                  cases q with
                  | nil => rw [plainL_nil] at hq; cases hq
                  | cons a b => rfl
                simp only [Option.getD_none] at c3
                unfold strV at c3
                clear hR hp hq hbad hpt hsg
                generalize ByteArray.mk (47 :: o).toArray = os at *
                generalize ByteArray.mk q.toArray = qs at *
                go_enter Tryz.func45, Tryz.ntmps45
                go_wp2_with fail
                refine (c1 _).mono ?_
                rintro e w1 ⟨rfl, n1, rfl⟩
                go_wp2_with fail
                refine (c2 _).mono ?_
                rintro e w2 ⟨rfl, hb2⟩
                go_wp2_with fail
                refine (c4 _).mono ?_
                rintro e w3 ⟨rfl, hb3⟩
                have hb4 := (below_drewN_left hb2).trans (hb3.mono (by have := hb2.size; simpa using this))
                clear hb2 hb3 c1 c2 c4
                go_wp2_with fail
                refine (c3 _).mono ?_
                rintro e w4 ⟨rfl, hb5⟩
                clear c3
                go_wp2
                go_ret2
                exact ⟨rfl, hb4.trans (hb5.mono hb4.size)⟩
              | some m =>
                rw [hq] at hR c3
                have hml := plainL_len hq
                have hR' : canV R = .tuple #[.string ((⟨(47 :: o).toArray⟩ ++ ⟨#[63]⟩ : ByteArray) ++ ⟨m.toArray⟩), .bool true] := by
                  rw [hR, show (⟨#[63]⟩ : ByteArray) = ⟨[63].toArray⟩ from rfl, cat_mk, cat_mk]; simp [canV]
                rw [hR']
                have hm0 : m = [] → q = [] := fun h => plainL_empty (h ▸ hq)
                simp only [Option.getD_some] at c3
                unfold strV at c3
                have hszm : (ByteArray.mk m.toArray).size ≤ 40 := by rw [size_len]; simp; omega
                have hz1 := one_sz 63
                cases m with
                | nil =>
                  obtain rfl := hm0 rfl
                  clear hR hp hq hbad hpt hsg hR' hm0
                  generalize ByteArray.mk (47 :: o).toArray = os at *
                  go_enter Tryz.func45, Tryz.ntmps45
                  go_wp2_with fail
                  refine (c1 _).mono ?_
                  rintro e w1 ⟨rfl, n1, rfl⟩
                  go_wp2_with fail
                  refine (c2 _).mono ?_
                  rintro e w2 ⟨rfl, hb2⟩
                  go_wp2_with fail
                  refine (c4 _).mono ?_
                  rintro e w3 ⟨rfl, hb3⟩
                  have hb4 := (below_drewN_left hb2).trans (hb3.mono (by have := hb2.size; simpa using this))
                  clear hb2 hb3 c1 c2 c4
                  go_wp2_with fail
                  refine (c3 _).mono ?_
                  rintro e w4 ⟨rfl, hb5⟩
                  clear c3
                  go_wp2
                  go_ret2
                  exact ⟨rfl, hb4.trans (hb5.mono hb4.size)⟩
                | cons ma mb =>
                  have hmn : ((ByteArray.mk (ma :: mb).toArray).toList == ([] : List UInt8)) = false := by rw [toList_mk]; rfl
                  clear hR hp hq hbad hpt hsg hR' hm0
                  generalize ByteArray.mk (47 :: o).toArray = os at *
                  generalize ByteArray.mk (ma :: mb).toArray = ms at *
                  generalize ByteArray.mk q.toArray = qs at *
                  go_enter Tryz.func45, Tryz.ntmps45
                  go_wp2_with fail
                  refine (c1 _).mono ?_
                  rintro e w1 ⟨rfl, n1, rfl⟩
                  go_wp2_with fail
                  refine (c2 _).mono ?_
                  rintro e w2 ⟨rfl, hb2⟩
                  go_wp2_with fail
                  refine (c4 _).mono ?_
                  rintro e w3 ⟨rfl, hb3⟩
                  have hb4 := (below_drewN_left hb2).trans (hb3.mono (by have := hb2.size; simpa using this))
                  clear hb2 hb3 c1 c2 c4
                  go_wp2_with fail
                  refine (c3 _).mono ?_
                  rintro e w4 ⟨rfl, hb5⟩
                  clear c3
                  go_wp2
                  go_ret2
                  exact ⟨rfl, hb4.trans (hb5.mono hb4.size)⟩
      · rw [rootR_cons, if_neg hc] at hR
        rw [hbad hR]
        have hh : ((s[0].toNat : Int) != 47) = true := by
          have e2 : (s[0] == 47) = false := by simpa using hc
          rw [e2] at e1
          simp only [bne, e1, Bool.not_false]
        have h01 : (0 : Int) < s.size := by omega
        clear hR hbad hd e1 hc
        go_enter Tryz.func45, Tryz.ntmps45
        go_wp2
        go_ret2
        exact ⟨rfl, Below.refl _ _⟩
end Go.Proofs.YtncegikmpapldaaGreatDoor

-- from XCan
/- Places: the machine that writes a place in its plainest form: its steps. -/
namespace Go.Proofs.YtncegikmpapldaaGreatDoor
open Go.RowKit

/-- The form so far lies in the block b, its bytes in a row of the call's own behind it. -/
def CAt (w : World) (b : Nat) (ys : List UInt8) (seg : Nat) (res : Value) (high : Nat) : Prop :=
  ∃ v, w.heap[b]? = some (.cells #[v, .int .i64 (seg : Int), res, .int .u8 (high : Int)] 147 (0, 0)) ∧ w.ownsRow (b + 1) 5 1 v ys.length (u8s ys)

theorem CAt.lt {w : World} {b : Nat} {ys : List UInt8} {seg : Nat} {res : Value} {high : Nat} (h : CAt w b ys seg res high) : b < w.heap.size := by
  obtain ⟨v, hh, _⟩ := h; exact (Array.getElem?_eq_some_iff.1 hh).1

def pathV (b : Nat) : Value := .func (.func 185) #[.pointer (some ⟨b, 0, none⟩)] #[]
def queryV (b : Nat) : Value := .func (.func 206) #[.pointer (some ⟨b, 0, none⟩)] #[]

theorem grown_set (w : World) (b k : Nat) (x : Value) : w.grownBy (w.setCell ⟨b, k, none⟩ x) (some b) := ⟨rfl, rfl, rfl, by simp, fun j _ hj => heap_setCell_other w ⟨b, k, none⟩ j _ (fun e => hj (by simp [e]))⟩
theorem below_set {w w3 : World} {b k : Nat} {x : Value} (h : Below b w w3) : Below b w (w3.setCell ⟨b, k, none⟩ x) :=
  ⟨h.os, h.tape, h.output, by simpa using h.size, fun j hj => (heap_setCell_other w3 ⟨b, k, none⟩ j _ (by simp; omega)).trans (h.block j hj)⟩
theorem own_set {w : World} {b k n : Nat} {v x : Value} {e : TypeId} {xs : List Value} (h : w.ownsRow (b + 1) e 1 v n xs) : (w.setCell ⟨b, k, none⟩ x).ownsRow (b + 1) e 1 v n xs :=
  h.kept (grown_set w b k x) (.inr fun e => by have := (h.lt b e).1; omega)

theorem CAt.set0 {w : World} {b n seg high : Nat} {v v' res : Value} {ys : List UInt8} (hh : w.heap[b]? = some (.cells #[v, .int .i64 (seg : Int), res, .int .u8 (high : Int)] 147 (0, 0))) (ho : w.ownsRow (b + 1) 5 1 v' n (u8s ys)) (hn : n = ys.length) : CAt (w.setCell ⟨b, 0, none⟩ v') b ys seg res high := by
  refine ⟨v', ?_, hn ▸ own_set ho⟩
  rw [heap_setCell_same w b 0 _ _ _ hh]; simp
theorem CAt.set1 {w : World} {b seg high : Nat} {res : Value} {ys : List UInt8} (h : CAt w b ys seg res high) (n : Nat) : CAt (w.setCell ⟨b, 1, none⟩ (.int .i64 (n : Int))) b ys n res high := by
  obtain ⟨v, hh, ho⟩ := h
  refine ⟨v, ?_, own_set ho⟩
  rw [heap_setCell_same w b 1 _ _ _ hh]; simp
theorem CAt.set2 {w : World} {b seg high : Nat} {res : Value} {ys : List UInt8} (h : CAt w b ys seg res high) (r : Value) : CAt (w.setCell ⟨b, 2, none⟩ r) b ys seg r high := by
  obtain ⟨v, hh, ho⟩ := h
  refine ⟨v, ?_, own_set ho⟩
  rw [heap_setCell_same w b 2 _ _ _ hh]; simp
theorem CAt.set3 {w : World} {b seg high : Nat} {res : Value} {ys : List UInt8} (h : CAt w b ys seg res high) (n : Nat) : CAt (w.setCell ⟨b, 3, none⟩ (.int .u8 (n : Int))) b ys seg res n := by
  obtain ⟨v, hh, ho⟩ := h
  refine ⟨v, ?_, own_set ho⟩
  rw [heap_setCell_same w b 3 _ _ _ hh]; simp

set_option maxHeartbeats 800000 in
theorem c_put (b : Nat) (ys : List UInt8) (seg high : Nat) (res next : Value) (c : UInt8) (w : World) (h : CAt w b ys seg res high) (hn : ys.length ≤ 1000) :
    Calls Tryz.prog 184 #[.pointer (some ⟨b, 0, none⟩), .int .u8 c.toNat, next] w fun e w' => e = .returned next ∧ CAt w' b (ys ++ [c]) seg res high ∧ Below b w w' := by
  obtain ⟨i0, hi, hz0, hz1, hz2⟩ := info_parts Tryz.info5
  have hlt := h.lt
  obtain ⟨v, hh, hown⟩ := h
  have c0 : w.cell? ⟨b, 0, none⟩ = some v := by simp [World.cell?, hh]
  have fin : ∀ (w3 : World) (v' : Value), w3.ownsRow (b + 1) 5 1 v' (ys.length + 1) (u8s ys ++ [.int .u8 (c.toNat : Int)]) → w3.heap[b]? = w.heap[b]? → Below b w w3 → CAt (w3.setCell ⟨b, 0, none⟩ v') b (ys ++ [c]) seg res high ∧ Below b w (w3.setCell ⟨b, 0, none⟩ v') := by
    intro w3 v' ho hh3 hb3
    rw [← u8s_app] at ho
    exact ⟨CAt.set0 (hh3.trans hh) ho (by simp), below_set hb3⟩
  have hfz : w.frozen? ⟨b, 0, none⟩ = false := by simp [World.frozen?, hh]
  have HH := Lib.hid hh; clear hh
  go_enter Tryz.func184, Tryz.ntmps184
  go_wp2_with (at_builtin; go_must (refine wpList_append1 w rfl _ _ 22 rfl (b + 1) 5 i0 _ 1 Tryz.underlying22 hi hz0 hz1 hz2 rfl _ _ _ (by rfl) hown _ rfl _ (by rfl) (by unfold maxLen; omega) (by omega) hlt ?_); intro v' w3 ho3 hb3 hlt3; obtain ⟨g', cap', rfl⟩ := own_form ho3 (by omega); have hh3 := hb3.block b (by omega); have c3 : w3.cell? ⟨b, 0, none⟩ = some v := ((World.cell?_of_block (a := ⟨b, 0, none⟩) hh3).trans c0); have f3 : w3.frozen? ⟨b, 0, none⟩ = false := ((World.frozen?_of_block (a := ⟨b, 0, none⟩) hh3).trans hfz))
  go_ret
  obtain ⟨q1, q2⟩ := fin w3 _ ho3 hh3 (hb3.mono (by omega))
  exact ⟨rfl, q1, q2⟩

set_option maxHeartbeats 800000 in
theorem c_slash (b : Nat) (ys : List UInt8) (seg high : Nat) (res : Value) (w : World) (h : CAt w b ys seg res high) (hn : ys.length ≤ 1000) :
    Calls Tryz.prog 159 #[.pointer (some ⟨b, 0, none⟩)] w fun e w' => e = .returned (pathV b) ∧ CAt w' b (ys ++ [47]) (ys.length + 1) res high ∧ Below b w w' := by
  have c1 := c_put b ys seg high res (pathV b) 47 w h hn
  have hmf : ∀ (fn : Fn) (first cap : Array Value) (w : World), (Instr.makeFunc fn first cap).run Tryz.prog w = .ok (.func fn first cap) w := fun _ _ _ _ => rfl
  unfold pathV at *
  clear h
  go_enter Tryz.func159, Tryz.ntmps159
  go_wp2_with fail
  refine c1.mono ?_
  rintro e w1 ⟨rfl, hc, hb⟩
  clear c1
  have hc2 := hc
  obtain ⟨v, hh, ho⟩ := hc2
  have hlen : (ys ++ [47]).length = ys.length + 1 := by simp
  rw [hlen] at ho
  obtain ⟨g', cap', rfl⟩ := own_form ho (by omega)
  have k0 : w1.cell? ⟨b, 0, none⟩ = some (.slice (some ⟨g', 0, none⟩) (ys.length + 1) cap') := by simp [World.cell?, hh]
  have k1 : w1.cell? ⟨b, 1, none⟩ = some (.int .i64 (seg : Int)) := by simp [World.cell?, hh]
  have f1 : w1.frozen? ⟨b, 1, none⟩ = false := by simp [World.frozen?, hh]
  clear hh ho
  go_wp2
  go_ret
  exact ⟨rfl, hc.set1 (ys.length + 1), below_set hb⟩

theorem c_escape (b : Nat) (ys : List UInt8) (seg high : Nat) (res : Value) (q : Bool) (w : World) (h : CAt w b ys seg res high) :
    Calls Tryz.prog 207 #[.pointer (some ⟨b, 0, none⟩), (if q then queryV b else pathV b)] w fun e w' => e = .returned (.func (.func 215) #[.pointer (some ⟨b, 0, none⟩)] #[]) ∧ CAt w' b ys seg (if q then queryV b else pathV b) high ∧ Below b w w' := by
  have hfin := fun r => h.set2 r
  obtain ⟨v, hh, ho⟩ := h
  have k2 : w.cell? ⟨b, 2, none⟩ = some res := by simp [World.cell?, hh]
  have f2 : w.frozen? ⟨b, 2, none⟩ = false := by simp [World.frozen?, hh]
  have hmf : ∀ (fn : Fn) (first cap : Array Value) (w : World), (Instr.makeFunc fn first cap).run Tryz.prog w = .ok (.func fn first cap) w := fun _ _ _ _ => rfl
  clear hh ho
  unfold pathV queryV at *
  cases q
  · simp only [Bool.false_eq_true, if_false]
    go_enter Tryz.func207, Tryz.ntmps207
    go_wp2
    go_ret
    exact ⟨rfl, hfin _, below_set (Below.refl _ _)⟩
  · simp only [if_true]
    go_enter Tryz.func207, Tryz.ntmps207
    go_wp2
    go_ret
    exact ⟨rfl, hfin _, below_set (Below.refl _ _)⟩
end Go.Proofs.YtncegikmpapldaaGreatDoor

-- from XCan2
/- Places: the machine that writes a place in its plainest form: dots, paths, what is asked. -/
namespace Go.Proofs.YtncegikmpapldaaGreatDoor
open Go.RowKit

set_option maxRecDepth 100000 in
set_option maxHeartbeats 1600000 in
theorem c_dotted (b : Nat) (ys : List UInt8) (seg high : Nat) (res : Value) (w : World) (h : CAt w b ys seg res high) (__hn : ys.length ≤ 1000) (h0 : 0 < ys.length) (hs : seg ≤ ys.length) :
    Calls Tryz.prog 160 #[.pointer (some ⟨b, 0, none⟩)] w fun e w' => e = .returned (.bool (dotL (ys.drop seg))) ∧ ∃ n, w' = w.drewN n := by
  obtain ⟨v, hh, hown⟩ := h
  obtain ⟨g, cap, rfl⟩ := own_form hown h0
  obtain ⟨hm1, hm2⟩ := own_max hown
  have k0 : w.cell? ⟨b, 0, none⟩ = some (.slice (some ⟨g, 0, none⟩) ys.length cap) := by simp [World.cell?, hh]
  have k1 : w.cell? ⟨b, 1, none⟩ = some (.int .i64 (seg : Int)) := by simp [World.cell?, hh]
  have hcv : ∀ W : World, (∀ a : Addr, W.cell? a = w.cell? a) → (convert 22 79 (.slice (if cap = seg then some ⟨g, 0, none⟩ else some ⟨g, seg, none⟩) (ys.length - seg) (cap - seg))).run Tryz.prog W = .ok (.string ⟨(ys.drop seg).toArray⟩) W := by
    intro W hW
    have hl : ys.length - seg = (ys.drop seg).length := by simp
    rw [hl]
    have key : ∀ o : Nat, (o = seg ∨ ys.length ≤ seg) → (convert 22 79 (.slice (some ⟨g, o, none⟩) (ys.drop seg).length (cap - seg))).run Tryz.prog W = .ok (.string ⟨(ys.drop seg).toArray⟩) W := by
      intro o ho
      refine run_convert_bytes_back (P := Tryz.prog) W 22 79 5 ⟨g, o, none⟩ (cap - seg) (ys.drop seg) Tryz.underlying22 Tryz.underlying5 Tryz.underlying79 (fun j hj => ?_)
      have hj2 : seg + j < ys.length := by simp at hj; omega
      obtain rfl : o = seg := by omega
      have hadd : (⟨g, o, none⟩ : Addr).add j = ⟨g, o + j, none⟩ := by unfold Addr.add; split <;> simp_all
      rw [hadd, hW, own_cell hown (u8s_at hj2), List.getElem_drop]
    by_cases hc : cap = seg
    · rw [if_pos hc]; exact key 0 (by omega)
    · rw [if_neg hc]; exact key seg (.inl rfl)
  have hcd := hcv w.drew (fun _ => rfl)
  have c1 := fun W => textcut ⟨(ys.drop seg).toArray⟩ 63 W (by rw [size_len]; unfold maxLen; simp; omega)
  simp only [UInt8.reduceToNat, Int.cast_ofNat_Int] at c1
  have hlen := (cutL_len (ys.drop seg) 63).1
  obtain ⟨R, hR⟩ : ∃ R, R = dotL (ys.drop seg) := ⟨_, rfl⟩
  rw [← hR]
  unfold dotL at hR
  clear hown hh hcv
  generalize cutL (ys.drop seg) 63 = r at *
  obtain ⟨p, r2, r3⟩ := r
  simp only at c1 hR
  generalize ByteArray.mk (ys.drop seg).toArray = os at *
  unfold isDots at hR
  rw [← toList_mk p] at hR
  generalize ByteArray.mk p.toArray = ps at *
  generalize hb1 : (ps.toList == [46]) = b1 at *
  generalize hb2 : (ps.toList == [46, 46]) = b2 at *
  have HR := Lib.hid hR; clear hR
  by_cases hcs : cap = seg
  · subst hcs
    rw [if_pos rfl, show ys.length - cap = 0 from by omega, show cap - cap = 0 from by omega] at hcd
    cases b1
    all_goals go_enter Tryz.func160, Tryz.ntmps160
    all_goals go_wp2_with fail
    all_goals go_region_with (go_at_call 81; refine (c1 _).mono ?_; rintro e w1 ⟨rfl, n1, rfl⟩)
    all_goals go_wp2
    all_goals go_ret
    all_goals exact ⟨by rw [HR.out]; rfl, 1 + n1, rfl⟩
  · rw [if_neg hcs] at hcd
    cases b1
    all_goals go_enter Tryz.func160, Tryz.ntmps160
    all_goals go_wp2_with fail
    all_goals go_region_with (go_at_call 81; refine (c1 _).mono ?_; rintro e w1 ⟨rfl, n1, rfl⟩)
    all_goals go_wp2
    all_goals go_ret
    all_goals exact ⟨by rw [HR.out]; rfl, 1 + n1, rfl⟩
end Go.Proofs.YtncegikmpapldaaGreatDoor

-- from XCan3
/- Places: the machine that writes a place in its plainest form: what each step makes of a byte. -/
namespace Go.Proofs.YtncegikmpapldaaGreatDoor
open Go.RowKit

inductive CS where
  | root | path | query
  | d1 (q : Bool)
  | d2 (q : Bool)

def bkV (b : Nat) : Bool → Value
  | true => queryV b
  | false => pathV b
def cV (b : Nat) : CS → Value
  | .root => .func (.func 126) #[.pointer (some ⟨b, 0, none⟩)] #[]
  | .path => pathV b
  | .query => queryV b
  | .d1 _ => .func (.func 215) #[.pointer (some ⟨b, 0, none⟩)] #[]
  | .d2 _ => .func (.func 220) #[.pointer (some ⟨b, 0, none⟩)] #[]
def resOf (b : Nat) : CS → Value
  | .d1 q => bkV b q
  | .d2 q => bkV b q
  | _ => .nilFunc

def CBase (q : Bool) (R : Option (List UInt8)) (ys : List UInt8) (seg : Nat) (l : List UInt8) : Prop :=
  match q with
  | true => QOk ys seg ∧ R = resQ ys seg l
  | false => POk ys seg ∧ R = resP ys seg l
/-- What is still to come of the rest l, in each state of the machine. -/
def CInv (R : Option (List UInt8)) (st : CS) (ys : List UInt8) (seg high : Nat) (l : List UInt8) : Prop :=
  match st with
  | .root => ys = [] ∧ R = rootR l
  | .path => CBase false R ys seg l
  | .query => CBase true R ys seg l
  | .d1 q => CBase q R ys seg (37 :: l)
  | .d2 q => ∃ a, hexV a = some high ∧ CBase q R ys seg (37 :: a :: l)

def CNext (b : Nat) (R : Option (List UInt8)) (n : Nat) (l : List UInt8) (w : World) (e : Ending) (w' : World) : Prop :=
  (e = .returned .nilFunc ∧ R = none ∧ Below b w w') ∨
  ∃ st ys seg high, st ≠ .root ∧ e = .returned (cV b st) ∧ CAt w' b ys seg (resOf b st) high ∧ Hid (CInv R st ys seg high l) ∧ ys.length ≤ n + 3 ∧ Below b w w'

theorem Cls.belowB {w w' : World} (h : Cls w) {B : Nat} (hb : Below B w w') (hB : 1 < B) : Cls w' :=
  ⟨Nat.lt_of_lt_of_le h.1 hb.size, fun i hi => (hb.cell (p := ⟨1, i, none⟩) hB).trans (h.2 i hi)⟩

theorem u8_eqc (c k : UInt8) : ((c.toNat : Int) == (k.toNat : Int)) = (c == k) := by
  rw [Bool.eq_iff_iff, beq_iff_eq, beq_iff_eq]
  exact ⟨fun h => UInt8.toNat_inj.mp (by omega), fun h => by rw [h]⟩
theorem u8_eq {c k : UInt8} (h : c = k) : ((c.toNat : Int) == (k.toNat : Int)) = true := by rw [h]; simp
theorem u8_ne {c k : UInt8} (h : c ≠ k) : ((c.toNat : Int) == (k.toNat : Int)) = false := by
  rw [beq_eq_false_iff_ne]; intro h2; exact h (UInt8.toNat_inj.mp (by omega))

set_option maxHeartbeats 800000 in
theorem s_root (b : Nat) (R : Option (List UInt8)) (c : UInt8) (l : List UInt8) (seg high : Nat) (w : World) (h : CAt w b [] seg .nilFunc high) (hR : R = rootR (c :: l)) :
    Calls Tryz.prog 126 #[.pointer (some ⟨b, 0, none⟩), .int .u8 c.toNat] w (CNext b R 0 l w) := by
  have hrc : rootR (c :: l) = if c = 47 then resP [47] 1 l else none := rfl
  rw [hrc] at hR
  by_cases hc : c = 47
  · have hh := u8_eq hc
    simp only [UInt8.reduceToNat, Int.cast_ofNat_Int] at hh
    have hne : ((c.toNat : Int) != 47) = false := by simp only [bne, hh, Bool.not_true]
    rw [if_pos hc] at hR
    have c1 := c_slash b [] seg high .nilFunc w h (by simp)
    have hfin : Hid (CInv R .path [47] 1 high l) := Lib.hid ⟨⟨by simp, by simp, by simp, by simp⟩, hR⟩
    clear hrc hR hh hc h
    unfold pathV at c1
    go_enter Tryz.func126, Tryz.ntmps126
    go_wp2_with fail
    refine c1.mono ?_
    rintro e w1 ⟨rfl, h1, h2⟩
    go_wp2
    go_ret
    exact .inr ⟨.path, [47], 1, high, (fun h => by cases h), rfl, h1, hfin, by simp, h2⟩
  · have hh := u8_ne hc
    simp only [UInt8.reduceToNat, Int.cast_ofNat_Int] at hh
    have hne : ((c.toNat : Int) != 47) = true := by simp only [bne, hh, Bool.not_false]
    rw [if_neg hc] at hR
    clear hrc hh hc h
    have HR := Lib.hid hR; clear hR
    go_enter Tryz.func126, Tryz.ntmps126
    go_wp2
    go_ret
    exact .inl ⟨rfl, HR.out, Below.refl _ _⟩

/-- What one step leaves where it puts a byte and goes on in the same state or another. -/
theorem next_of {b : Nat} {R : Option (List UInt8)} {n : Nat} {l ys : List UInt8} {seg high : Nat} {w w' : World} {st : CS} (h1 : CAt w' b ys seg (resOf b st) high) (h2 : Hid (CInv R st ys seg high l)) (h3 : ys.length ≤ n + 3) (h4 : Below b w w') (h0 : st ≠ .root := by intro h; cases h) : CNext b R n l w (.returned (cV b st)) w' :=
  .inr ⟨st, ys, seg, high, h0, rfl, h1, h2, h3, h4⟩

set_option maxHeartbeats 1600000 in
theorem s_query (b : Nat) (R : Option (List UInt8)) (ys l : List UInt8) (c : UInt8) (seg high : Nat) (w : World) (h : CAt w b ys seg .nilFunc high) (hcls : Cls w) (hn : ys.length ≤ 900) (hR : CBase true R ys seg (c :: l)) :
    Calls Tryz.prog 206 #[.pointer (some ⟨b, 0, none⟩), .int .u8 c.toNat] w (CNext b R ys.length l w) := by
  have hmf : ∀ (fn : Fn) (first cap : Array Value) (w : World), (Instr.makeFunc fn first cap).run Tryz.prog w = .ok (.func fn first cap) w := fun _ _ _ _ => rfl
  by_cases hc : c = 37
  · have hh := u8_eq hc
    simp only [UInt8.reduceToNat, Int.cast_ofNat_Int] at hh
    have c1 := c_escape b ys seg high .nilFunc true w h
    simp only [if_true] at c1
    have hfin : Hid (CInv R (.d1 true) ys seg high l) := Lib.hid (by rw [hc] at hR; exact hR)
    clear hR hc hcls
    unfold queryV at c1
    go_enter Tryz.func206, Tryz.ntmps206
    go_wp2_with fail
    refine c1.mono ?_
    rintro e w1 ⟨rfl, h1, h2⟩
    go_wp2
    go_ret
    exact next_of (st := .d1 true) h1 hfin (by omega) h2
  · have hh := u8_ne hc
    obtain ⟨hq, hR⟩ := hR
    rw [resQ_lit hq hc] at hR
    have c1 := fun W => impl_free c W
    have c2 := c_put b ys seg high .nilFunc (queryV b) c w h (by omega)
    have hfin : okLit true c = true → Hid (CInv R .query (ys ++ [c]) seg high l) := fun ho => Lib.hid ⟨hq.app _, by rw [hR, if_pos ho]⟩
    have hnone : okLit true c = false → R = none := fun ho => by rw [hR, ho]; rfl
    have e1 := u8_eqc c 61
    have e2 := u8_eqc c 38
    simp only [UInt8.reduceToNat, Int.cast_ofNat_Int] at e1 e2 hh
    have hlen : (ys ++ [c]).length ≤ ys.length + 3 := by simp
    unfold okLit at hfin hnone
    simp only [Bool.not_true, Bool.and_false, Bool.or_false, Bool.true_and] at hfin hnone
    have c3 := c1 w hcls
    have HF := Lib.hid hfin; have HN := Lib.hid hnone
    clear hR hc c1 hfin hnone h hcls
    unfold queryV at c2
    generalize freeB c = f at *
    generalize (c == 61) = b1 at *
    generalize (c == 38) = b2 at *
    cases b1
    · cases b2
      · cases f
        · go_enter Tryz.func206, Tryz.ntmps206
          go_wp2_with fail
          refine c3.mono ?_
          rintro e w1 ⟨rfl, rfl⟩
          clear c3 c2
          go_wp2
          go_ret
          exact .inl ⟨rfl, HN.out rfl, Below.refl _ _⟩
        · go_enter Tryz.func206, Tryz.ntmps206
          go_wp2_with fail
          refine c3.mono ?_
          rintro e w1 ⟨rfl, rfl⟩
          go_wp2_with fail
          refine c2.mono ?_
          rintro e w1 ⟨rfl, h1, h2⟩
          go_wp2
          go_ret
          exact next_of (st := .query) h1 (HF.out rfl) hlen h2
      · go_enter Tryz.func206, Tryz.ntmps206
        go_wp2_with fail
        refine c2.mono ?_
        rintro e w1 ⟨rfl, h1, h2⟩
        go_wp2
        go_ret
        exact next_of (st := .query) h1 (HF.out (by cases f <;> rfl)) hlen h2
    · go_enter Tryz.func206, Tryz.ntmps206
      go_wp2_with fail
      refine c2.mono ?_
      rintro e w1 ⟨rfl, h1, h2⟩
      go_wp2
      go_ret
      exact next_of (st := .query) h1 (HF.out (by cases f <;> cases b2 <;> rfl)) hlen h2

set_option maxHeartbeats 800000 in
theorem s_d1 (b : Nat) (q : Bool) (R : Option (List UInt8)) (ys l : List UInt8) (c : UInt8) (seg high : Nat) (w : World) (h : CAt w b ys seg (bkV b q) high) (hR : CBase q R ys seg (37 :: c :: l)) :
    Calls Tryz.prog 215 #[.pointer (some ⟨b, 0, none⟩), .int .u8 c.toNat] w (CNext b R ys.length l w) := by
  have hmf : ∀ (fn : Fn) (first cap : Array Value) (w : World), (Instr.makeFunc fn first cap).run Tryz.prog w = .ok (.func fn first cap) w := fun _ _ _ _ => rfl
  cases hx : hexV c with
  | none =>
    have hnone : R = none := by
      cases q with
      | true => obtain ⟨_, hR⟩ := hR; rw [hR, resQ_bad1 hx]
      | false => obtain ⟨_, hR⟩ := hR; rw [hR, resP_bad1 hx]
    have HN := Lib.hid hnone
    have c1 := fun W => hex_value_none c hx W
    clear hR hx hnone h
    go_enter Tryz.func215, Tryz.ntmps215
    go_wp2_with fail
    refine (c1 _).mono ?_
    rintro e w' ⟨rfl, rfl⟩
    go_wp2
    go_ret
    exact .inl ⟨rfl, HN.out, Below.refl _ _⟩
  | some x =>
    have hfin : Hid (CInv R (.d2 q) ys seg x l) := Lib.hid ⟨c, hx, hR⟩
    have c1 := fun W => hex_value_some c x hx W
    have hset := h.set3 x
    obtain ⟨v, hh, ho⟩ := h
    have k3 : w.cell? ⟨b, 3, none⟩ = some (.int .u8 (high : Int)) := by simp [World.cell?, hh]
    have f3 : w.frozen? ⟨b, 3, none⟩ = false := by simp [World.frozen?, hh]
    clear hR hx hh ho
    go_enter Tryz.func215, Tryz.ntmps215
    go_wp2_with fail
    refine (c1 _).mono ?_
    rintro e w' ⟨rfl, rfl⟩
    go_wp2
    go_ret
    exact next_of (st := .d2 q) hset hfin (by omega) (below_set (Below.refl _ _))
end Go.Proofs.YtncegikmpapldaaGreatDoor

-- from XCan4b
/- Places: the machine that writes a place in its plainest form: a byte of the path, but a slash. -/
namespace Go.Proofs.YtncegikmpapldaaGreatDoor
open Go.RowKit

set_option maxRecDepth 100000 in
set_option maxHeartbeats 3200000 in
theorem s_path63 (b : Nat) (R : Option (List UInt8)) (ys l : List UInt8) (seg high : Nat) (w : World) (h : CAt w b ys seg .nilFunc high) (hn : ys.length ≤ 900) (hR : CBase false R ys seg (63 :: l)) :
    Calls Tryz.prog 185 #[.pointer (some ⟨b, 0, none⟩), .int .u8 63] w (CNext b R ys.length l w) := by
  have hmf : ∀ (fn : Fn) (first cap : Array Value) (w : World), (Instr.makeFunc fn first cap).run Tryz.prog w = .ok (.func fn first cap) w := fun _ _ _ _ => rfl
  obtain ⟨hp, hR⟩ := hR
  rw [resP_ask hp] at hR
  have hfin : Hid (CInv R .query (ys ++ [63]) seg high l) := Lib.hid ⟨hp.ask, hR⟩
  have c1 := fun n => c_put b ys seg high .nilFunc (queryV b) 63 (w.drewN n) h (by omega)
  simp only [UInt8.reduceToNat, Int.cast_ofNat_Int] at c1
  unfold queryV at c1
  clear hR hp h
  go_enter Tryz.func185, Tryz.ntmps185
  go_wp2_with fail
  go_quiet (fail)
  all_goals go_wp2_with fail
  all_goals refine (c1 _).mono ?_
  all_goals rintro e w2 ⟨rfl, h1, h2⟩
  all_goals go_wp2
  all_goals go_ret
  all_goals exact next_of (st := .query) h1 hfin (by simp) (below_drewN_left h2)

set_option maxRecDepth 100000 in
set_option maxHeartbeats 3200000 in
theorem s_path37 (b : Nat) (R : Option (List UInt8)) (ys l : List UInt8) (seg high : Nat) (w : World) (h : CAt w b ys seg .nilFunc high) (__hn : ys.length ≤ 900) (hR : CBase false R ys seg (37 :: l)) :
    Calls Tryz.prog 185 #[.pointer (some ⟨b, 0, none⟩), .int .u8 37] w (CNext b R ys.length l w) := by
  have hmf : ∀ (fn : Fn) (first cap : Array Value) (w : World), (Instr.makeFunc fn first cap).run Tryz.prog w = .ok (.func fn first cap) w := fun _ _ _ _ => rfl
  have hfin : Hid (CInv R (.d1 false) ys seg high l) := Lib.hid hR
  have c1 := fun n => c_escape b ys seg high .nilFunc false (w.drewN n) h
  simp only [Bool.false_eq_true, if_false] at c1
  unfold pathV at c1
  clear hR h
  go_enter Tryz.func185, Tryz.ntmps185
  go_wp2_with fail
  go_quiet (fail)
  all_goals go_wp2_with fail
  all_goals refine (c1 _).mono ?_
  all_goals rintro e w2 ⟨rfl, h1, h2⟩
  all_goals go_wp2
  all_goals go_ret
  all_goals exact next_of (st := .d1 false) h1 hfin (by omega) (below_drewN_left h2)

set_option maxRecDepth 100000 in
set_option maxHeartbeats 3200000 in
theorem s_pathlit (b : Nat) (R : Option (List UInt8)) (ys l : List UInt8) (c : UInt8) (seg high : Nat) (w : World) (h : CAt w b ys seg .nilFunc high) (hcls : Cls w) (hn : ys.length ≤ 900) (h1 : c ≠ 37) (h2 : c ≠ 63) (h3 : c ≠ 47) (hR : CBase false R ys seg (c :: l)) :
    Calls Tryz.prog 185 #[.pointer (some ⟨b, 0, none⟩), .int .u8 c.toNat] w (CNext b R ys.length l w) := by
  have hmf : ∀ (fn : Fn) (first cap : Array Value) (w : World), (Instr.makeFunc fn first cap).run Tryz.prog w = .ok (.func fn first cap) w := fun _ _ _ _ => rfl
  obtain ⟨hp, hR⟩ := hR
  rw [resP_lit hp h1 h2 h3] at hR
  have e1 := u8_ne h1
  have e2 := u8_ne h2
  have e3 := u8_ne h3
  simp only [UInt8.reduceToNat, Int.cast_ofNat_Int] at e1 e2 e3
  have c3 := fun n => impl_free c (w.drewN n) (hcls.drewN n)
  have c1 := fun n => c_put b ys seg high .nilFunc (pathV b) c (w.drewN n) h (by omega)
  have hlen : (ys ++ [c]).length ≤ ys.length + 3 := by simp
  unfold pathV at c1
  have happ : POk (ys ++ [c]) seg := hp.app [c] (by simpa using fun e => h3 e.symm) (by simpa using fun e => h2 e.symm)
  cases hf : freeB c with
  | true =>
    rw [hf] at hR c3
    have hfin : Hid (CInv R .path (ys ++ [c]) seg high l) := Lib.hid ⟨happ, by simpa using hR⟩
    clear hR hp h hcls h1 h2 h3 hf happ
    go_enter Tryz.func185, Tryz.ntmps185
    go_wp2_with fail
    go_quiet (fail)
    all_goals go_wp2_with fail
    all_goals refine (c3 _).mono ?_
    all_goals rintro e w2 ⟨rfl, rfl⟩
    all_goals go_wp2_with fail
    all_goals refine (c1 _).mono ?_
    all_goals rintro e w2 ⟨rfl, h1, h2⟩
    all_goals go_wp2
    all_goals go_ret
    all_goals exact next_of (st := .path) h1 hfin hlen (below_drewN_left h2)
  | false =>
    rw [hf] at hR c3
    have hnone : R = none := by simpa using hR
    have HN := Lib.hid hnone
    clear hR hp h hcls h1 h2 h3 hf happ hnone c1
    go_enter Tryz.func185, Tryz.ntmps185
    go_wp2_with fail
    go_quiet (fail)
    all_goals go_wp2_with fail
    all_goals refine (c3 _).mono ?_
    all_goals rintro e w2 ⟨rfl, rfl⟩
    all_goals go_wp2
    all_goals go_ret
    all_goals exact .inl ⟨rfl, HN.out, below_drewN (Below.refl _ _)⟩
end Go.Proofs.YtncegikmpapldaaGreatDoor

-- from XCan4
/- Places: the machine that writes a place in its plainest form: a byte of the path. -/
namespace Go.Proofs.YtncegikmpapldaaGreatDoor
open Go.RowKit

theorem freeB_47 : freeB 47 = false := by decide
theorem freeB_63 : freeB 63 = false := by decide
theorem freeB_37 : freeB 37 = false := by decide

set_option maxRecDepth 100000 in
set_option maxHeartbeats 3200000 in
theorem s_path47 (b : Nat) (R : Option (List UInt8)) (ys l : List UInt8) (seg high : Nat) (w : World) (h : CAt w b ys seg .nilFunc high) (hcls : Cls w) (__hg : 1 < b) (hn : ys.length ≤ 900) (hR : CBase false R ys seg (47 :: l)) :
    Calls Tryz.prog 185 #[.pointer (some ⟨b, 0, none⟩), .int .u8 47] w (CNext b R ys.length l w) := by
  obtain ⟨hp, hR⟩ := hR
  rw [resP_slash hp] at hR
  have hle := hp.le
  have c3 := fun n => impl_free 47 (w.drewN n) (hcls.drewN n)
  simp only [UInt8.reduceToNat, Int.cast_ofNat_Int] at c3
  rw [freeB_47] at c3
  have hemp : (ys.drop seg).isEmpty = decide (ys.length ≤ seg) := by
    rw [Bool.eq_iff_iff]; simp
  have h2 := h
  obtain ⟨v, hh, hown⟩ := h2
  obtain ⟨g, cap, rfl⟩ := own_form hown hp.ne
  obtain ⟨hm1, hm2⟩ := own_max hown
  have k0 : w.cell? ⟨b, 0, none⟩ = some (.slice (some ⟨g, 0, none⟩) ys.length cap) := by simp [World.cell?, hh]
  have k1 : w.cell? ⟨b, 1, none⟩ = some (.int .i64 (seg : Int)) := by simp [World.cell?, hh]
  have hne := hp.ne
  clear hcls
  by_cases hlt : seg < ys.length
  · have hd := fun n => c_dotted b ys seg high .nilFunc (w.drewN n) h (by omega) hne hle
    rw [hemp, show decide (ys.length ≤ seg) = false from by simp; omega] at hR
    simp only [Bool.not_false, Bool.and_true] at hR
    have hslash := POk.slash hne
    generalize dotL (ys.drop seg) = d at *
    cases d with
    | false =>
      have hfin : Hid (CInv R .path (ys ++ [47]) (ys.length + 1) high l) := Lib.hid ⟨hslash, by simpa using hR⟩
      have c1 := fun n => c_slash b ys seg high .nilFunc (w.drewN n) h (by omega)
      unfold pathV at c1
      clear hR hp hh hown h hslash
      go_enter Tryz.func185, Tryz.ntmps185
      go_wp2_with fail
      go_region_with (go_at_call 160; refine (hd 1).mono ?_; rintro e w1 ⟨rfl, n1, rfl⟩)
      all_goals go_wp2_with fail
      all_goals refine (c1 (1 + n1)).mono ?_
      all_goals rintro e w2 ⟨rfl, h1, h2⟩
      all_goals go_wp2
      all_goals go_ret
      all_goals exact next_of (st := .path) h1 hfin (by simp) (below_drewN_left h2)
    | true =>
      have hnone : R = none := by simpa using hR
      have HN := Lib.hid hnone
      clear hR hp hh hown h hslash hnone
      go_enter Tryz.func185, Tryz.ntmps185
      go_wp2_with fail
      go_region_with (go_at_call 160; refine (hd 1).mono ?_; rintro e w1 ⟨rfl, n1, rfl⟩)
      all_goals go_wp2_with fail
      all_goals refine (c3 (1 + n1)).mono ?_
      all_goals rintro e w2 ⟨rfl, rfl⟩
      all_goals go_wp2
      all_goals go_ret
      all_goals exact .inl ⟨rfl, HN.out, below_drewN (Below.refl _ _)⟩
  · have hnone : R = none := by
      rw [hR, hemp, show decide (ys.length ≤ seg) = true from by simp; omega]; simp
    have HN := Lib.hid hnone
    clear hR hp hh hown h hnone hemp
    go_enter Tryz.func185, Tryz.ntmps185
    go_wp2_with fail
    go_quiet (fail)
    all_goals go_wp2_with fail
    all_goals refine (c3 _).mono ?_
    all_goals rintro e w2 ⟨rfl, rfl⟩
    all_goals go_wp2
    all_goals go_ret
    all_goals exact .inl ⟨rfl, HN.out, below_drewN (Below.refl _ _)⟩

end Go.Proofs.YtncegikmpapldaaGreatDoor

-- from XCan5
/- Places: the machine that writes a place in its plainest form: the second digit of a code. -/
namespace Go.Proofs.YtncegikmpapldaaGreatDoor
open Go.RowKit

/-- append on a row of the call's own, as one step of a region that draws. -/
theorem step_append_own {P : Program} {ops : Array Oper} {o : Oper} {a : Act} {w : World} {K : Act → World → Prop} {Q : Exit → Act → World → Prop} {E : Prop}
    (hg : o.guard = none) (s x : Operand) (t : TypeId) (hop : o.op = Op.call { callee := Callee.builtin Builtin.append, args := #[s, x], argTypes := #[t, t] })
    (base : Nat) (e : TypeId) (i : TypeInfo) (z : Value) (size bytes : Nat) (h1 : P.underlying t = some (.slice e)) (h2 : P.info? e = some i) (h3 : i.zero = some z) (h4 : i.size = size) (h5 : i.bytes = bytes) (h6 : z.cells.size = size) (h7 : 0 < size)
    (v : Value) (n : Nat) (xs : List Value) (hs : a.eval s = v) (hown : w.ownsRow base e size v n xs)
    (ad : Addr) (m c : Nat) (news : List Value) (hx : a.eval x = .slice (some ad) m c) (hn : news.length = m * size) (hc : ∀ j u, news[j]? = some u → w.cell? (ad.add j) = some u) (h1c : ∀ u ∈ news, u.oneCell' = true)
    (b1 : n + m ≤ maxLen) (b2 : (n + m) * bytes ≤ 140737488355328) (hbase : base ≤ w.heap.size)
    (hK : ∀ v' w', w'.ownsRow base e size v' (n + m) (xs ++ news) → w.grownBy w' v.ownBlock → K (a.put o.dst v') w') :
    if Region.wanted o (yielded ops a.tmps) = true then Oper.wp P o a w K Q else E := by
  have hw : Region.wanted o (yielded ops a.tmps) = true := by simp [Region.wanted, hg]
  rw [if_pos hw]
  obtain ⟨v', w', hrun, r1, r2, _⟩ := run_append_own (P := P) w base t o.type e i z size bytes h1 h2 h3 h4 h5 h6 h7 v n xs hown ad m c news hn hc h1c b1 b2 hbase
  unfold Oper.wp
  simp [execOp, hop, resolve, invoke, builtin, hs, hx, hrun, Result.andThen]
  exact hK v' w' r1 r2

theorem doubt_idx (n : Nat) (hn : n < 256) : decide (0 ≤ Lib.indexByte [46, 47, 63, 37, 38, 61] (UInt8.ofNat n)) = doubtB n := by
  have h : ∀ n : Fin 256, decide (0 ≤ Lib.indexByte [46, 47, 63, 37, 38, 61] (UInt8.ofNat n.val)) = doubtB n.val := by decide +kernel
  exact h ⟨n, hn⟩
theorem hexU_ne (k : Nat) (hk : k < 16) : hexU k ≠ 47 ∧ hexU k ≠ 63 := by
  have h : ∀ k : Fin 16, hexU k.val ≠ 47 ∧ hexU k.val ≠ 63 := by decide
  exact h ⟨k, hk⟩
theorem undoubt {n : Nat} (h : doubtB n = false) : n ≠ 47 ∧ n ≠ 63 := by
  constructor
  · rintro rfl; revert h; decide
  · rintro rfl; revert h; decide
theorem ofNat_ne {n k : Nat} (hn : n < 256) (hk : k < 256) (h : n ≠ k) : UInt8.ofNat n ≠ UInt8.ofNat k := by
  intro e
  have := congrArg UInt8.toNat e
  simp at this; omega
theorem cbase_code {q : Bool} {R : Option (List UInt8)} {ys l : List UInt8} {seg x y : Nat} {a c : UInt8} (h : CBase q R ys seg (37 :: a :: c :: l)) (ha : hexV a = some x) (hc : hexV c = some y) (hd : doubtB (x * 16 + y) = false) : CBase q R (ys ++ putC (x * 16 + y)) seg l := by
  have hx := hexV_lt ha
  have hy := hexV_lt hc
  obtain ⟨d1, d2⟩ := undoubt hd
  cases q with
  | true =>
    obtain ⟨h1, h2⟩ := h
    rw [resQ_code h1 ha hc, hd] at h2
    exact ⟨h1.app _, by simpa using h2⟩
  | false =>
    obtain ⟨h1, h2⟩ := h
    rw [resP_code h1 ha hc, hd] at h2
    refine ⟨h1.app _ ?_ ?_, by simpa using h2⟩
    · unfold putC
      split
      · simpa using (ofNat_ne (k := 47) (by omega) (by decide) d1).symm
      · have u1 := hexU_ne ((x * 16 + y) / 16) (by omega)
        have u2 := hexU_ne ((x * 16 + y) % 16) (by omega)
        simp only [upperL, List.mem_cons, List.not_mem_nil, or_false, not_or]
        exact ⟨by decide, u1.1.symm, u2.1.symm⟩
    · unfold putC
      split
      · simpa using (ofNat_ne (k := 63) (by omega) (by decide) d2).symm
      · have u1 := hexU_ne ((x * 16 + y) / 16) (by omega)
        have u2 := hexU_ne ((x * 16 + y) % 16) (by omega)
        simp only [upperL, List.mem_cons, List.not_mem_nil, or_false, not_or]
        exact ⟨by decide, u1.2.symm, u2.2.symm⟩
theorem cbase_doubt {q : Bool} {R : Option (List UInt8)} {ys l : List UInt8} {seg x y : Nat} {a c : UInt8} (h : CBase q R ys seg (37 :: a :: c :: l)) (ha : hexV a = some x) (hc : hexV c = some y) (hd : doubtB (x * 16 + y) = true) : R = none := by
  cases q with
  | true =>
    obtain ⟨h1, h2⟩ := h
    rw [resQ_code h1 ha hc, hd] at h2; simpa using h2
  | false =>
    obtain ⟨h1, h2⟩ := h
    rw [resP_code h1 ha hc, hd] at h2; simpa using h2
theorem cbase_bad {q : Bool} {R : Option (List UInt8)} {ys l : List UInt8} {seg x : Nat} {a c : UInt8} (h : CBase q R ys seg (37 :: a :: c :: l)) (ha : hexV a = some x) (hc : hexV c = none) : R = none := by
  cases q with
  | true => obtain ⟨h1, h2⟩ := h; rw [h2, resQ_bad2 hc]
  | false => obtain ⟨h1, h2⟩ := h; rw [h2, resP_bad2 ha hc]
def bkS : Bool → CS
  | true => .query
  | false => .path
theorem cV_bk (b : Nat) (q : Bool) : cV b (bkS q) = bkV b q := by cases q <;> rfl
theorem res_bk (b : Nat) (q : Bool) : resOf b (bkS q) = .nilFunc := by cases q <;> rfl
theorem bk_ne (q : Bool) : bkS q ≠ .root := by cases q <;> (intro h; cases h)
theorem cinv_bk {q : Bool} {R : Option (List UInt8)} {ys l : List UInt8} {seg high : Nat} (h : CBase q R ys seg l) : CInv R (bkS q) ys seg high l := by cases q <;> exact h

set_option maxHeartbeats 1600000 in
theorem s_d2_bad (b : Nat) (q : Bool) (R : Option (List UInt8)) (ys l : List UInt8) (a c : UInt8) (seg x : Nat) (w : World) (h : CAt w b ys seg (bkV b q) x) (ha : hexV a = some x) (hR : CBase q R ys seg (37 :: a :: c :: l)) (hc : hexV c = none) :
    Calls Tryz.prog 220 #[.pointer (some ⟨b, 0, none⟩), .int .u8 c.toNat] w (CNext b R ys.length l w) := by
  have HN := Lib.hid (cbase_bad hR ha hc)
  have hx16 := hexV_lt ha
  have c1 := fun W => hex_value_none c hc W
  have hn0 : bits .or .u8 ((x : Int) * 16) 0 = ((x * 16 : Nat) : Int) := by have := nib x 0 hx16 (by decide); simpa using this
  obtain ⟨v, hh, ho⟩ := h
  have k3 : w.cell? ⟨b, 3, none⟩ = some (.int .u8 (x : Int)) := by simp [World.cell?, hh]
  clear hR hc ha hh ho
  go_enter Tryz.func220, Tryz.ntmps220
  go_wp2_with fail
  refine (c1 _).mono ?_
  rintro e w' ⟨rfl, rfl⟩
  go_wp2
  go_ret
  exact .inl ⟨rfl, HN.out, Below.refl _ _⟩

set_option maxHeartbeats 1600000 in
theorem s_d2_doubt (b : Nat) (q : Bool) (R : Option (List UInt8)) (ys l : List UInt8) (a c : UInt8) (seg x y : Nat) (w : World) (h : CAt w b ys seg (bkV b q) x) (ha : hexV a = some x) (hR : CBase q R ys seg (37 :: a :: c :: l)) (hc : hexV c = some y) (hd : doubtB (x * 16 + y) = true) :
    Calls Tryz.prog 220 #[.pointer (some ⟨b, 0, none⟩), .int .u8 c.toNat] w (CNext b R ys.length l w) := by
  have HN := Lib.hid (cbase_doubt hR ha hc hd)
  have hx16 := hexV_lt ha
  have hy16 := hexV_lt hc
  have c1 := fun W => hex_value_some c y hc W
  have hnib := nib x y hx16 hy16
  have hnn : (UInt8.ofNat (x * 16 + y)).toNat = x * 16 + y := by simp; omega
  have c2 := fun W => idx ⟨#[46, 47, 63, 37, 38, 61]⟩ (UInt8.ofNat (x * 16 + y)) W
  rw [hnn] at c2
  have hI := doubt_idx (x * 16 + y) (by omega)
  rw [hd, decide_eq_true_iff] at hI
  have e0 : (ByteArray.mk #[46, 47, 63, 37, 38, 61]).data.toList = [46, 47, 63, 37, 38, 61] := rfl
  rw [e0] at c2
  generalize Lib.indexByte [46, 47, 63, 37, 38, 61] (UInt8.ofNat (x * 16 + y)) = I at *
  obtain ⟨v, hh, ho⟩ := h
  have k3 : w.cell? ⟨b, 3, none⟩ = some (.int .u8 (x : Int)) := by simp [World.cell?, hh]
  have hn256 : x * 16 + y < 256 := by omega
  clear hR hc ha hh ho hnn hd e0
  generalize x * 16 + y = n at *
  go_enter Tryz.func220, Tryz.ntmps220
  go_wp2_with fail
  refine (c1 _).mono ?_
  rintro e w' ⟨rfl, rfl⟩
  go_wp2_with fail
  refine (c2 _).mono ?_
  rintro e w' ⟨rfl, rfl⟩
  go_wp2
  go_ret
  exact .inl ⟨rfl, HN.out, Below.refl _ _⟩
end Go.Proofs.YtncegikmpapldaaGreatDoor

-- from XCan6
/- Places: the machine that writes a place in its plainest form: a code's end, written as a byte or as a code. -/
namespace Go.Proofs.YtncegikmpapldaaGreatDoor
open Go.RowKit

set_option maxHeartbeats 1600000 in
theorem s_d2_free (b : Nat) (q : Bool) (R : Option (List UInt8)) (ys l : List UInt8) (a c : UInt8) (seg x y : Nat) (w : World) (h : CAt w b ys seg (bkV b q) x) (hcls : Cls w) (hg : 1 < b) (hn : ys.length ≤ 900) (ha : hexV a = some x) (hR : CBase q R ys seg (37 :: a :: c :: l)) (hc : hexV c = some y) (hd : doubtB (x * 16 + y) = false) (hf : freeB (UInt8.ofNat (x * 16 + y)) = true) :
    Calls Tryz.prog 220 #[.pointer (some ⟨b, 0, none⟩), .int .u8 c.toNat] w (CNext b R ys.length l w) := by
  have hb := cbase_code hR ha hc hd
  rw [show putC (x * 16 + y) = [UInt8.ofNat (x * 16 + y)] from if_pos hf] at hb
  have hfin : Hid (CInv R (bkS q) (ys ++ [UInt8.ofNat (x * 16 + y)]) seg x l) := Lib.hid (cinv_bk hb)
  have hx16 := hexV_lt ha
  have hy16 := hexV_lt hc
  have c1 := fun W => hex_value_some c y hc W
  have hnib := nib x y hx16 hy16
  have hnn : (UInt8.ofNat (x * 16 + y)).toNat = x * 16 + y := by simp; omega
  have c2 := fun W => idx ⟨#[46, 47, 63, 37, 38, 61]⟩ (UInt8.ofNat (x * 16 + y)) W
  rw [hnn] at c2
  have hI := doubt_idx (x * 16 + y) (by omega)
  rw [hd, decide_eq_false_iff_not] at hI
  have e0 : (ByteArray.mk #[46, 47, 63, 37, 38, 61]).data.toList = [46, 47, 63, 37, 38, 61] := rfl
  rw [e0] at c2
  generalize Lib.indexByte [46, 47, 63, 37, 38, 61] (UInt8.ofNat (x * 16 + y)) = I at *
  have c3 := impl_free (UInt8.ofNat (x * 16 + y)) (w.setCell ⟨b, 2, none⟩ .nilFunc) (hcls.belowB (below_set (Below.refl b w)) hg)
  rw [hnn, hf] at c3
  have c4 := fun nx => c_put b ys seg x .nilFunc nx (UInt8.ofNat (x * 16 + y)) (w.setCell ⟨b, 2, none⟩ .nilFunc) (h.set2 .nilFunc) (by omega)
  rw [hnn] at c4
  have hI' : I < 0 := by omega
  obtain ⟨v, hh, ho⟩ := h
  have k2 : w.cell? ⟨b, 2, none⟩ = some (bkV b q) := by simp [World.cell?, hh]
  have f2 : w.frozen? ⟨b, 2, none⟩ = false := by simp [World.frozen?, hh]
  have k3 : w.cell? ⟨b, 3, none⟩ = some (.int .u8 (x : Int)) := by simp [World.cell?, hh]
  have hn256 : x * 16 + y < 256 := by omega
  have hlen : (ys ++ [UInt8.ofNat (x * 16 + y)]).length ≤ ys.length + 3 := by simp
  have hlast : ∀ w2, CAt w2 b (ys ++ [UInt8.ofNat (x * 16 + y)]) seg .nilFunc x → Below b (w.setCell ⟨b, 2, none⟩ .nilFunc) w2 → CNext b R ys.length l w (.returned (bkV b q)) w2 := by
    intro w2 h1 h2
    rw [← cV_bk]
    exact next_of (by rw [res_bk]; exact h1) hfin hlen ((below_set (Below.refl b w)).trans h2) (bk_ne q)
  have HL := Lib.hid hlast
  clear hR hc ha hh ho hnn hd e0 hcls hb hfin hf hI hlen hlast
  generalize UInt8.ofNat (x * 16 + y) = z at *
  generalize x * 16 + y = n at *
  cases q
  · unfold bkV pathV at k2
    unfold bkV pathV at HL
    go_enter Tryz.func220, Tryz.ntmps220
    go_wp2_with fail
    refine (c1 _).mono ?_
    rintro e w' ⟨rfl, rfl⟩
    go_wp2_with fail
    refine (c2 _).mono ?_
    rintro e w' ⟨rfl, rfl⟩
    go_wp2_with fail
    refine c3.mono ?_
    rintro e w' ⟨rfl, rfl⟩
    go_wp2_with fail
    refine (c4 _).mono ?_
    rintro e w2 ⟨rfl, h1, h2⟩
    go_wp2
    go_ret
    exact HL.out w2 h1 h2
  · unfold bkV queryV at k2
    unfold bkV queryV at HL
    go_enter Tryz.func220, Tryz.ntmps220
    go_wp2_with fail
    refine (c1 _).mono ?_
    rintro e w' ⟨rfl, rfl⟩
    go_wp2_with fail
    refine (c2 _).mono ?_
    rintro e w' ⟨rfl, rfl⟩
    go_wp2_with fail
    refine c3.mono ?_
    rintro e w' ⟨rfl, rfl⟩
    go_wp2_with fail
    refine (c4 _).mono ?_
    rintro e w2 ⟨rfl, h1, h2⟩
    go_wp2
    go_ret
    exact HL.out w2 h1 h2
end Go.Proofs.YtncegikmpapldaaGreatDoor

-- from XCan7
/- Places: the machine that writes a place in its plainest form: a code's end, written as a code. -/
namespace Go.Proofs.YtncegikmpapldaaGreatDoor
open Go.RowKit

theorem three_cells (W : World) (p q r : Value) (T : TypeId) (B : Nat) (hB : B = W.heap.size) : ∀ (j : Nat) u, [p, q, r][j]? = some u → (W.alloc (.cells #[p, q, r] T)).cell? ((⟨B, 0, none⟩ : Addr).add j) = some u := by
  intro j u hu
  subst hB
  match j, hu with
  | 0, hu => exact (World.cell?_alloc_at _ _ _ _ rfl).trans (by simpa using hu)
  | 1, hu => exact (World.cell?_alloc_at _ _ _ _ rfl).trans (by simpa using hu)
  | 2, hu => exact (World.cell?_alloc_at _ _ _ _ rfl).trans (by simpa using hu)
  | j + 3, hu => simp at hu

set_option maxRecDepth 100000 in
set_option maxHeartbeats 6400000 in
theorem s_d2_code (b : Nat) (q : Bool) (R : Option (List UInt8)) (ys l : List UInt8) (a c : UInt8) (seg x y : Nat) (w : World) (h : CAt w b ys seg (bkV b q) x) (hcls : Cls w) (hg : 1 < b) (hn : ys.length ≤ 900) (ha : hexV a = some x) (hR : CBase q R ys seg (37 :: a :: c :: l)) (hc : hexV c = some y) (hd : doubtB (x * 16 + y) = false) (hf : freeB (UInt8.ofNat (x * 16 + y)) = false) :
    Calls Tryz.prog 220 #[.pointer (some ⟨b, 0, none⟩), .int .u8 c.toNat] w (CNext b R ys.length l w) := by
  have hb := cbase_code hR ha hc hd
  have hx16 := hexV_lt ha
  have hy16 := hexV_lt hc
  have hdv : (x * 16 + y) / 16 = x := by omega
  have hmd : (x * 16 + y) % 16 = y := by omega
  rw [show putC (x * 16 + y) = [37, hexU x, hexU y] from by unfold putC; rw [if_neg (by rw [hf]; decide)]; unfold upperL; rw [hdv, hmd]] at hb
  have hfin : Hid (CInv R (bkS q) (ys ++ [37, hexU x, hexU y]) seg x l) := Lib.hid (cinv_bk hb)
  have c1 := fun W => hex_value_some c y hc W
  have hnib := nib x y hx16 hy16
  have hnn : (UInt8.ofNat (x * 16 + y)).toNat = x * 16 + y := by simp; omega
  have c2 := fun W => idx ⟨#[46, 47, 63, 37, 38, 61]⟩ (UInt8.ofNat (x * 16 + y)) W
  rw [hnn] at c2
  have hI := doubt_idx (x * 16 + y) (by omega)
  rw [hd, decide_eq_false_iff_not] at hI
  have e0 : (ByteArray.mk #[46, 47, 63, 37, 38, 61]).data.toList = [46, 47, 63, 37, 38, 61] := rfl
  rw [e0] at c2
  generalize Lib.indexByte [46, 47, 63, 37, 38, 61] (UInt8.ofNat (x * 16 + y)) = I at *
  have c3 := impl_free (UInt8.ofNat (x * 16 + y)) (w.setCell ⟨b, 2, none⟩ .nilFunc) (hcls.belowB (below_set (Below.refl b w)) hg)
  rw [hnn, hf] at c3
  have hI' : I < 0 := by omega
  have h2 := h.set2 .nilFunc
  obtain ⟨v0, hh0, ho0⟩ := h
  have k2 : w.cell? ⟨b, 2, none⟩ = some (bkV b q) := by simp [World.cell?, hh0]
  have f2 : w.frozen? ⟨b, 2, none⟩ = false := by simp [World.frozen?, hh0]
  have k3 : w.cell? ⟨b, 3, none⟩ = some (.int .u8 (x : Int)) := by simp [World.cell?, hh0]
  have hn256 : x * 16 + y < 256 := by omega
  have hq1 := digs_at x hx16 (by simp [digs, ByteArray.size]; omega)
  have hq2 := digs_at y hy16 (by simp [digs, ByteArray.size]; omega)
  have hblt : b < w.heap.size := (Array.getElem?_eq_some_iff.1 hh0).1
  have hbs : Below b w (w.setCell ⟨b, 2, none⟩ .nilFunc) := below_set (Below.refl b w)
  obtain ⟨W, hW⟩ : ∃ W, W = w.setCell ⟨b, 2, none⟩ .nilFunc := ⟨_, rfl⟩
  have hWs : W.heap.size = w.heap.size := by rw [hW]; simp
  rw [← hW] at h2 c3 hbs
  obtain ⟨v, hh, ho⟩ := h2
  have m0 : W.cell? ⟨b, 0, none⟩ = some v := by simp [World.cell?, hh]
  have m3 : W.cell? ⟨b, 3, none⟩ = some (.int .u8 (x : Int)) := by simp [World.cell?, hh]
  obtain ⟨i0, hi, hz0, hz1, hz2⟩ := info_parts Tryz.info5
  have hownA : ∀ o : Obj, (W.drew.alloc o).ownsRow (b + 1) 5 1 v ys.length (u8s ys) := fun o => (own_drewN ho 1).alloc o
  have hvb : v.ownBlock ≠ some b := fun e => by have := (ho.lt b e).1; omega
  have hlen : (ys ++ [37, hexU x, hexU y]).length ≤ ys.length + 3 := by simp
  have hkeep : ∀ (o : Obj) (w3 : World), (W.drew.alloc o).grownBy w3 v.ownBlock → w3.heap[b]? = W.heap[b]? ∧ Below b w w3 := by
    intro o w3 hg3
    have hbW : b < W.heap.size := by omega
    have e1 : (W.drew.alloc o).heap[b]? = W.heap[b]? := Below.heap_alloc W o b hbW
    refine ⟨(hg3.block b (by simp; omega) (fun e => hvb e.symm)).trans e1, hbs.trans ?_⟩
    refine ⟨hg3.os, hg3.tape, hg3.output, ?_, fun k hk => ?_⟩
    · have := hg3.size; simp at this; omega
    · refine (hg3.block k (by simp; omega) (fun e => ?_)).trans (Below.heap_alloc W o k (by omega))
      have := (ho.lt k e.symm).1; omega
  have hlast : ∀ (w3 : World) (v' : Value), w3.ownsRow (b + 1) 5 1 v' (ys.length + 3) (u8s ys ++ [.int .u8 37, .int .u8 ((hexU x).toNat : Int), .int .u8 ((hexU y).toNat : Int)]) → w3.heap[b]? = W.heap[b]? → Below b w w3 → CNext b R ys.length l w (.returned (bkV b q)) (w3.setCell ⟨b, 0, none⟩ v') := by
    intro w3 v' ho3 hh3 hb3
    have hu : u8s ys ++ [.int .u8 37, .int .u8 ((hexU x).toNat : Int), .int .u8 ((hexU y).toNat : Int)] = u8s (ys ++ [37, hexU x, hexU y]) := by simp [u8s]
    rw [hu] at ho3
    rw [← cV_bk]
    refine next_of (by rw [res_bk]; exact CAt.set0 (hh3.trans hh) ho3 (by simp)) hfin hlen (below_set hb3) (bk_ne q)
  rw [← hq1, ← hq2] at hlast
  have HL := Lib.hid hlast
  have HK := Lib.hid hkeep
  have HO := Lib.hid hownA
  have hbW1 : b + 1 ≤ W.heap.size := by omega
  have HW := Lib.hid hW
  have ML : Hid (W.heap[b]? = some (.cells #[v, .int .i64 (seg : Int), .nilFunc, .int .u8 (x : Int)] 147 (0, 0))) := Lib.hid hh
  clear hR hc ha hh0 ho0 hnn hd e0 hcls hb hfin hf hI hlen hlast hkeep hownA hvb hh ho hdv hmd hbs hq1 hq2
  generalize UInt8.ofNat (x * 16 + y) = z at *
  generalize x * 16 + y = n at *
  generalize bkV b q = nx at *
  go_enter Tryz.func220, Tryz.ntmps220
  go_wp2_with fail
  refine (c1 _).mono ?_
  rintro e w' ⟨rfl, rfl⟩
  go_wp2_with fail
  refine (c2 _).mono ?_
  rintro e w' ⟨rfl, rfl⟩
  go_wp2_with fail
  rw [← HW.out]
  refine c3.mono ?_
  rintro e w' ⟨rfl, rfl⟩
  clear c1 c2 c3 k2 k3 f2 hW
  have hxi : (x : Int) < 16 := by omega
  have hyi : (y : Int) < 16 := by omega
  go_wp2_with fail
  go_region_law (refine step_append_own rfl _ _ 22 rfl (b + 1) 5 i0 _ 1 1 Tryz.underlying22 hi hz0 hz1 hz2 rfl (by decide) _ _ _ rfl (HO.out _) ⟨w.heap.size, 0, none⟩ 3 3 [_, _, _] rfl rfl (three_cells _ _ _ _ _ _ (by simp [hWs])) (by intro u hu; simp at hu; rcases hu with rfl | rfl | rfl <;> rfl) (by unfold maxLen; omega) (by omega) (by simp; omega) ?_; intro v' w3 ho3 hg3; obtain ⟨g', cap', rfl⟩ := own_form ho3 (by omega); obtain ⟨hh3, hb3⟩ := HK.out _ w3 hg3; have n0 : w3.cell? ⟨b, 0, none⟩ = some v := ((World.cell?_of_block (a := ⟨b, 0, none⟩) hh3).trans m0); have g0 : w3.frozen? ⟨b, 0, none⟩ = false := (by simp [World.frozen?, hh3, ML.out]))
  all_goals go_wp2
  all_goals go_ret
  all_goals exact HL.out w3 _ ho3 hh3 hb3
end Go.Proofs.YtncegikmpapldaaGreatDoor

-- from XCan8
/- Places: the machine that writes a place in its plainest form, over a whole text. -/
namespace Go.Proofs.YtncegikmpapldaaGreatDoor
open Go.RowKit

theorem s_path (b : Nat) (R : Option (List UInt8)) (ys l : List UInt8) (c : UInt8) (seg high : Nat) (w : World) (h : CAt w b ys seg .nilFunc high) (hcls : Cls w) (hg : 1 < b) (hn : ys.length ≤ 900) (hR : CBase false R ys seg (c :: l)) :
    Calls Tryz.prog 185 #[.pointer (some ⟨b, 0, none⟩), .int .u8 c.toNat] w (CNext b R ys.length l w) := by
  by_cases h47 : c = 47
  · subst h47; exact s_path47 b R ys l seg high w h hcls hg hn hR
  · by_cases h63 : c = 63
    · subst h63; exact s_path63 b R ys l seg high w h hn hR
    · by_cases h37 : c = 37
      · subst h37; exact s_path37 b R ys l seg high w h hn hR
      · exact s_pathlit b R ys l c seg high w h hcls hn h37 h63 h47 hR

theorem s_d2 (b : Nat) (q : Bool) (R : Option (List UInt8)) (ys l : List UInt8) (c : UInt8) (seg high : Nat) (w : World) (h : CAt w b ys seg (bkV b q) high) (hcls : Cls w) (hg : 1 < b) (hn : ys.length ≤ 900) (hR : CInv R (.d2 q) ys seg high (c :: l)) :
    Calls Tryz.prog 220 #[.pointer (some ⟨b, 0, none⟩), .int .u8 c.toNat] w (CNext b R ys.length l w) := by
  obtain ⟨a, ha, hR⟩ := hR
  cases hc : hexV c with
  | none => exact s_d2_bad b q R ys l a c seg high w h ha hR hc
  | some y =>
    cases hd : doubtB (high * 16 + y) with
    | true => exact s_d2_doubt b q R ys l a c seg high y w h ha hR hc hd
    | false =>
      cases hf : freeB (UInt8.ofNat (high * 16 + y)) with
      | true => exact s_d2_free b q R ys l a c seg high y w h hcls hg hn ha hR hc hd hf
      | false => exact s_d2_code b q R ys l a c seg high y w h hcls hg hn ha hR hc hd hf

theorem c_form (b : Nat) (st : CS) : ∃ N, cV b st = .func (.func N) #[.pointer (some ⟨b, 0, none⟩)] #[] := by
  cases st <;> exact ⟨_, rfl⟩

def CEnd (b : Nat) (R : Option (List UInt8)) (w : World) (e : Ending) (w' : World) : Prop :=
  Below b w w' ∧ ((e = .returned (.bool false) ∧ R = none) ∨
    (e = .returned (.bool true) ∧ ∃ st ys seg high, st ≠ .root ∧ CAt w' b ys seg (resOf b st) high ∧ CInv R st ys seg high [] ∧ ys.length ≤ 200))

set_option maxRecDepth 100000 in
set_option maxHeartbeats 6400000 in
theorem takes_c (b : Nat) (s : ByteArray) (R : Option (List UInt8)) (hR : R = rootR s.data.toList) (w : World) (h : CAt w b [] 0 .nilFunc 0) (hcls : Cls w) (hg : 1 < b) (hs : s.size ≤ 40) (hs0 : 0 < s.size) :
    Calls Tryz.prog 127 #[cV b .root, .string s] w (CEnd b R w) := by
  have hq1 := step_nil
  have hq2 := step_not_nil
  have hfst : Hid (CInv R .root [] 0 0 (s.data.toList.drop 0)) := Lib.hid ⟨rfl, by rw [List.drop_zero]; exact hR⟩
  go_enter Tryz.func127, Tryz.ntmps127
  go_wp2_with fail
  go_loopw [0, 8] (fun f i wr => ∃ (k : Nat) (st : CS) (ys : List UInt8) (seg high : Nat), k ≤ s.size ∧ i = .int .i64 k ∧ f = cV b st ∧ (st = .root → k = 0) ∧ CAt wr b ys seg (resOf b st) high ∧ ys.length ≤ 3 * k ∧ Hid (CInv R st ys seg high (s.data.toList.drop k)) ∧ Below b w wr) (fun _ i _ => s.size - (intOf i).toNat)
  case atStart => exact ⟨0, .root, [], 0, 0, Nat.zero_le _, rfl, rfl, fun _ => rfl, h, by simp, hfst, Below.refl _ _⟩
  case round =>
    clear hR h hfst
    obtain ⟨k, st, ys, seg, high, hk, rfl, rfl, hrt, hm, hlen, HI, hbel⟩ := hrel
    have hcw := hcls.belowB hbel hg
    by_cases hlt : k < s.size
    · rw [drop_at s k hlt] at HI
      cases st with
      | root =>
        obtain ⟨rfl, hI⟩ := HI.out
        have c1 := s_root b R s[k] _ seg high wr hm hI
        unfold cV
        generalize hd : s.data.toList.drop (k + 1) = l at c1
        have HD := Lib.hid hd
        clear HI hm hd hrt
        go_wp2_with fail
        refine c1.mono ?_
        rintro e w1 (⟨rfl, hn, hb⟩ | ⟨st2, ys2, seg2, high2, h0, rfl, h1, h2, h3, h4⟩)
        · clear c1
          go_wp2
          go_ret
          exact ⟨hbel.trans hb, .inl ⟨rfl, hn⟩⟩
        · clear c1
          obtain ⟨N, hX⟩ := c_form b st2
          rw [hX]
          have HX := Lib.hid hX; clear hX
          go_wp2
          go_roundw
          case rel => exact ⟨k + 1, st2, ys2, seg2, high2, by omega, by go_num, HX.out.symm, fun h => absurd h h0, h1, by omega, by rw [HD.out]; exact h2, hbel.trans h4⟩
          case measure => simp [intOf]; omega
      | path =>
        have c1 := s_path b R ys _ s[k] seg high wr hm hcw hg (by omega) HI.out
        unfold cV pathV
        generalize hd : s.data.toList.drop (k + 1) = l at c1
        have HD := Lib.hid hd
        clear HI hm hd hrt
        go_wp2_with fail
        refine c1.mono ?_
        rintro e w1 (⟨rfl, hn, hb⟩ | ⟨st2, ys2, seg2, high2, h0, rfl, h1, h2, h3, h4⟩)
        · clear c1
          go_wp2
          go_ret
          exact ⟨hbel.trans hb, .inl ⟨rfl, hn⟩⟩
        · clear c1
          obtain ⟨N, hX⟩ := c_form b st2
          rw [hX]
          have HX := Lib.hid hX; clear hX
          go_wp2
          go_roundw
          case rel => exact ⟨k + 1, st2, ys2, seg2, high2, by omega, by go_num, HX.out.symm, fun h => absurd h h0, h1, by omega, by rw [HD.out]; exact h2, hbel.trans h4⟩
          case measure => simp [intOf]; omega
      | query =>
        have c1 := s_query b R ys _ s[k] seg high wr hm hcw (by omega) HI.out
        unfold cV queryV
        generalize hd : s.data.toList.drop (k + 1) = l at c1
        have HD := Lib.hid hd
        clear HI hm hd hrt
        go_wp2_with fail
        refine c1.mono ?_
        rintro e w1 (⟨rfl, hn, hb⟩ | ⟨st2, ys2, seg2, high2, h0, rfl, h1, h2, h3, h4⟩)
        · clear c1
          go_wp2
          go_ret
          exact ⟨hbel.trans hb, .inl ⟨rfl, hn⟩⟩
        · clear c1
          obtain ⟨N, hX⟩ := c_form b st2
          rw [hX]
          have HX := Lib.hid hX; clear hX
          go_wp2
          go_roundw
          case rel => exact ⟨k + 1, st2, ys2, seg2, high2, by omega, by go_num, HX.out.symm, fun h => absurd h h0, h1, by omega, by rw [HD.out]; exact h2, hbel.trans h4⟩
          case measure => simp [intOf]; omega
      | d1 q =>
        have c1 := s_d1 b q R ys _ s[k] seg high wr hm HI.out
        unfold cV
        generalize hd : s.data.toList.drop (k + 1) = l at c1
        have HD := Lib.hid hd
        clear HI hm hd hrt
        go_wp2_with fail
        refine c1.mono ?_
        rintro e w1 (⟨rfl, hn, hb⟩ | ⟨st2, ys2, seg2, high2, h0, rfl, h1, h2, h3, h4⟩)
        · clear c1
          go_wp2
          go_ret
          exact ⟨hbel.trans hb, .inl ⟨rfl, hn⟩⟩
        · clear c1
          obtain ⟨N, hX⟩ := c_form b st2
          rw [hX]
          have HX := Lib.hid hX; clear hX
          go_wp2
          go_roundw
          case rel => exact ⟨k + 1, st2, ys2, seg2, high2, by omega, by go_num, HX.out.symm, fun h => absurd h h0, h1, by omega, by rw [HD.out]; exact h2, hbel.trans h4⟩
          case measure => simp [intOf]; omega
      | d2 q =>
        have c1 := s_d2 b q R ys _ s[k] seg high wr hm hcw hg (by omega) HI.out
        unfold cV
        generalize hd : s.data.toList.drop (k + 1) = l at c1
        have HD := Lib.hid hd
        clear HI hm hd hrt
        go_wp2_with fail
        refine c1.mono ?_
        rintro e w1 (⟨rfl, hn, hb⟩ | ⟨st2, ys2, seg2, high2, h0, rfl, h1, h2, h3, h4⟩)
        · clear c1
          go_wp2
          go_ret
          exact ⟨hbel.trans hb, .inl ⟨rfl, hn⟩⟩
        · clear c1
          obtain ⟨N, hX⟩ := c_form b st2
          rw [hX]
          have HX := Lib.hid hX; clear hX
          go_wp2
          go_roundw
          case rel => exact ⟨k + 1, st2, ys2, seg2, high2, by omega, by go_num, HX.out.symm, fun h => absurd h h0, h1, by omega, by rw [HD.out]; exact h2, hbel.trans h4⟩
          case measure => simp [intOf]; omega
    · go_wp2
      go_ret
      rw [drop_end s k (by omega)] at HI
      exact ⟨hbel, .inr ⟨rfl, st, ys, seg, high, fun h => by have := hrt h; omega, hm, HI.out, by omega⟩⟩
end Go.Proofs.YtncegikmpapldaaGreatDoor

-- from XCan9
/- Places: their plainest form as the program writes it; the exact law. -/
namespace Go.Proofs.YtncegikmpapldaaGreatDoor
open Go.RowKit

theorem resP_bad0 {ys : List UInt8} {seg : Nat} {l : List UInt8} (h : codeL (37 :: l) = none) (h2 : 63 ∉ l) : resP ys seg (37 :: l) = none := by
  unfold resP
  rw [cutL_cons (by decide), cutL_no _ _ h2, plainL_bad h]
theorem resQ_bad0 {ys : List UInt8} {seg : Nat} {l : List UInt8} (h : codeL (37 :: l) = none) : resQ ys seg (37 :: l) = none := by
  unfold resQ
  rw [plainL_bad h]; simp
theorem res_func (b : Nat) (q : Bool) : ∃ N, bkV b q = .func (.func N) #[.pointer (some ⟨b, 0, none⟩)] #[] := by
  cases q <;> exact ⟨_, rfl⟩
theorem cend {b : Nat} {R : Option (List UInt8)} {st : CS} {ys : List UInt8} {seg high : Nat} (h : CInv R st ys seg high []) (h0 : st ≠ .root) :
    (resOf b st = .nilFunc ∧ 0 < ys.length ∧ seg ≤ ys.length ∧ R = if dotL (ys.drop seg) = true then none else some ys) ∨ ((∃ N, resOf b st = .func (.func N) #[.pointer (some ⟨b, 0, none⟩)] #[]) ∧ R = none) := by
  cases st with
  | root => exact absurd rfl h0
  | path => obtain ⟨h1, h2⟩ := h; exact .inl ⟨rfl, h1.ne, h1.le, by rw [h2, resP_end h1]⟩
  | query => obtain ⟨h1, h2⟩ := h; exact .inl ⟨rfl, h1.ne, h1.le, by rw [h2, resQ_end]⟩
  | d1 q =>
    refine .inr ⟨res_func b q, ?_⟩
    cases q with
    | true => obtain ⟨h1, h2⟩ := h; rw [h2, resQ_bad0 rfl]
    | false => obtain ⟨h1, h2⟩ := h; rw [h2, resP_bad0 rfl (by simp)]
  | d2 q =>
    obtain ⟨a, ha, h⟩ := h
    refine .inr ⟨res_func b q, ?_⟩
    cases q with
    | true => obtain ⟨h1, h2⟩ := h; rw [h2, resQ_bad0 rfl]
    | false => obtain ⟨h1, h2⟩ := h; rw [h2, resP_bad0 rfl (by simpa using (hex_ne ha (by decide : hexV 63 = none)).symm)]

set_option maxHeartbeats 1600000 in
theorem c_whole_nil (b : Nat) (ys : List UInt8) (seg high : Nat) (w : World) (h : CAt w b ys seg .nilFunc high) (hn : ys.length ≤ 1000) (h0 : 0 < ys.length) (hs : seg ≤ ys.length) :
    Calls Tryz.prog 128 #[.pointer (some ⟨b, 0, none⟩)] w fun e w' => e = .returned (.bool (!dotL (ys.drop seg))) ∧ ∃ n, w' = w.drewN n := by
  have c1 := c_dotted b ys seg high .nilFunc w h hn h0 hs
  have hq1 := step_nil
  obtain ⟨v, hh, ho⟩ := h
  have k2 : w.cell? ⟨b, 2, none⟩ = some .nilFunc := by simp [World.cell?, hh]
  clear hh ho
  generalize dotL (ys.drop seg) = d at *
  cases d
  all_goals go_enter Tryz.func128, Tryz.ntmps128
  all_goals go_wp2_with fail
  all_goals refine c1.mono ?_
  all_goals rintro e w1 ⟨rfl, n, rfl⟩
  all_goals go_wp2
  all_goals go_ret
  all_goals exact ⟨rfl, n, rfl⟩

set_option maxHeartbeats 1600000 in
theorem c_whole_open (b : Nat) (ys : List UInt8) (seg high N : Nat) (w : World) (h : CAt w b ys seg (.func (.func N) #[.pointer (some ⟨b, 0, none⟩)] #[]) high) :
    Calls Tryz.prog 128 #[.pointer (some ⟨b, 0, none⟩)] w fun e w' => e = .returned (.bool false) ∧ w = w' := by
  have hq2 := step_not_nil
  obtain ⟨v, hh, ho⟩ := h
  have k2 : w.cell? ⟨b, 2, none⟩ = some (.func (.func N) #[.pointer (some ⟨b, 0, none⟩)] #[]) := by simp [World.cell?, hh]
  clear hh ho
  go_enter Tryz.func128, Tryz.ntmps128
  go_wp2
  go_ret
  exact ⟨rfl, rfl⟩

theorem made_c (w : World) : CAt (w.alloc (.cells #[.slice none 0 0, .int .i64 0, .nilFunc, .int .u8 0] 147)) w.heap.size [] 0 .nilFunc 0 :=
  ⟨.slice none 0 0, heap_alloc_new w _, World.ownsRow_nil _ _ _ _⟩

set_option maxRecDepth 100000 in
set_option maxHeartbeats 3200000 in
theorem impl_canon (s : ByteArray) (w : World) (hs : s.size ≤ 281474976710656) (hcls : Cls w) :
    Calls Tryz.prog 87 #[.string s] w fun e w' => e = .returned (canV (canonL s.data.toList)) ∧ Below w.heap.size w w' := by
  obtain ⟨R, hR⟩ : ∃ R, R = canonL s.data.toList := ⟨_, rfl⟩
  rw [← hR]
  have hbad : R = none → canV R = .tuple #[.string ⟨#[]⟩, .bool false] := fun h => by rw [h]; rfl
  have hgood : ∀ ys, R = some ys → canV R = .tuple #[.string ⟨ys.toArray⟩, .bool true] := fun ys h => by rw [h]; rfl
  unfold canonL at hR
  rw [← size_len] at hR
  have hemp : (s.toList == ([] : List UInt8)) = decide (s.size = 0) := by
    rw [Lib.toList_data, size_len, Bool.eq_iff_iff, beq_iff_eq, decide_eq_true_iff, ← List.length_eq_zero_iff]
  by_cases h0 : s.size = 0
  · rw [if_pos (.inl h0)] at hR
    rw [hbad hR]
    rw [show decide (s.size = 0) = true from by simpa using h0] at hemp
    clear hbad hgood hR hcls h0
    go_enter Tryz.func87, Tryz.ntmps87
    go_wp2
    go_ret2
    exact ⟨rfl, Below.refl _ _⟩
  · rw [show decide (s.size = 0) = false from by simpa using h0] at hemp
    by_cases h40 : 40 < s.size
    · rw [if_pos (.inr h40)] at hR
      rw [hbad hR]
      clear hbad hgood hR hcls h0
      go_enter Tryz.func87, Tryz.ntmps87
      go_wp2
      go_ret2
      exact ⟨rfl, Below.refl _ _⟩
    · rw [if_neg (by omega)] at hR
      have hbel := (Below.refl w.heap.size w).alloc (Nat.le_refl _) (.cells #[.slice none 0 0, .int .i64 0, .nilFunc, .int .u8 0] 147)
      have hcls2 := hcls.below hbel (Nat.le_refl _)
      have c1 := takes_c w.heap.size s R hR _ (made_c w) hcls2 hcls.1 (by omega) (by omega)
      have hmf : ∀ (fn : Fn) (first cap : Array Value) (w : World), (Instr.makeFunc fn first cap).run Tryz.prog w = .ok (.func fn first cap) w := fun _ _ _ _ => rfl
      have HB := Lib.hid hbad
      have HG := Lib.hid hgood
      unfold cV at c1
      clear hR hcls hcls2 hbad hgood h0
      go_enter Tryz.func87, Tryz.ntmps87
      go_wp2_with fail
      refine c1.mono ?_
      rintro e w1 ⟨hb1, ⟨rfl, hn⟩ | ⟨rfl, st, ys, seg, high, hne, hat, hin, hlen⟩⟩
      · have hb2 := hbel.trans hb1
        have HN := Lib.hid (HB.out hn)
        clear c1 hn
        go_wp2
        go_ret2
        exact ⟨congrArg Ending.returned HN.out.symm, hb2⟩
      · have hb2 := hbel.trans hb1
        clear c1
        rcases cend (b := w.heap.size) hin hne with ⟨hr, h1, h2, h3⟩ | ⟨⟨N, hr⟩, h3⟩
        · rw [hr] at hat
          have c2 := c_whole_nil w.heap.size ys seg high w1 hat (by omega) h1 h2
          obtain ⟨v, hh, hown⟩ := hat
          obtain ⟨g, cap, rfl⟩ := own_form hown h1
          have hcv : ∀ n, (convert 22 9 (.slice (some ⟨g, 0, none⟩) ys.length cap)).run Tryz.prog (w1.drewN n) = .ok (.string ⟨ys.toArray⟩) (w1.drewN n) := fun n =>
            run_convert_bytes_back (P := Tryz.prog) (w1.drewN n) 22 9 5 ⟨g, 0, none⟩ cap ys Tryz.underlying22 Tryz.underlying5 Tryz.underlying9 (fun j hj => hown.cells (g := g) rfl j _ (u8s_at hj))
          have k0 : ∀ n, (w1.drewN n).cell? ⟨w.heap.size, 0, none⟩ = some (.slice (some ⟨g, 0, none⟩) ys.length cap) := fun n => (show w1.cell? _ = _ by simp [World.cell?, hh])
          clear hin hh hown hr
          cases hd : dotL (ys.drop seg) with
          | true =>
            rw [hd] at c2 h3
            have HN := Lib.hid (HB.out (by simpa using h3))
            clear h3 hd
            go_wp2_with fail
            refine c2.mono ?_
            rintro e w2 ⟨rfl, n, rfl⟩
            go_wp2
            go_ret2
            exact ⟨congrArg Ending.returned HN.out.symm, below_drewN hb2⟩
          | false =>
            rw [hd] at c2 h3
            have HN := Lib.hid (HG.out ys (by simpa using h3))
            clear h3 hd
            go_wp2_with fail
            refine c2.mono ?_
            rintro e w2 ⟨rfl, n, rfl⟩
            have k0' := k0 n
            have hcv' := hcv n
            clear k0 hcv c2
            go_wp2
            go_ret2
            exact ⟨congrArg Ending.returned HN.out.symm, below_drewN hb2⟩
        · rw [hr] at hat
          have c2 := c_whole_open w.heap.size ys seg high N w1 hat
          have HN := Lib.hid (HB.out h3)
          clear h3 hin hat hr
          go_wp2_with fail
          refine c2.mono ?_
          rintro e w2 ⟨rfl, rfl⟩
          go_wp2
          go_ret2
          exact ⟨congrArg Ending.returned HN.out.symm, hb2⟩

namespace Lw
end Lw
end Go.Proofs.YtncegikmpapldaaGreatDoor

-- from XUnder
/- Places: what lies under a path. -/
namespace Go.Proofs.YtncegikmpapldaaGreatDoor
open Go.RowKit

def endsSl (l : List UInt8) : Bool := l.getLast? == some 47
def inTop (top : List UInt8) : List UInt8 := if endsSl top = true then top else top ++ [47]
def preB (h l : List UInt8) : Bool := h.isPrefixOf l
def underB (top l : List UInt8) : Bool := (pathL l == top) || preB (inTop top) (pathL l)

theorem preB_ext (s h : ByteArray) : preB h.data.toList s.data.toList = ((s.extract 0 h.size).toList == h.toList) := by
  unfold preB
  rw [Bool.eq_iff_iff, List.isPrefixOf_iff_prefix, beq_iff_eq, List.prefix_iff_eq_take, ext_take, Lib.toList_data, Lib.toList_data, ← size_len]
  exact ⟨fun e => e.symm, fun e => e.symm⟩
theorem preB_long (s h : ByteArray) (hl : s.size < h.size) : preB h.data.toList s.data.toList = false := by
  cases hb : preB h.data.toList s.data.toList with
  | false => rfl
  | true =>
    unfold preB at hb
    rw [List.isPrefixOf_iff_prefix] at hb
    have := hb.length_le
    rw [size_len, size_len] at hl
    omega

set_option maxHeartbeats 400000 in
theorem l1_starts (s h : ByteArray) (w : World) (_hs : s.size ≤ maxLen) (_hh : h.size ≤ maxLen) :
    Calls Tryz.prog 167 #[.string s, .string h] w fun e w' => e = .returned (.bool (preB h.data.toList s.data.toList)) ∧ w = w' := by
  unfold maxLen at _hs _hh
  by_cases hl : h.size ≤ s.size
  · rw [preB_ext s h]
    go_enter Tryz.func167, Tryz.ntmps167
    go_wp2
    go_ret
    exact ⟨rfl, rfl⟩
  · rw [preB_long s h (by omega)]
    go_enter Tryz.func167, Tryz.ntmps167
    go_wp2
    go_ret
    exact ⟨rfl, rfl⟩

theorem endsSl_at (s : ByteArray) (h : 1 ≤ s.size) : endsSl s.data.toList = (s[s.size - 1] == 47) := by
  unfold endsSl
  have e := at_get s (s.size - 1) (by omega)
  rw [List.getLast?_eq_getElem?, ← size_len, e]; rfl
theorem endsSl_ext (s : ByteArray) (h : 1 ≤ s.size) : endsSl s.data.toList = ((s.extract (s.size - 1) s.size).toList == [47]) := by
  rw [endsSl_at s h, ext_drop, Lib.toList_data]
  simp only
  rw [drop_at s (s.size - 1) (by omega), drop_end s _ (by omega)]
  simp
theorem endsSl_nil (s : ByteArray) (h : s.size = 0) : endsSl s.data.toList = false := by
  rw [size_len] at h
  rw [List.eq_nil_of_length_eq_zero h]; rfl

theorem size_sl (a : ByteArray) : (a ++ ⟨#[47]⟩ : ByteArray).size = a.size + 1 := by rw [ByteArray.size_append]; rfl
theorem inTop_yes {s : ByteArray} (h : endsSl s.data.toList = true) : inTop s.data.toList = s.data.toList := by unfold inTop; rw [if_pos h]
theorem inTop_no {s : ByteArray} (h : endsSl s.data.toList = false) : inTop s.data.toList = (s ++ ⟨#[47]⟩ : ByteArray).data.toList := by unfold inTop; rw [h]; simp
theorem pathL_len (l : List UInt8) : (pathL l).length ≤ l.length := (cutL_len l 63).1

namespace Lw
end Lw
end Go.Proofs.YtncegikmpapldaaGreatDoor

-- from XCanP
/- Places: what holds of the plainest form, of what is meant, and of paths; on lists of bytes. -/
namespace Go.Proofs.YtncegikmpapldaaGreatDoor
open Go.RowKit

theorem hexV_hexU (k : Nat) (hk : k < 16) : hexV (hexU k) = some k := by
  have h : ∀ k : Fin 16, hexV (hexU k.val) = some k.val := by decide
  exact h ⟨k, hk⟩
theorem freeB_ne37 {c : UInt8} (h : freeB c = true) : c ≠ 37 := by rintro rfl; revert h; decide
theorem okLit_ne37 {asks : Bool} {c : UInt8} (h : okLit asks c = true) : c ≠ 37 := by rintro rfl; rw [okLit_37] at h; cases h
theorem okLit_free {asks : Bool} {c : UInt8} (h : freeB c = true) : okLit asks c = true := by unfold okLit; rw [h]; simp
theorem okLit_ne63 {asks : Bool} {c : UInt8} (h : okLit asks c = true) : c ≠ 63 := by rintro rfl; revert h; cases asks <;> decide

/-- A byte as it stands in the plainest form. -/
def encB (b : UInt8) : List UInt8 := if (freeB b || b == 47 || b == 61 || b == 38 || b == 63) = true then [b] else upperL b.toNat
theorem encB_lit {asks : Bool} {c : UInt8} (h : okLit asks c = true) : encB c = [c] := by
  unfold encB
  rw [if_pos]
  unfold okLit at h
  cases hf : freeB c with
  | true => rfl
  | false =>
    rw [hf] at h
    simp only [Bool.false_or] at h ⊢
    cases asks
    · simp_all
    · simp at h ⊢
      rcases h with h | h <;> simp [h]
theorem encB_63 : encB 63 = [63] := by decide
theorem encB_code {n : Nat} (hn : n < 256) (hd : doubtB n = false) : encB (UInt8.ofNat n) = putC n := by
  have h : ∀ n : Fin 256, doubtB n.val = false → encB (UInt8.ofNat n.val) = putC n.val := by decide +kernel
  exact h ⟨n, hn⟩ hd
theorem encB_means (b : UInt8) (l : List UInt8) : meansL (encB b ++ l) = b :: meansL l := by
  unfold encB
  split
  · rename_i h
    have hne : b ≠ 37 := by rintro rfl; revert h; decide
    rw [List.singleton_append, meansL_none (codeL_ne hne)]
  · have hb := b.toNat_lt
    have h1 := hexV_hexU (b.toNat / 16) (by omega)
    have h2 := hexV_hexU (b.toNat % 16) (by omega)
    have hc : codeL (upperL b.toNat ++ l) = some (b.toNat / 16 * 16 + b.toNat % 16) := codeL_37_some h1 h2
    have e : b.toNat / 16 * 16 + b.toNat % 16 = b.toNat := by omega
    rw [e] at hc
    unfold upperL at hc ⊢
    rw [List.cons_append] at hc ⊢
    rw [meansL_some hc]
    simp
theorem means_enc (m : List UInt8) : meansL (m.flatMap encB) = m := by
  induction m with
  | nil => rw [List.flatMap_nil, meansL_nil]
  | cons b m ih => rw [List.flatMap_cons, encB_means, ih]

theorem plain_ind {asks : Bool} {M : List UInt8 → List UInt8 → Prop} (h0 : M [] []) (h1 : ∀ c l r, okLit asks c = true → codeL (c :: l) = none → plainL asks l = some r → M l r → M (c :: l) (c :: r))
    (h2 : ∀ c l r n, codeL (c :: l) = some n → doubtB n = false → plainL asks (l.drop 2) = some r → M (l.drop 2) r → M (c :: l) (putC n ++ r)) : ∀ {l r : List UInt8}, plainL asks l = some r → M l r := by
  intro l r h
  induction hl : l.length using Nat.strongRecOn generalizing l r with
  | _ n ih =>
    subst hl
    match l with
    | [] => rw [plainL_nil] at h; obtain rfl := Option.some.inj h; exact h0
    | c :: l =>
      cases hc : codeL (c :: l) with
      | none =>
        rw [plainL_lit hc] at h
        split at h
        · rename_i ho
          obtain ⟨m, hm, rfl⟩ := Option.map_eq_some_iff.1 h
          exact h1 c l m ho hc hm (ih l.length (by simp) hm rfl)
        · cases h
      | some k =>
        rw [plainL_code hc] at h
        split at h
        · cases h
        · rename_i hd
          obtain ⟨m, hm, rfl⟩ := Option.map_eq_some_iff.1 h
          exact h2 c l m k hc (by simpa using hd) hm (ih (l.drop 2).length (by simp; omega) hm rfl)

theorem plain_enc {asks : Bool} {l r : List UInt8} (h : plainL asks l = some r) : r = (meansL l).flatMap encB := by
  refine plain_ind (M := fun l r => r = (meansL l).flatMap encB) ?_ ?_ ?_ h
  · rw [meansL_nil]; rfl
  · intro c l r ho hc _ ih
    rw [meansL_none hc, List.flatMap_cons, encB_lit ho, ← ih]; rfl
  · intro c l r n hc hd _ ih
    rw [meansL_some hc, List.flatMap_cons, encB_code (codeL_lt hc) hd, ← ih]
theorem putC_no63 {n : Nat} (hn : n < 256) (hd : doubtB n = false) : 63 ∉ putC n := by
  have h : ∀ n : Fin 256, doubtB n.val = false → 63 ∉ putC n.val := by decide +kernel
  exact h ⟨n, hn⟩ hd
theorem plain_no63 {asks : Bool} {l r : List UInt8} (h : plainL asks l = some r) : 63 ∉ r := by
  refine plain_ind (M := fun _ r => 63 ∉ r) (by simp) ?_ ?_ h
  · intro c l r ho _ _ ih
    simp only [List.mem_cons, not_or]
    exact ⟨fun e => okLit_ne63 ho e.symm, ih⟩
  · intro c l r n hc hd _ ih
    simp only [List.mem_append, not_or]
    exact ⟨putC_no63 (codeL_lt hc) hd, ih⟩
theorem plain_idem {asks : Bool} {l r : List UInt8} (h : plainL asks l = some r) : plainL asks r = some r := by
  refine plain_ind (M := fun _ r => plainL asks r = some r) (plainL_nil asks) ?_ ?_ h
  · intro c l r ho _ _ ih
    rw [plainL_lit (codeL_ne (okLit_ne37 ho)), if_pos ho, ih]; rfl
  · intro c l r n hc hd _ ih
    have hn := codeL_lt hc
    unfold putC
    split
    · rename_i hf
      rw [List.singleton_append, plainL_lit (codeL_ne (freeB_ne37 hf)), if_pos (okLit_free hf), ih]; rfl
    · rename_i hf
      have h1 := hexV_hexU (n / 16) (by omega)
      have h2 := hexV_hexU (n % 16) (by omega)
      have hcc : codeL (upperL n ++ r) = some (n / 16 * 16 + n % 16) := codeL_37_some h1 h2
      have e : n / 16 * 16 + n % 16 = n := by omega
      rw [e] at hcc
      have hp : putC n = upperL n := if_neg hf
      have hu : upperL n ++ r = 37 :: ([hexU (n / 16), hexU (n % 16)] ++ r) := rfl
      rw [hu] at hcc ⊢
      rw [plainL_code hcc, hd, hp]
      have hdr : List.drop 2 ([hexU (n / 16), hexU (n % 16)] ++ r) = r := rfl
      rw [hdr, ih]; rfl

/-- What it is to have a plainest form. -/
theorem canon_iff {l c : List UInt8} (h : canonL l = some c) : l.length ≤ 40 ∧ ∃ l' o, l = 47 :: l' ∧ plainL false (cutL l' 63).1 = some o ∧ segsOk (partsL o 47) = true ∧
    (((cutL l' 63).2.2 = false ∧ c = 47 :: o) ∨ ((cutL l' 63).2.2 = true ∧ ∃ m, plainL true (cutL l' 63).2.1 = some m ∧ c = 47 :: (o ++ 63 :: m))) := by
  unfold canonL at h
  split at h
  · cases h
  · rename_i hl
    refine ⟨by omega, ?_⟩
    match l, h with
    | d :: l', h =>
      unfold rootR at h
      simp only at h
      split at h
      · rename_i hd
        subst hd
        unfold resP at h
        split at h
        · cases h
        · rename_i o ho
          refine ⟨l', o, rfl, ho, ?_⟩
          have e1 : List.drop 1 [(47 : UInt8)] = [] := rfl
          rw [e1, List.nil_append] at h
          split at h
          · rename_i hs
            refine ⟨hs, ?_⟩
            split at h
            · rename_i ha
              obtain ⟨m, hm, rfl⟩ := Option.map_eq_some_iff.1 h
              exact .inr ⟨ha, m, hm, by simp⟩
            · rename_i ha
              have := Option.some.inj h
              exact .inl ⟨by simpa using ha, by rw [← this]; rfl⟩
          · cases h
      · cases h
theorem canon_mk {o : List UInt8} (h1 : 63 ∉ o) (h2 : plainL false o = some o) (h3 : segsOk (partsL o 47) = true) (h4 : (47 :: o).length ≤ 40) : canonL (47 :: o) = some (47 :: o) := by
  unfold canonL
  rw [if_neg (by simp at h4 ⊢; omega)]
  show (if (47 : UInt8) = 47 then resP [47] 1 o else none) = _
  rw [if_pos rfl]
  unfold resP
  rw [cutL_no _ _ h1]
  simp only [h2]
  have e1 : List.drop 1 [(47 : UInt8)] = [] := rfl
  rw [e1, List.nil_append, if_pos h3]; rfl
theorem canon_mk2 {o m : List UInt8} (h1 : 63 ∉ o) (h2 : plainL false o = some o) (h3 : segsOk (partsL o 47) = true) (hm : plainL true m = some m) (h4 : (47 :: (o ++ 63 :: m)).length ≤ 40) : canonL (47 :: (o ++ 63 :: m)) = some (47 :: (o ++ 63 :: m)) := by
  unfold canonL
  rw [if_neg (by simp at h4 ⊢; omega)]
  show (if (47 : UInt8) = 47 then resP [47] 1 (o ++ 63 :: m) else none) = _
  rw [if_pos rfl]
  unfold resP
  rw [cutL_yes _ _ _ h1]
  simp only [h2]
  have e1 : List.drop 1 [(47 : UInt8)] = [] := rfl
  rw [e1, List.nil_append, if_pos h3, hm]; rfl

theorem cutL_join {l : List UInt8} (h : (cutL l 63).2.2 = true) : l = (cutL l 63).1 ++ 63 :: (cutL l 63).2.1 := by
  induction l with
  | nil => cases h
  | cons b l ih =>
    by_cases hb : b = 63
    · subst hb; rw [cutL_hit]; rfl
    · rw [cutL_cons hb] at h ⊢
      simp only at h ⊢
      rw [List.cons_append, ← ih h]
theorem cutL_whole {l : List UInt8} (h : (cutL l 63).2.2 = false) : (cutL l 63).1 = l := by
  induction l with
  | nil => rfl
  | cons b l ih =>
    by_cases hb : b = 63
    · subst hb; rw [cutL_hit] at h; cases h
    · rw [cutL_cons hb] at h ⊢
      simp only at h ⊢
      rw [ih h]
theorem cutL_no63 (l : List UInt8) : 63 ∉ (cutL l 63).1 := by
  induction l with
  | nil => simp [cutL]
  | cons b l ih =>
    by_cases hb : b = 63
    · subst hb; rw [cutL_hit]; simp
    · rw [cutL_cons hb]
      simp only [List.mem_cons, not_or]
      exact ⟨fun e => hb e.symm, ih⟩
theorem pathL_idem (l : List UInt8) : pathL (pathL l) = pathL l := by
  unfold pathL; rw [cutL_no _ _ (cutL_no63 l)]

theorem codeL_app63 (c : UInt8) (p q : List UInt8) : codeL (c :: (p ++ 63 :: q)) = codeL (c :: p) := by
  by_cases hc : c = 37
  · subst hc
    match p with
    | [] => rw [List.nil_append, codeL_37_none (by decide)]; rfl
    | [a] => rw [List.singleton_append, codeL_37_none2 (by decide)]; rfl
    | a :: b :: p => rfl
  · rw [codeL_ne hc, codeL_ne hc]
theorem means_app63 (p q : List UInt8) : meansL (p ++ 63 :: q) = meansL p ++ 63 :: meansL q := by
  induction hl : p.length using Nat.strongRecOn generalizing p with
  | _ n ih =>
    subst hl
    match p with
    | [] => rw [List.nil_append, meansL_none (codeL_ne (by decide)), meansL_nil]; rfl
    | c :: p =>
      rw [List.cons_append]
      cases hc : codeL (c :: p) with
      | none => rw [meansL_none (by rw [codeL_app63]; exact hc), meansL_none hc, ih p.length (by simp) p rfl]; rfl
      | some n =>
        have h3 : 2 ≤ p.length := by
          rcases Nat.lt_or_ge (c :: p).length 3 with h | h
          · rw [codeL_short h] at hc; cases hc
          · simpa using h
        rw [meansL_some (by rw [codeL_app63]; exact hc), meansL_some hc, List.drop_append_of_le_length h3, ih (p.drop 2).length (by simp; omega) _ rfl]; rfl

theorem canon_enc {l c : List UInt8} (h : canonL l = some c) : c = (meansL l).flatMap encB := by
  obtain ⟨_, l', o, rfl, h1, _, h3⟩ := canon_iff h
  have e := plain_enc h1
  have e47 : encB 47 = [47] := by decide
  rw [meansL_none (codeL_ne (by decide)), List.flatMap_cons, e47]
  rcases h3 with ⟨ha, rfl⟩ | ⟨ha, m, hm, rfl⟩
  · rw [cutL_whole ha] at e
    rw [← e]; rfl
  · have em := plain_enc hm
    conv => rhs; rw [cutL_join ha]
    rw [means_app63, List.flatMap_append, List.flatMap_cons, encB_63, ← e, ← em]; rfl
theorem canon_means {l c : List UInt8} (h : canonL l = some c) : meansL c = meansL l := by
  rw [canon_enc h, means_enc]
theorem canon_same {l l2 c c2 : List UInt8} (h : canonL l = some c) (h2 : canonL l2 = some c2) : (meansL l == meansL l2) = (c == c2) := by
  rw [Bool.eq_iff_iff, beq_iff_eq, beq_iff_eq]
  constructor
  · intro e; rw [canon_enc h, canon_enc h2, e]
  · intro e; rw [← canon_means h, ← canon_means h2, e]

/-- What the plainest form is like. -/
theorem canon_form {l c : List UInt8} (h : canonL l = some c) : c.length ≤ l.length ∧ c.length ≤ 40 ∧ canonL c = some c ∧ ∃ o, pathL c = 47 :: o ∧ 63 ∉ (47 :: o : List UInt8) ∧ segsOk (partsL o 47) = true ∧ plainL false o = some o ∧ canonL (47 :: o) = some (47 :: o) ∧
    ((47 :: o : List UInt8).length = 40 ∨ canonL (47 :: o ++ [63]) = some (47 :: o ++ [63])) := by
  obtain ⟨hl, l', o, rfl, h1, hs, h3⟩ := canon_iff h
  have n63 := plain_no63 h1
  have hid := plain_idem h1
  have hol := plainL_len h1
  have n63' : 63 ∉ (47 :: o : List UInt8) := by simp only [List.mem_cons, not_or]; exact ⟨by decide, n63⟩
  have hcl := cutL_len l' 63
  have hle : (47 :: o : List UInt8).length ≤ 40 := by simp at hl ⊢; omega
  have hq : (47 :: o : List UInt8).length = 40 ∨ canonL (47 :: o ++ [63]) = some (47 :: o ++ [63]) := by
    rcases Nat.lt_or_ge (47 :: o : List UInt8).length 40 with h | h
    · exact .inr (canon_mk2 n63 hid hs (plainL_nil true) (by simp at h ⊢; omega))
    · exact .inl (by omega)
  rcases h3 with ⟨ha, rfl⟩ | ⟨ha, m, hm, rfl⟩
  · refine ⟨by simp; omega, hle, canon_mk n63 hid hs hle, o, ?_, n63', hs, hid, canon_mk n63 hid hs hle, hq⟩
    unfold pathL; rw [cutL_no _ _ n63']
  · have hml := plainL_len hm
    have hj := congrArg List.length (cutL_join ha)
    have hlen : (47 :: (o ++ 63 :: m) : List UInt8).length ≤ (47 :: l' : List UInt8).length := by
      simp at hj ⊢; omega
    refine ⟨hlen, by omega, canon_mk2 n63 hid hs (plain_idem hm) (by omega), o, ?_, n63', hs, hid, canon_mk n63 hid hs hle, hq⟩
    unfold pathL
    rw [← List.cons_append, cutL_yes _ _ _ n63']

theorem under_self (s : List UInt8) : underB (pathL s) s = true := by unfold underB; simp
theorem under_path (t s : List UInt8) : underB t (pathL s) = underB t s := by unfold underB; rw [pathL_idem]
theorem pre_iff {h l : List UInt8} : preB h l = true ↔ h <+: l := by unfold preB; exact List.isPrefixOf_iff_prefix
theorem inTop_pre (t : List UInt8) : t <+: inTop t := by
  unfold inTop; split
  · exact List.prefix_rfl
  · exact List.prefix_append _ _
theorem under_iff {t s : List UInt8} : underB t s = true ↔ pathL s = t ∨ inTop t <+: pathL s := by
  unfold underB; rw [Bool.or_eq_true, beq_iff_eq, pre_iff]
theorem under_trans {t m l : List UInt8} (h1 : underB t m = true) (h2 : underB (pathL m) l = true) : underB t l = true := by
  rw [under_iff] at h1 h2 ⊢
  rcases h1 with h1 | h1
  · rw [h1] at h2; exact h2
  · rcases h2 with h2 | h2
    · rw [h2]; exact .inr h1
    · exact .inr ((h1.trans (inTop_pre _)).trans h2)
theorem under_least {l c : List UInt8} (h : canonL l = some c) : underB [47] c = true := by
  obtain ⟨_, _, _, o, hp, _⟩ := canon_form h
  rw [under_iff, hp]
  exact .inr ⟨o, rfl⟩
end Go.Proofs.YtncegikmpapldaaGreatDoor

