import Derived.Test.YtbhnjnoblkfckaaGreatDoorGZ08
import Derived.Test.YtbhnjnoblkfckaaGreatDoorGZ06
import Derived.Test.YtbhnjnoblkfckaaGreatDoorGZ01
import Derived.Test.YtbhnjnoblkfckaaGreatDoorGZ04
import Derived.Test.YtbhnjnoblkfckaaGreatDoorGZ07
import Derived.Test.YtbhnjnoblkfckaaGreatDoorGZ00
import Derived.Test.YtbhnjnoblkfckaaGreatDoorGZ03
import Derived.Lib.TrimByte
import Derived.Test.YtbhnjnoblkfckaaGreatDoorRows
import Derived.WalkKit
import Derived.WalkSpells
import Derived.WalkLawsBesides
import Derived.BigQuiet
import Derived.Lib.Hide
-- from XCan9
/- Places: their plainest form as the program writes it; the exact law. -/
namespace Go.Proofs.YtbhnjnoblkfckaaGreatDoor
open Go.RowKit

theorem resP_bad0 {ys : List UInt8} {seg : Nat} {l : List UInt8} (h : codeL (37 :: l) = none) (h2 : 63 ∉ l) : resP ys seg (37 :: l) = none := by
  unfold resP
  rw [cutL_cons (by decide), cutL_no _ _ h2, plainL_bad h]
theorem resQ_bad0 {ys : List UInt8} {seg : Nat} {l : List UInt8} (h : codeL (37 :: l) = none) : resQ ys seg (37 :: l) = none := by
  unfold resQ
  rw [plainL_bad h]; simp
theorem res_func (b : Nat) (q : Bool) : ∃ N, bkV b q = .func (.func N) #[.pointer (some ⟨b, 0, none⟩)] #[] := by
  cases q <;> exact ⟨_, rfl⟩
theorem cend {b : Nat} {R : Option (List UInt8)} {st : CS} {ys : List UInt8} {seg high : Nat} (h : CInv R st ys seg high []) (h0 : st ≠ .root) :
    (resOf b st = .nilFunc ∧ 0 < ys.length ∧ seg ≤ ys.length ∧ R = if dotL (ys.drop seg) = true then none else some ys) ∨ ((∃ N, resOf b st = .func (.func N) #[.pointer (some ⟨b, 0, none⟩)] #[]) ∧ R = none) := by
  cases st with
  | root => exact absurd rfl h0
  | path => obtain ⟨h1, h2⟩ := h; exact .inl ⟨rfl, h1.ne, h1.le, by rw [h2, resP_end h1]⟩
  | query => obtain ⟨h1, h2⟩ := h; exact .inl ⟨rfl, h1.ne, h1.le, by rw [h2, resQ_end]⟩
  | d1 q =>
    refine .inr ⟨res_func b q, ?_⟩
    cases q with
    | true => obtain ⟨h1, h2⟩ := h; rw [h2, resQ_bad0 rfl]
    | false => obtain ⟨h1, h2⟩ := h; rw [h2, resP_bad0 rfl (by simp)]
  | d2 q =>
    obtain ⟨a, ha, h⟩ := h
    refine .inr ⟨res_func b q, ?_⟩
    cases q with
    | true => obtain ⟨h1, h2⟩ := h; rw [h2, resQ_bad0 rfl]
    | false => obtain ⟨h1, h2⟩ := h; rw [h2, resP_bad0 rfl (by simpa using (hex_ne ha (by decide : hexV 63 = none)).symm)]

set_option maxHeartbeats 1600000 in
theorem c_whole_nil (b : Nat) (ys : List UInt8) (seg high : Nat) (w : World) (h : CAt w b ys seg .nilFunc high) (hn : ys.length ≤ 1000) (h0 : 0 < ys.length) (hs : seg ≤ ys.length) :
    Calls Tryz.prog 121 #[.pointer (some ⟨b, 0, none⟩)] w fun e w' => e = .returned (.bool (!dotL (ys.drop seg))) ∧ ∃ n, w' = w.drewN n := by
  have c1 := c_dotted b ys seg high .nilFunc w h hn h0 hs
  have hq1 := step_nil
  obtain ⟨v, hh, ho⟩ := h
  have k2 : w.cell? ⟨b, 2, none⟩ = some .nilFunc := by simp [World.cell?, hh]
  clear hh ho
  generalize dotL (ys.drop seg) = d at *
  cases d
  all_goals go_enter Tryz.func121, Tryz.ntmps121
  all_goals go_wp2_with fail
  all_goals refine c1.mono ?_
  all_goals rintro e w1 ⟨rfl, n, rfl⟩
  all_goals go_wp2
  all_goals go_ret
  all_goals exact ⟨rfl, n, rfl⟩

set_option maxHeartbeats 1600000 in
theorem c_whole_open (b : Nat) (ys : List UInt8) (seg high N : Nat) (w : World) (h : CAt w b ys seg (.func (.func N) #[.pointer (some ⟨b, 0, none⟩)] #[]) high) :
    Calls Tryz.prog 121 #[.pointer (some ⟨b, 0, none⟩)] w fun e w' => e = .returned (.bool false) ∧ w = w' := by
  have hq2 := step_not_nil
  obtain ⟨v, hh, ho⟩ := h
  have k2 : w.cell? ⟨b, 2, none⟩ = some (.func (.func N) #[.pointer (some ⟨b, 0, none⟩)] #[]) := by simp [World.cell?, hh]
  clear hh ho
  go_enter Tryz.func121, Tryz.ntmps121
  go_wp2
  go_ret
  exact ⟨rfl, rfl⟩

theorem made_c (w : World) : CAt (w.alloc (.cells #[.slice none 0 0, .int .i64 0, .nilFunc, .int .u8 0] 152)) w.heap.size [] 0 .nilFunc 0 :=
  ⟨.slice none 0 0, heap_alloc_new w _, World.ownsRow_nil _ _ _ _⟩

set_option maxRecDepth 100000 in
set_option maxHeartbeats 3200000 in
theorem impl_canon (s : ByteArray) (w : World) (hs : s.size ≤ 281474976710656) (hcls : Cls w) :
    Calls Tryz.prog 100 #[.string s] w fun e w' => e = .returned (canV (canonL s.data.toList)) ∧ Below w.heap.size w w' := by
  obtain ⟨R, hR⟩ : ∃ R, R = canonL s.data.toList := ⟨_, rfl⟩
  rw [← hR]
  have hbad : R = none → canV R = .tuple #[.string ⟨#[]⟩, .bool false] := fun h => by rw [h]; rfl
  have hgood : ∀ ys, R = some ys → canV R = .tuple #[.string ⟨ys.toArray⟩, .bool true] := fun ys h => by rw [h]; rfl
  unfold canonL at hR
  rw [← size_len] at hR
  have hemp : (s.toList == ([] : List UInt8)) = decide (s.size = 0) := by
    rw [Lib.toList_data, size_len, Bool.eq_iff_iff, beq_iff_eq, decide_eq_true_iff, ← List.length_eq_zero_iff]
  by_cases h0 : s.size = 0
  · rw [if_pos (.inl h0)] at hR
    rw [hbad hR]
    rw [show decide (s.size = 0) = true from by simpa using h0] at hemp
    clear hbad hgood hR hcls h0
    go_enter Tryz.func100, Tryz.ntmps100
    go_wp2
    go_ret2
    exact ⟨rfl, Below.refl _ _⟩
  · rw [show decide (s.size = 0) = false from by simpa using h0] at hemp
    by_cases h40 : 40 < s.size
    · rw [if_pos (.inr h40)] at hR
      rw [hbad hR]
      clear hbad hgood hR hcls h0
      go_enter Tryz.func100, Tryz.ntmps100
      go_wp2
      go_ret2
      exact ⟨rfl, Below.refl _ _⟩
    · rw [if_neg (by omega)] at hR
      have hbel := (Below.refl w.heap.size w).alloc (Nat.le_refl _) (.cells #[.slice none 0 0, .int .i64 0, .nilFunc, .int .u8 0] 152)
      have hcls2 := hcls.below hbel (Nat.le_refl _)
      have c1 := takes_c w.heap.size s R hR _ (made_c w) hcls2 hcls.1 (by omega) (by omega)
      have hmf : ∀ (fn : Fn) (first cap : Array Value) (w : World), (Instr.makeFunc fn first cap).run Tryz.prog w = .ok (.func fn first cap) w := fun _ _ _ _ => rfl
      have HB := Lib.hid hbad
      have HG := Lib.hid hgood
      unfold cV at c1
      clear hR hcls hcls2 hbad hgood h0
      go_enter Tryz.func100, Tryz.ntmps100
      go_wp2_with fail
      refine c1.mono ?_
      rintro e w1 ⟨hb1, ⟨rfl, hn⟩ | ⟨rfl, st, ys, seg, high, hne, hat, hin, hlen⟩⟩
      · have hb2 := hbel.trans hb1
        have HN := Lib.hid (HB.out hn)
        clear c1 hn
        go_wp2
        go_ret2
        exact ⟨congrArg Ending.returned HN.out.symm, hb2⟩
      · have hb2 := hbel.trans hb1
        clear c1
        rcases cend (b := w.heap.size) hin hne with ⟨hr, h1, h2, h3⟩ | ⟨⟨N, hr⟩, h3⟩
        · rw [hr] at hat
          have c2 := c_whole_nil w.heap.size ys seg high w1 hat (by omega) h1 h2
          obtain ⟨v, hh, hown⟩ := hat
          obtain ⟨g, cap, rfl⟩ := own_form hown h1
          have hcv : ∀ n, (convert 53 9 (.slice (some ⟨g, 0, none⟩) ys.length cap)).run Tryz.prog (w1.drewN n) = .ok (.string ⟨ys.toArray⟩) (w1.drewN n) := fun n =>
            run_convert_bytes_back (P := Tryz.prog) (w1.drewN n) 53 9 5 ⟨g, 0, none⟩ cap ys Tryz.underlying53 Tryz.underlying5 Tryz.underlying9 (fun j hj => hown.cells (g := g) rfl j _ (u8s_at hj))
          have k0 : ∀ n, (w1.drewN n).cell? ⟨w.heap.size, 0, none⟩ = some (.slice (some ⟨g, 0, none⟩) ys.length cap) := fun n => (show w1.cell? _ = _ by simp [World.cell?, hh])
          clear hin hh hown hr
          cases hd : dotL (ys.drop seg) with
          | true =>
            rw [hd] at c2 h3
            have HN := Lib.hid (HB.out (by simpa using h3))
            clear h3 hd
            go_wp2_with fail
            refine c2.mono ?_
            rintro e w2 ⟨rfl, n, rfl⟩
            go_wp2
            go_ret2
            exact ⟨congrArg Ending.returned HN.out.symm, below_drewN hb2⟩
          | false =>
            rw [hd] at c2 h3
            have HN := Lib.hid (HG.out ys (by simpa using h3))
            clear h3 hd
            go_wp2_with fail
            refine c2.mono ?_
            rintro e w2 ⟨rfl, n, rfl⟩
            have k0' := k0 n
            have hcv' := hcv n
            clear k0 hcv c2
            go_wp2
            go_ret2
            exact ⟨congrArg Ending.returned HN.out.symm, below_drewN hb2⟩
        · rw [hr] at hat
          have c2 := c_whole_open w.heap.size ys seg high N w1 hat
          have HN := Lib.hid (HB.out h3)
          clear h3 hin hat hr
          go_wp2_with fail
          refine c2.mono ?_
          rintro e w2 ⟨rfl, rfl⟩
          go_wp2
          go_ret2
          exact ⟨congrArg Ending.returned HN.out.symm, hb2⟩

namespace Lw
end Lw
end Go.Proofs.YtbhnjnoblkfckaaGreatDoor

-- from XHelI
/- Walks: verbs, names of a request's own, bodies, the address, by the program. -/
namespace Go.Proofs.YtbhnjnoblkfckaaGreatDoor
open Go.RowKit

/-- How long a body may be. -/
def mostN (verb : List UInt8) : Nat := if verb = bPut then 20 else 0
def bodyP (verb body : List UInt8) : Bool := decide (body.length ≤ mostN verb) && printB body
theorem impl_body (v s : ByteArray) (w : World) (hs : s.size ≤ maxLen) :
    Calls Tryz.prog 125 #[.string s, .int .i64 (mostN v.data.toList : Nat)] w fun e w' => e = .returned (.bool (bodyP v.data.toList s.data.toList)) ∧ w = w' :=
  impl_bodyok s (mostN v.data.toList) w hs
def addrB (t h : List UInt8) : Bool := decide (canonL t = some t) && hostB h
set_option maxHeartbeats 800000 in
theorem impl_target (t : ByteArray) (w : World) (ht : t.size ≤ 1048576) (hcls : Cls w) :
    Calls Tryz.prog 75 #[.string t] w fun e w' => e = .returned (.bool (decide (canonL t.data.toList = some t.data.toList))) ∧ Below w.heap.size w w' := by
  have hU := fun W hW => impl_canon t W (by omega) hW
  obtain ⟨T, okT, hT, hTT⟩ := can_parts t
  rw [hT] at hU
  have hdef : decide (canonL t.data.toList = some t.data.toList) = (okT && decide (T = t)) := by rw [Bool.eq_iff_iff]; simpa using hTT.symm
  rw [hdef]
  clear hdef hTT hT
  go_enter Tryz.func75, Tryz.ntmps75
  go_wp2_with fail
  refine (hU _ hcls).mono ?_
  rintro e w1 ⟨rfl, hb1⟩
  have HB := Lib.hid hb1
  clear hb1 hU hcls
  cases okT
  · go_wp2
    go_ret
    exact ⟨rfl, HB.out⟩
  · by_cases e1 : T = t
    · subst e1
      have se := str_same T
      go_wp2
      go_ret
      exact ⟨by simp, HB.out⟩
    · have se := str_ne e1
      have E := Lib.hid e1
      clear e1
      go_wp2
      go_ret
      exact ⟨by simp [E.out], HB.out⟩
end Go.Proofs.YtbhnjnoblkfckaaGreatDoor

-- from XRp
/- Answers: what they are; no function of the program. -/
namespace Go.Proofs.YtbhnjnoblkfckaaGreatDoor
open Go.RowKit

/-- An answer. -/
structure Rp where
  code : Int
  mx : Int
  hide : Bool
  tag : ByteArray
  cod : Int
  body : ByteArray
def noRp : Rp := ⟨0, 0, false, ⟨#[]⟩, 0, ⟨#[]⟩⟩
def rspV (r : Rp) : Value := .agg #[.int .i64 r.code, .int .i64 r.mx, .bool r.hide, .string r.tag, .int .i64 r.cod, .string r.body]
def rspC (r : Rp) : Array Value := #[.int .i64 r.code, .int .i64 r.mx, .bool r.hide, .string r.tag, .int .i64 r.cod, .string r.body]
theorem six_facts {w : World} {b : Nat} {x0 x1 x2 x3 x4 x5 : Value} {T : TypeId} (h : w.heap[b]? = some (.cells #[x0, x1, x2, x3, x4, x5] T (0, 0))) :
    w.cell? ⟨b, 0, none⟩ = some x0 ∧ w.cell? ⟨b, 1, none⟩ = some x1 ∧ w.cell? ⟨b, 2, none⟩ = some x2 ∧ w.cell? ⟨b, 3, none⟩ = some x3 ∧ w.cell? ⟨b, 4, none⟩ = some x4 ∧ w.cell? ⟨b, 5, none⟩ = some x5 := by
  simp [World.cell?, h]
end Go.Proofs.YtbhnjnoblkfckaaGreatDoor

-- from XTag
/- Walks: which tags are valid. -/
namespace Go.Proofs.YtbhnjnoblkfckaaGreatDoor
open Go.RowKit

def tagB (tag : List UInt8) : Bool := decide (tag = []) || tokB tag
theorem str_nil {s : ByteArray} (h : s.data.toList = []) : s = ⟨#[]⟩ := by
  apply ByteArray.ext; apply Array.toList_inj.1; simpa using h
set_option maxHeartbeats 400000 in
theorem impl_tagok (s : ByteArray) (w : World) (hs : s.size ≤ maxLen) (h : Cls w) :
    Calls Tryz.prog 123 #[.string s] w fun e w' => e = .returned (.bool (tagB s.data.toList)) ∧ w = w' := by
  have hT := fun W hW => impl_tok s W hs hW
  by_cases c : s.data.toList = []
  · have hd : tagB s.data.toList = true := by unfold tagB; rw [c]; rfl
    rw [hd]
    obtain rfl := str_nil c
    clear hd c hT h hs
    go_enter Tryz.func123, Tryz.ntmps123
    go_wp2_with fail
    go_ret
    exact ⟨rfl, rfl⟩
  · have hd : tagB s.data.toList = tokB s.data.toList := by unfold tagB; rw [decide_eq_false c]; rfl
    rw [hd]
    have b0 : (s.toList == ([] : List UInt8)) = false := by rw [Lib.toList_data]; exact beq_eq_false_iff_ne.2 c
    have b1 : s.toList.isEmpty = false := by rw [Lib.toList_data]; cases hh : s.data.toList with
      | nil => exact absurd hh c
      | cons _ _ => rfl
    have hT' := Lib.hid (hT w h)
    generalize tokB s.data.toList = R at *
    clear hd c hT h hs
    go_enter Tryz.func123, Tryz.ntmps123
    go_wp2_with fail
    refine hT'.out.mono ?_
    rintro e w1 ⟨rfl, rfl⟩
    go_wp2
    go_ret
    exact ⟨rfl, rfl⟩
end Go.Proofs.YtbhnjnoblkfckaaGreatDoor

-- from XMaskP
/- Sets of codings: plain functions; no program. -/
namespace Go.Proofs.YtbhnjnoblkfckaaGreatDoor

abbrev Wt : Type := Int × Int
/-- What is told last for a coding. -/
def lastQ (ws : List Wt) (c : Int) (o : Int) : Int := ws.foldl (fun q w => if w.1 = c then w.2 else q) o
def qual (ws : List Wt) (c : Int) : Int := lastQ ws c (lastQ ws (-1) (if c = 0 then 1000 else 0))
def maskL (ws : List Wt) : Nat := (if 0 < qual ws 0 then 1 else 0) + (if 0 < qual ws 1 then 2 else 0) + (if 0 < qual ws 2 then 4 else 0)
def inB (m c : Int) : Bool := decide (0 ≤ m ∧ m < 8) && ((decide (c = 0) && decide (m % 2 = 1)) || (decide (c = 1) && decide (m / 2 % 2 = 1)) || (decide (c = 2) && decide (m / 4 % 2 = 1)))
theorem lastQ_snoc (ws : List Wt) (w : Wt) (c o : Int) : lastQ (ws ++ [w]) c o = if w.1 = c then w.2 else lastQ ws c o := by
  unfold lastQ; rw [List.foldl_append]; rfl
theorem lastQ_take {ws : List Wt} {k : Nat} {w : Wt} (h : ws[k]? = some w) (c o : Int) : lastQ (ws.take (k + 1)) c o = if w.1 = c then w.2 else lastQ (ws.take k) c o := by
  rw [show ws.take (k + 1) = ws.take k ++ [w] from by rw [List.take_add_one, h]; rfl, lastQ_snoc]
theorem maskL_lt (ws : List Wt) : maskL ws < 8 := by
  unfold maskL; split <;> split <;> split <;> omega
/-- The codings below k that would be taken. -/
def maskTo (ws : List Wt) (k : Nat) : Nat := (if 0 < k ∧ 0 < qual ws 0 then 1 else 0) + (if 1 < k ∧ 0 < qual ws 1 then 2 else 0) + (if 2 < k ∧ 0 < qual ws 2 then 4 else 0)
theorem maskTo_all (ws : List Wt) : maskTo ws 3 = maskL ws := by simp [maskTo, maskL]
theorem maskTo_zero (ws : List Wt) : maskTo ws 0 = 0 := by simp [maskTo]
theorem maskTo_step (ws : List Wt) (k : Nat) (hk : k < 3) : maskTo ws (k + 1) = maskTo ws k + if 0 < qual ws (k : Int) then 2 ^ k else 0 := by
  have h : k = 0 ∨ k = 1 ∨ k = 2 := by omega
  rcases h with rfl | rfl | rfl <;> simp [maskTo]
theorem maskTo_lt (ws : List Wt) (k : Nat) (_hk : k ≤ 3) : maskTo ws k < 2 ^ k := by
  have h : k = 0 ∨ k = 1 ∨ k = 2 ∨ k = 3 := by omega
  rcases h with rfl | rfl | rfl | rfl
  all_goals simp only [maskTo]
  all_goals simp
  all_goals (repeat' split)
  all_goals omega

end Go.Proofs.YtbhnjnoblkfckaaGreatDoor

-- from XCodP
/- Codings: plain functions on lists of bytes; no program. -/
namespace Go.Proofs.YtbhnjnoblkfckaaGreatDoor

/-- What a quality's four digits say. -/
def qVal (a : UInt8) (d : List UInt8) : Nat := valF 0 (a :: (d ++ List.replicate (3 - d.length) 48))
/-- A quality, in thousandths. -/
def codQ (l : List UInt8) : Nat × Bool :=
  if ((cutL l 46).1 = [48] ∨ (cutL l 46).1 = [49]) ∧ (cutL l 46).2.1.length ≤ 3 ∧ (cutL l 46).2.1.all isDig = true ∧ qVal ((cutL l 46).1.headD 0) (cutL l 46).2.1 ≤ 1000
  then (qVal ((cutL l 46).1.headD 0) (cutL l 46).2.1, true) else (0, false)

def nPlain : List UInt8 := [112, 108, 97, 105, 110]
def nGz : List UInt8 := [103, 122]
def nBr : List UInt8 := [98, 114]
/-- The coding of a name in small letters; -2 of none. -/
def codN (l : List UInt8) : Int := if l = [42] then -1 else if l = nPlain then 0 else if l = nGz then 1 else if l = nBr then 2 else -2
def nameOf (l : List UInt8) : List UInt8 := Lib.trimB (cutL l 59).1 32
def restOf (l : List UInt8) : List UInt8 := Lib.trimB (cutL l 59).2.1 32
/-- One thing that somebody would take. -/
def codOne (l : List UInt8) : Option Wt :=
  if codN (lowL (nameOf l)) = -2 then none
  else if (cutL l 59).2.2 = false then some (codN (lowL (nameOf l)), 1000)
  else if (restOf l).take 2 = [113, 61] ∧ (codQ ((restOf l).drop 2)).2 = true then some (codN (lowL (nameOf l)), ((codQ ((restOf l).drop 2)).1 : Int)) else none
def codAll : List (List UInt8) → Option (List Wt)
  | [] => some []
  | p :: ps => match codOne p, codAll ps with
    | some a, some b => some (a :: b)
    | _, _ => none
def codParse (l : List UInt8) : Option (List Wt) := if (partsL l 44).length ≤ 5 then codAll (partsL l 44) else none

def codT (m : Int) : List UInt8 :=
  if 0 ≤ m ∧ m < 8 then (if m % 2 = 1 then nPlain else nPlain ++ [59, 113, 61, 48]) ++ (if m / 2 % 2 = 1 then [44, 32, 103, 122] else []) ++ (if m / 4 % 2 = 1 then [44, 32, 98, 114] else []) else []

theorem codAll_snoc (ps : List (List UInt8)) (p : List UInt8) : codAll (ps ++ [p]) = match codAll ps, codOne p with | some a, some b => some (a ++ [b]) | _, _ => none := by
  induction ps with
  | nil => simp only [List.nil_append, codAll]; cases codOne p <;> rfl
  | cons q ps ih =>
    rw [List.cons_append, codAll, ih, codAll]
    cases codOne q <;> cases codAll ps <;> cases codOne p <;> rfl
theorem codAll_len {ps : List (List UInt8)} {ws : List Wt} (h : codAll ps = some ws) : ws.length = ps.length := by
  induction ps generalizing ws with
  | nil => cases h; rfl
  | cons p ps ih =>
    rw [codAll] at h
    cases h1 : codOne p <;> cases h2 : codAll ps <;> rw [h1, h2] at h <;> try (cases h)
    rename_i a b
    simp [ih h2]
/-- A list with a wrong part is wrong. -/
theorem codAll_bad {ps : List (List UInt8)} {k : Nat} {p : List UInt8} (hp : ps[k]? = some p) (h : codOne p = none) : codAll ps = none := by
  induction ps generalizing k with
  | nil => simp at hp
  | cons q ps ih =>
    rw [codAll]
    cases k with
    | zero =>
      have : q = p := by simpa using hp
      rw [this, h]
    | succ k =>
      rw [ih (by simpa using hp)]
      cases codOne q <;> rfl
/-- What four signs or fewer are read as: never too much. -/
theorem parse_small (l : List UInt8) : ∀ acc, (acc + 1) * 10 ^ l.length ≤ 100000000000000000 → Lib.parseUint10 acc l ≠ .range ∧ ∀ v, Lib.parseUint10 acc l = .ok v → l.all isDig = true ∧ v = valF acc l := by
  induction l with
  | nil =>
    intro acc _
    refine ⟨fun h => (by cases h), fun v h => ?_⟩
    injection h with h
    exact ⟨rfl, h.symm⟩
  | cons c l ih =>
    intro acc h
    rw [List.length_cons, Nat.pow_succ] at h
    have hp : 1 ≤ 10 ^ l.length := Nat.pow_pos (by omega)
    have h1 : (acc + 1) * 10 * 10 ^ l.length ≤ 100000000000000000 := by rw [Nat.mul_assoc, Nat.mul_comm 10]; exact h
    have h3 : (acc + 1) * 10 ≤ 100000000000000000 := Nat.le_trans (Nat.le_mul_of_pos_right _ hp) h1
    unfold Lib.parseUint10
    by_cases hc : 48 ≤ c.toNat ∧ c.toNat ≤ 57
    · rw [if_pos hc, if_neg (by omega), if_neg (by omega)]
      have h2 : (acc * 10 + (c.toNat - 48) + 1) * 10 ^ l.length ≤ 100000000000000000 := Nat.le_trans (Nat.mul_le_mul_right _ (by omega)) h1
      have := ih _ h2
      refine ⟨this.1, fun v hv => ?_⟩
      have h4 := this.2 v hv
      refine ⟨?_, h4.2⟩
      rw [List.all_cons, h4.1]
      simp [isDig, hc]
    · rw [if_neg hc]
      exact ⟨fun h => (by cases h), fun v h => (by cases h)⟩
theorem atoi_small {a : UInt8} {l : List UInt8} (ha : a = 48 ∨ a = 49) (hl : l.length ≤ 3) : Lib.atoiAll (a :: l) ≠ .range ∧ (∀ v, Lib.atoiAll (a :: l) = .ok v → l.all isDig = true ∧ v = (valF 0 (a :: l) : Int)) ∧ (l.all isDig = true → Lib.atoiAll (a :: l) = .ok (valF 0 (a :: l) : Int)) := by
  have h1 : ¬ (a.toNat = 43 ∨ a.toNat = 45) := by rcases ha with rfl | rfl <;> decide
  have h45 : ¬ a.toNat = 45 := fun h => h1 (.inr h)
  have h43 : ¬ a.toNat = 43 := fun h => h1 (.inl h)
  have hb : (0 + 1) * 10 ^ (a :: l).length ≤ 100000000000000000 := by
    have : 10 ^ (a :: l).length ≤ 10 ^ 4 := Nat.pow_le_pow_right (by omega) (by simp; omega)
    omega
  have hd : isDig a = true := by rcases ha with rfl | rfl <;> decide
  have hs := parse_small (a :: l) 0 hb
  have hlt : ∀ v, Lib.parseUint10 0 (a :: l) = .ok v → v < 100000 := fun v hv => by
    obtain ⟨h3, h4⟩ := hs.2 v hv
    have := valF_lt (a :: l) 0 h3
    have h5 : 10 ^ (a :: l).length ≤ 10 ^ 4 := Nat.pow_le_pow_right (by omega) (by simp; omega)
    omega
  have hok := fun (h : l.all isDig = true) => parse_val (a :: l) 0 (by rw [List.all_cons, hd, h]; rfl) (by
    have := valF_lt (a :: l) 0 (by rw [List.all_cons, hd, h]; rfl)
    have h5 : 10 ^ (a :: l).length ≤ 10 ^ 4 := Nat.pow_le_pow_right (by omega) (by simp; omega)
    omega)
  unfold Lib.atoiAll Lib.parseMag
  simp only [h43, h45, or_self, reduceCtorEq, not_false_eq_true, true_and, false_and, if_false]
  cases hq : Lib.parseUint10 0 (a :: l) with
  | ok v =>
    have := hlt v hq
    simp only
    rw [if_neg (by omega)]
    have h2 := hs.2 v hq
    refine ⟨fun h => (by cases h), fun v' h => ?_, fun _ => by rw [h2.2]⟩
    injection h with h
    have h3 := h2.1
    rw [List.all_cons, Bool.and_eq_true] at h3
    exact ⟨h3.2, by rw [← h, h2.2]⟩
  | range => exact absurd hq hs.1
  | _ =>
    refine ⟨fun h => (by cases h), fun v' h => (by cases h), fun h => ?_⟩
    have h3 := hok h
    rw [hq] at h3; cases h3
end Go.Proofs.YtbhnjnoblkfckaaGreatDoor

-- from XRsP
/- Answers: what they are, and what is said of them; no function of the program. -/
namespace Go.Proofs.YtbhnjnoblkfckaaGreatDoor
open Go.RowKit

def rspB (r : Rp) : Bool :=
  decide (100 ≤ r.code ∧ r.code ≤ 599) && (decide (-1 ≤ r.mx ∧ r.mx ≤ 999999) && (tagB r.tag.data.toList && (decide (0 ≤ r.cod ∧ r.cod ≤ 2) && bodyB r.body.data.toList)))
def keepB (r : Rp) (mask : Int) : Bool := rspB r && (decide (r.code = 200 ∨ r.code = 404) && (decide (0 < r.mx) && ((!r.hide) && inB mask r.cod)))
def timesB (a n : Int) : Bool := decide (0 ≤ a ∧ a ≤ n ∧ n ≤ 999999)
def ageN (a n : Int) : Int := if 0 ≤ a ∧ a ≤ n ∧ n ≤ 999999 then n - a else 0
def freshB (r : Rp) (a n : Int) : Bool := rspB r && (timesB a n && decide (n - a < r.mx))
def mergeR (o r : Rp) : Rp × Bool :=
  if rspB o = true ∧ rspB r = true ∧ r.code = 304 ∧ o.tag.data.toList ≠ [] ∧ r.tag = o.tag then (⟨o.code, r.mx, r.hide, o.tag, o.cod, o.body⟩, true) else (noRp, false)
def codNm (c : Int) : List UInt8 := if c = 0 then nPlain else if c = 1 then nGz else nBr
def lineC (r : Rp) (age : Int) : List UInt8 :=
  [99, 111, 100, 101, 32] ++ numT r.code ++ [32, 99, 111, 100, 105, 110, 103, 32] ++ codNm r.cod ++ [32, 97, 103, 101, 32] ++ numT age
def lineT (r : Rp) : List UInt8 := [116, 97, 103, 32] ++ r.tag.data.toList
def lineB (r : Rp) : List UInt8 := [98, 111, 100, 121, 32] ++ r.body.data.toList
def rspT (r : Rp) (age : Int) : List (List UInt8) :=
  if rspB r = true ∧ 0 ≤ age ∧ age ≤ 999999 then
    lineC r age :: ((if r.tag.data.toList = [] then [] else [lineT r]) ++ (if r.body.data.toList = [] then [] else [lineB r]))
  else []

structure RpOk (r : Rp) : Prop where
  code : 100 ≤ r.code ∧ r.code ≤ 599
  mx : -1 ≤ r.mx ∧ r.mx ≤ 999999
  tag : tagB r.tag.data.toList = true
  cod : 0 ≤ r.cod ∧ r.cod ≤ 2
  body : bodyB r.body.data.toList = true
theorem rspB_iff {r : Rp} : rspB r = true ↔ RpOk r := by
  unfold rspB
  simp only [Bool.and_eq_true, decide_eq_true_eq]
  exact ⟨fun ⟨a, b, c, d, e⟩ => ⟨a, b, c, d, e⟩, fun h => ⟨h.code, h.mx, h.tag, h.cod, h.body⟩⟩
theorem tag_len {l : List UInt8} (h : tagB l = true) : l.length ≤ 12 := by
  unfold tagB at h
  simp only [Bool.or_eq_true, decide_eq_true_eq] at h
  rcases h with rfl | h
  · simp
  · unfold tokB at h
    simp only [Bool.and_eq_true, decide_eq_true_eq] at h
    exact h.1.2
theorem RpOk.tagLe {r : Rp} (h : RpOk r) : r.tag.size ≤ 12 := by rw [size_len]; exact tag_len h.tag
theorem RpOk.bodyLe {r : Rp} (h : RpOk r) : r.body.size ≤ 20 := by
  have := h.body
  unfold bodyB at this
  simp only [Bool.and_eq_true, decide_eq_true_eq] at this
  rw [size_len]; exact this.1

end Go.Proofs.YtbhnjnoblkfckaaGreatDoor

-- from XMaskB
/- Walks: what is in a set of codings. -/
namespace Go.Proofs.YtbhnjnoblkfckaaGreatDoor
open Go.RowKit

theorem inB_ok {m c : Int} (hm : 0 ≤ m ∧ m < 8) : inB m c = ((decide (c = 0) && decide (m % 2 = 1)) || (decide (c = 1) && decide (m / 2 % 2 = 1)) || (decide (c = 2) && decide (m / 4 % 2 = 1))) := by
  unfold inB; rw [decide_eq_true hm, Bool.true_and]
theorem inB_out {m c : Int} (hm : ¬ (0 ≤ m ∧ m < 8)) : inB m c = false := by unfold inB; rw [decide_eq_false hm, Bool.false_and]
theorem inB_no {m c : Int} (hc : c < 0 ∨ 2 < c) : inB m c = false := by
  unfold inB
  rw [decide_eq_false (show ¬ c = 0 from by omega), decide_eq_false (show ¬ c = 1 from by omega), decide_eq_false (show ¬ c = 2 from by omega)]
  simp

theorem and_bits : ∀ m : Fin 8, bits .and .i64 (m.val : Int) 1 = (m.val : Int) % 2 ∧ bits .and .i64 (m.val : Int) 2 = (m.val : Int) / 2 % 2 * 2 ∧ bits .and .i64 (m.val : Int) 4 = (m.val : Int) / 4 % 2 * 4 := by decide
theorem and_int {m : Int} (h : 0 ≤ m ∧ m < 8) : bits .and .i64 m 1 = m % 2 ∧ bits .and .i64 m 2 = m / 2 % 2 * 2 ∧ bits .and .i64 m 4 = m / 4 % 2 * 4 := by
  obtain ⟨n, rfl⟩ := Int.eq_ofNat_of_zero_le h.1
  exact and_bits ⟨n, by omega⟩

set_option maxHeartbeats 800000 in
theorem set_ok (m : Int) (w : World) :
    Calls Tryz.prog 126 #[.int .i64 m] w fun e w' => e = .returned (.bool (decide (0 ≤ m ∧ m < 8))) ∧ w = w' := by
  by_cases h0 : 0 ≤ m
  · by_cases h1 : m < 8
    · rw [decide_eq_true ⟨h0, h1⟩]
      go_enter Tryz.func126, Tryz.ntmps126
      go_wp2
      go_ret
      exact ⟨rfl, rfl⟩
    · rw [decide_eq_false (fun h => h1 h.2)]
      go_enter Tryz.func126, Tryz.ntmps126
      go_wp2
      go_ret
      exact ⟨rfl, rfl⟩
  · rw [decide_eq_false (fun h => h0 h.1)]
    go_enter Tryz.func126, Tryz.ntmps126
    go_wp2
    go_ret
    exact ⟨rfl, rfl⟩

set_option maxHeartbeats 800000 in
theorem coding_ok (c : Int) (w : World) :
    Calls Tryz.prog 124 #[.int .i64 c] w fun e w' => e = .returned (.bool (decide (0 ≤ c ∧ c ≤ 2))) ∧ w = w' := by
  by_cases h0 : 0 ≤ c
  · by_cases h1 : c ≤ 2
    · rw [decide_eq_true ⟨h0, h1⟩]
      go_enter Tryz.func124, Tryz.ntmps124
      go_wp2
      go_ret
      exact ⟨rfl, rfl⟩
    · rw [decide_eq_false (fun h => h1 h.2)]
      go_enter Tryz.func124, Tryz.ntmps124
      go_wp2
      go_ret
      exact ⟨rfl, rfl⟩
  · rw [decide_eq_false (fun h => h0 h.1)]
    go_enter Tryz.func124, Tryz.ntmps124
    go_wp2
    go_ret
    exact ⟨rfl, rfl⟩

set_option maxHeartbeats 1600000 in
theorem impl_has (m c : Int) (w : World) (hm : 0 ≤ m ∧ m < 8) :
    Calls Tryz.prog 127 #[.int .i64 m, .int .i64 c] w fun e w' => e = .returned (.bool (inB m c)) ∧ w = w' := by
  obtain ⟨a0, a1, a2⟩ := and_int hm
  have hI := inB_ok (c := c) hm
  by_cases h0 : 0 ≤ c
  · by_cases h2 : c ≤ 2
    · have hC := fun W => coding_ok c W
      rw [decide_eq_true ⟨h0, h2⟩] at hC
      have HC := Lib.hid hC
      clear hC
      have h3 : c = 0 ∨ c = 1 ∨ c = 2 := by omega
      have h01 : m % 2 = 0 ∨ m % 2 = 1 := by omega
      have h02 : m / 2 % 2 = 0 ∨ m / 2 % 2 = 1 := by omega
      have h04 : m / 4 % 2 = 0 ∨ m / 4 % 2 = 1 := by omega
      have HI := Lib.hid hI
      clear hI
      rcases h3 with rfl | rfl | rfl
      · rcases h01 with h | h
        all_goals
          rw [h] at a0
          have HH := Lib.hid h
          clear h h02 h04 a1 a2
          go_enter Tryz.func127, Tryz.ntmps127
          go_wp2_with fail
          refine (HC.out _).mono ?_
          rintro e w1 ⟨rfl, rfl⟩
          go_wp2
          go_ret
          refine ⟨?_, rfl⟩
          rw [HI.out, HH.out]
          simp
      · rcases h02 with h | h
        all_goals
          rw [h] at a1
          have HH := Lib.hid h
          clear h h01 h04 a0 a2
          go_enter Tryz.func127, Tryz.ntmps127
          go_wp2_with fail
          refine (HC.out _).mono ?_
          rintro e w1 ⟨rfl, rfl⟩
          go_wp2
          go_ret
          refine ⟨?_, rfl⟩
          rw [HI.out, HH.out]
          simp
      · rcases h04 with h | h
        all_goals
          rw [h] at a2
          have HH := Lib.hid h
          clear h h01 h02 a0 a1
          go_enter Tryz.func127, Tryz.ntmps127
          go_wp2_with fail
          refine (HC.out _).mono ?_
          rintro e w1 ⟨rfl, rfl⟩
          go_wp2
          go_ret
          refine ⟨?_, rfl⟩
          rw [HI.out, HH.out]
          simp
    · have hC := fun W => coding_ok c W
      rw [decide_eq_false (fun h => h2 h.2)] at hC
      have HC := Lib.hid hC
      clear hC
      rw [inB_no (.inr (by omega))]
      clear a0 a1 a2 hI
      go_enter Tryz.func127, Tryz.ntmps127
      go_wp2_with fail
      refine (HC.out _).mono ?_
      rintro e w1 ⟨rfl, rfl⟩
      go_wp2
      go_ret
      exact ⟨rfl, rfl⟩
  · have hC := fun W => coding_ok c W
    rw [decide_eq_false (fun h => h0 h.1)] at hC
    have HC := Lib.hid hC
    clear hC
    rw [inB_no (.inl (by omega))]
    clear a0 a1 a2 hI
    go_enter Tryz.func127, Tryz.ntmps127
    go_wp2_with fail
    refine (HC.out _).mono ?_
    rintro e w1 ⟨rfl, rfl⟩
    go_wp2
    go_ret
    exact ⟨rfl, rfl⟩

set_option maxHeartbeats 800000 in
theorem impl_codin (m c : Int) (w : World) :
    Calls Tryz.prog 104 #[.int .i64 m, .int .i64 c] w fun e w' => e = .returned (.bool (inB m c)) ∧ w = w' := by
  have hO := fun W => set_ok m W
  by_cases hm : 0 ≤ m ∧ m < 8
  · have hH := fun W => impl_has m c W hm
    rw [decide_eq_true hm] at hO
    have HO := Lib.hid hO; have HH := Lib.hid hH
    clear hO hH hm
    generalize inB m c = b at *
    go_enter Tryz.func104, Tryz.ntmps104
    go_wp2_with fail
    refine (HO.out _).mono ?_
    rintro e w1 ⟨rfl, rfl⟩
    go_wp2_with fail
    refine (HH.out _).mono ?_
    rintro e w1 ⟨rfl, rfl⟩
    go_wp2
    go_ret
    exact ⟨rfl, rfl⟩
  · rw [decide_eq_false hm] at hO
    rw [inB_out hm]
    have HO := Lib.hid hO
    clear hO hm
    go_enter Tryz.func104, Tryz.ntmps104
    go_wp2_with fail
    refine (HO.out _).mono ?_
    rintro e w1 ⟨rfl, rfl⟩
    go_wp2
    go_ret
    exact ⟨rfl, rfl⟩

set_option maxHeartbeats 800000 in
theorem cod_in1 (n a b : Int) (w : World) :
    Calls Tryz.prog 71 #[.int .i64 n, .int .i64 a, .int .i64 b] w fun e w' => e = .returned (.bool (decide (a ≤ n ∧ n ≤ b))) ∧ w = w' := by
  by_cases h0 : a ≤ n
  · by_cases h1 : n ≤ b
    · rw [decide_eq_true ⟨h0, h1⟩]
      go_enter Tryz.func71, Tryz.ntmps71
      go_wp2
      go_ret
      exact ⟨rfl, rfl⟩
    · rw [decide_eq_false (fun h => h1 h.2)]
      go_enter Tryz.func71, Tryz.ntmps71
      go_wp2
      go_ret
      exact ⟨rfl, rfl⟩
  · rw [decide_eq_false (fun h => h0 h.1)]
    go_enter Tryz.func71, Tryz.ntmps71
    go_wp2
    go_ret
    exact ⟨rfl, rfl⟩

set_option maxHeartbeats 1600000 in
theorem spec_codin (m c : Int) (w : World) :
    Calls Tryz.prog 64 #[.int .i64 m, .int .i64 c] w fun e w' => e = .returned (.bool (inB m c)) ∧ Below w.heap.size w w' := by
  have hO := fun W => cod_in1 m 0 7 W
  have hC := fun W => cod_in1 c 0 2 W
  by_cases hm : 0 ≤ m ∧ m < 8
  · rw [decide_eq_true (show 0 ≤ m ∧ m ≤ 7 from by omega)] at hO
    by_cases hc : 0 ≤ c ∧ c ≤ 2
    · rw [decide_eq_true hc] at hC
      have HO := Lib.hid hO; have HC := Lib.hid hC
      have HI := Lib.hid (inB_ok (c := c) hm)
      have h3 : c = 0 ∨ c = 1 ∨ c = 2 := by omega
      have t1 : m.tmod 2 = m % 2 := Int.tmod_eq_emod_of_nonneg (by omega)
      have t2 : m.tdiv 2 = m / 2 := Int.tdiv_eq_ediv_of_nonneg (by omega)
      have t3 : (m / 2).tmod 2 = m / 2 % 2 := Int.tmod_eq_emod_of_nonneg (by omega)
      have t4 : m.tdiv 4 = m / 4 := Int.tdiv_eq_ediv_of_nonneg (by omega)
      have h4 : m / 4 % 2 = m / 4 := by omega
      have HB := Lib.hid (fun cs => (Below.refl w.heap.size w).alloc (Nat.le_refl _) (.cells cs 3))
      obtain ⟨m0, m1⟩ := hm
      clear hO hC hc
      rcases h3 with rfl | rfl | rfl
      all_goals
        go_enter Tryz.func64, Tryz.ntmps64
        go_wp2_with fail
        refine (HO.out _).mono ?_
        rintro e w1 ⟨rfl, rfl⟩
        go_wp2_with fail
        refine (HC.out _).mono ?_
        rintro e w1 ⟨rfl, rfl⟩
        go_wp2
        go_ret
        refine ⟨?_, HB.out _⟩
        rw [HI.out]
        first
          | (simp; rfl)
          | (simp [h4]; rfl)
    · rw [decide_eq_false hc] at hC
      rw [inB_no (by omega)]
      have HO := Lib.hid hO; have HC := Lib.hid hC
      clear hO hC hc hm
      go_enter Tryz.func64, Tryz.ntmps64
      go_wp2_with fail
      refine (HO.out _).mono ?_
      rintro e w1 ⟨rfl, rfl⟩
      go_wp2_with fail
      refine (HC.out _).mono ?_
      rintro e w1 ⟨rfl, rfl⟩
      go_wp2
      go_ret
      exact ⟨rfl, Below.refl _ _⟩
  · rw [decide_eq_false (show ¬ (0 ≤ m ∧ m ≤ 7) from by omega)] at hO
    rw [inB_out hm]
    have HO := Lib.hid hO
    clear hO hC hm
    go_enter Tryz.func64, Tryz.ntmps64
    go_wp2_with fail
    refine (HO.out _).mono ?_
    rintro e w1 ⟨rfl, rfl⟩
    go_wp2
    go_ret
    exact ⟨rfl, Below.refl _ _⟩
end Go.Proofs.YtbhnjnoblkfckaaGreatDoor

