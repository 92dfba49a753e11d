import Derived.Test.YtbhnjnoblkfckabGreatDoorGA07
import Derived.Test.YtbhnjnoblkfckabGreatDoorGA05
import Derived.Test.YtbhnjnoblkfckabGreatDoorGA01
import Derived.Test.YtbhnjnoblkfckabGreatDoorGA03
import Derived.Test.YtbhnjnoblkfckabGreatDoorGA06
import Derived.Orders
import Derived.RegionTactic
import Derived.WalkKit
import Derived.Test.YtbhnjnoblkfckabGreatDoorGA00
import Derived.Test.YtbhnjnoblkfckabGreatDoorRows
import Derived.WalkSpells
import Derived.WalkLawsBesides
import Derived.BigQuiet
import Derived.Deep.RegionWith
import Derived.Lib.Hide
import Derived.IntWalk
import Derived.Laws.BitsAllLaws
import Derived.Laws.BitsLemmas
import Derived.Deep.RegionHeld3
-- from XCan9
/- Places: their plainest form as the program writes it; the exact law. -/
namespace Go.Proofs.YtbhnjnoblkfckabGreatDoor
open Go.RowKit

theorem resP_bad0 {ys : List UInt8} {seg : Nat} {l : List UInt8} (h : codeL (37 :: l) = none) (h2 : 63 ∉ l) : resP ys seg (37 :: l) = none := by
  unfold resP
  rw [cutL_cons (by decide), cutL_no _ _ h2, plainL_bad h]
theorem resQ_bad0 {ys : List UInt8} {seg : Nat} {l : List UInt8} (h : codeL (37 :: l) = none) : resQ ys seg (37 :: l) = none := by
  unfold resQ
  rw [plainL_bad h]; simp
theorem res_func (b : Nat) (q : Bool) : ∃ N, bkV b q = .func (.func N) #[.pointer (some ⟨b, 0, none⟩)] #[] := by
  cases q <;> exact ⟨_, rfl⟩
theorem cend {b : Nat} {R : Option (List UInt8)} {st : CS} {ys : List UInt8} {seg high : Nat} (h : CInv R st ys seg high []) (h0 : st ≠ .root) :
    (resOf b st = .nilFunc ∧ 0 < ys.length ∧ seg ≤ ys.length ∧ R = if dotL (ys.drop seg) = true then none else some ys) ∨ ((∃ N, resOf b st = .func (.func N) #[.pointer (some ⟨b, 0, none⟩)] #[]) ∧ R = none) := by
  cases st with
  | root => exact absurd rfl h0
  | path => obtain ⟨h1, h2⟩ := h; exact .inl ⟨rfl, h1.ne, h1.le, by rw [h2, resP_end h1]⟩
  | query => obtain ⟨h1, h2⟩ := h; exact .inl ⟨rfl, h1.ne, h1.le, by rw [h2, resQ_end]⟩
  | d1 q =>
    refine .inr ⟨res_func b q, ?_⟩
    cases q with
    | true => obtain ⟨h1, h2⟩ := h; rw [h2, resQ_bad0 rfl]
    | false => obtain ⟨h1, h2⟩ := h; rw [h2, resP_bad0 rfl (by simp)]
  | d2 q =>
    obtain ⟨a, ha, h⟩ := h
    refine .inr ⟨res_func b q, ?_⟩
    cases q with
    | true => obtain ⟨h1, h2⟩ := h; rw [h2, resQ_bad0 rfl]
    | false => obtain ⟨h1, h2⟩ := h; rw [h2, resP_bad0 rfl (by simpa using (hex_ne ha (by decide : hexV 63 = none)).symm)]

set_option maxHeartbeats 1600000 in
theorem c_whole_nil (b : Nat) (ys : List UInt8) (seg high : Nat) (w : World) (h : CAt w b ys seg .nilFunc high) (hn : ys.length ≤ 1000) (h0 : 0 < ys.length) (hs : seg ≤ ys.length) :
    Calls Tryz.prog 149 #[.pointer (some ⟨b, 0, none⟩)] w fun e w' => e = .returned (.bool (!dotL (ys.drop seg))) ∧ ∃ n, w' = w.drewN n := by
  have c1 := c_dotted b ys seg high .nilFunc w h hn h0 hs
  have hq1 := step_nil
  obtain ⟨v, hh, ho⟩ := h
  have k2 : w.cell? ⟨b, 2, none⟩ = some .nilFunc := by simp [World.cell?, hh]
  clear hh ho
  generalize dotL (ys.drop seg) = d at *
  cases d
  all_goals go_enter Tryz.func149, Tryz.ntmps149
  all_goals go_wp2_with fail
  all_goals refine c1.mono ?_
  all_goals rintro e w1 ⟨rfl, n, rfl⟩
  all_goals go_wp2
  all_goals go_ret
  all_goals exact ⟨rfl, n, rfl⟩

set_option maxHeartbeats 1600000 in
theorem c_whole_open (b : Nat) (ys : List UInt8) (seg high N : Nat) (w : World) (h : CAt w b ys seg (.func (.func N) #[.pointer (some ⟨b, 0, none⟩)] #[]) high) :
    Calls Tryz.prog 149 #[.pointer (some ⟨b, 0, none⟩)] w fun e w' => e = .returned (.bool false) ∧ w = w' := by
  have hq2 := step_not_nil
  obtain ⟨v, hh, ho⟩ := h
  have k2 : w.cell? ⟨b, 2, none⟩ = some (.func (.func N) #[.pointer (some ⟨b, 0, none⟩)] #[]) := by simp [World.cell?, hh]
  clear hh ho
  go_enter Tryz.func149, Tryz.ntmps149
  go_wp2
  go_ret
  exact ⟨rfl, rfl⟩

theorem made_c (w : World) : CAt (w.alloc (.cells #[.slice none 0 0, .int .i64 0, .nilFunc, .int .u8 0] 170)) w.heap.size [] 0 .nilFunc 0 :=
  ⟨.slice none 0 0, heap_alloc_new w _, World.ownsRow_nil _ _ _ _⟩

set_option maxRecDepth 100000 in
set_option maxHeartbeats 3200000 in
theorem impl_canon (s : ByteArray) (w : World) (hs : s.size ≤ 281474976710656) (hcls : Cls w) :
    Calls Tryz.prog 112 #[.string s] w fun e w' => e = .returned (canV (canonL s.data.toList)) ∧ Below w.heap.size w w' := by
  obtain ⟨R, hR⟩ : ∃ R, R = canonL s.data.toList := ⟨_, rfl⟩
  rw [← hR]
  have hbad : R = none → canV R = .tuple #[.string ⟨#[]⟩, .bool false] := fun h => by rw [h]; rfl
  have hgood : ∀ ys, R = some ys → canV R = .tuple #[.string ⟨ys.toArray⟩, .bool true] := fun ys h => by rw [h]; rfl
  unfold canonL at hR
  rw [← size_len] at hR
  have hemp : (s.toList == ([] : List UInt8)) = decide (s.size = 0) := by
    rw [Lib.toList_data, size_len, Bool.eq_iff_iff, beq_iff_eq, decide_eq_true_iff, ← List.length_eq_zero_iff]
  by_cases h0 : s.size = 0
  · rw [if_pos (.inl h0)] at hR
    rw [hbad hR]
    rw [show decide (s.size = 0) = true from by simpa using h0] at hemp
    clear hbad hgood hR hcls h0
    go_enter Tryz.func112, Tryz.ntmps112
    go_wp2
    go_ret2
    exact ⟨rfl, Below.refl _ _⟩
  · rw [show decide (s.size = 0) = false from by simpa using h0] at hemp
    by_cases h40 : 40 < s.size
    · rw [if_pos (.inr h40)] at hR
      rw [hbad hR]
      clear hbad hgood hR hcls h0
      go_enter Tryz.func112, Tryz.ntmps112
      go_wp2
      go_ret2
      exact ⟨rfl, Below.refl _ _⟩
    · rw [if_neg (by omega)] at hR
      have hbel := (Below.refl w.heap.size w).alloc (Nat.le_refl _) (.cells #[.slice none 0 0, .int .i64 0, .nilFunc, .int .u8 0] 170)
      have hcls2 := hcls.below hbel (Nat.le_refl _)
      have c1 := takes_c w.heap.size s R hR _ (made_c w) hcls2 hcls.1 (by omega) (by omega)
      have hmf : ∀ (fn : Fn) (first cap : Array Value) (w : World), (Instr.makeFunc fn first cap).run Tryz.prog w = .ok (.func fn first cap) w := fun _ _ _ _ => rfl
      have HB := Lib.hid hbad
      have HG := Lib.hid hgood
      unfold cV at c1
      clear hR hcls hcls2 hbad hgood h0
      go_enter Tryz.func112, Tryz.ntmps112
      go_wp2_with fail
      refine c1.mono ?_
      rintro e w1 ⟨hb1, ⟨rfl, hn⟩ | ⟨rfl, st, ys, seg, high, hne, hat, hin, hlen⟩⟩
      · have hb2 := hbel.trans hb1
        have HN := Lib.hid (HB.out hn)
        clear c1 hn
        go_wp2
        go_ret2
        exact ⟨congrArg Ending.returned HN.out.symm, hb2⟩
      · have hb2 := hbel.trans hb1
        clear c1
        rcases cend (b := w.heap.size) hin hne with ⟨hr, h1, h2, h3⟩ | ⟨⟨N, hr⟩, h3⟩
        · rw [hr] at hat
          have c2 := c_whole_nil w.heap.size ys seg high w1 hat (by omega) h1 h2
          obtain ⟨v, hh, hown⟩ := hat
          obtain ⟨g, cap, rfl⟩ := own_form hown h1
          have hcv : ∀ n, (convert 37 9 (.slice (some ⟨g, 0, none⟩) ys.length cap)).run Tryz.prog (w1.drewN n) = .ok (.string ⟨ys.toArray⟩) (w1.drewN n) := fun n =>
            run_convert_bytes_back (P := Tryz.prog) (w1.drewN n) 37 9 5 ⟨g, 0, none⟩ cap ys Tryz.underlying37 Tryz.underlying5 Tryz.underlying9 (fun j hj => hown.cells (g := g) rfl j _ (u8s_at hj))
          have k0 : ∀ n, (w1.drewN n).cell? ⟨w.heap.size, 0, none⟩ = some (.slice (some ⟨g, 0, none⟩) ys.length cap) := fun n => (show w1.cell? _ = _ by simp [World.cell?, hh])
          clear hin hh hown hr
          cases hd : dotL (ys.drop seg) with
          | true =>
            rw [hd] at c2 h3
            have HN := Lib.hid (HB.out (by simpa using h3))
            clear h3 hd
            go_wp2_with fail
            refine c2.mono ?_
            rintro e w2 ⟨rfl, n, rfl⟩
            go_wp2
            go_ret2
            exact ⟨congrArg Ending.returned HN.out.symm, below_drewN hb2⟩
          | false =>
            rw [hd] at c2 h3
            have HN := Lib.hid (HG.out ys (by simpa using h3))
            clear h3 hd
            go_wp2_with fail
            refine c2.mono ?_
            rintro e w2 ⟨rfl, n, rfl⟩
            have k0' := k0 n
            have hcv' := hcv n
            clear k0 hcv c2
            go_wp2
            go_ret2
            exact ⟨congrArg Ending.returned HN.out.symm, below_drewN hb2⟩
        · rw [hr] at hat
          have c2 := c_whole_open w.heap.size ys seg high N w1 hat
          have HN := Lib.hid (HB.out h3)
          clear h3 hin hat hr
          go_wp2_with fail
          refine c2.mono ?_
          rintro e w2 ⟨rfl, rfl⟩
          go_wp2
          go_ret2
          exact ⟨congrArg Ending.returned HN.out.symm, hb2⟩

namespace Lw
end Lw
end Go.Proofs.YtbhnjnoblkfckabGreatDoor

-- from XHelI
/- Walks: verbs, names of a request's own, bodies, the address, by the program. -/
namespace Go.Proofs.YtbhnjnoblkfckabGreatDoor
open Go.RowKit

set_option maxHeartbeats 400000 in
theorem impl_verb (s : ByteArray) (w : World) :
    Calls Tryz.prog 79 #[.string s] w fun e w' => e = .returned (.bool (verbB s.data.toList)) ∧ w = w' := by
  have he : verbB s.data.toList = (s.toList == [103, 101, 116] || s.toList == [112, 117, 116] || s.toList == [112, 117, 114, 103, 101]) := by rw [Lib.toList_data]; rfl
  have HE := Lib.hid he; clear he
  go_enter Tryz.func79, Tryz.ntmps79
  go_wp2
  all_goals go_ret
  all_goals (refine ⟨?_, rfl⟩; rw [HE.out]; clear HE; simp_all)

set_option maxHeartbeats 400000 in
theorem impl_own (s : ByteArray) (w : World) :
    Calls Tryz.prog 127 #[.string s] w fun e w' => e = .returned (.bool (ownB s.data.toList)) ∧ w = w' := by
  have he : ownB s.data.toList = (s.toList == [104, 111, 115, 116] || s.toList == [108, 101, 110, 103, 116, 104] || s.toList == [116, 114, 97, 110, 115, 102, 101, 114]) := by rw [Lib.toList_data]; rfl
  have HE := Lib.hid he; clear he
  go_enter Tryz.func127, Tryz.ntmps127
  go_wp2
  all_goals go_ret
  all_goals (refine ⟨?_, rfl⟩; rw [HE.out]; clear HE; simp_all)

/-- How long a body may be. -/
def mostN (verb : List UInt8) : Nat := if verb = bPut then 20 else 0
set_option maxHeartbeats 400000 in
theorem impl_most (s : ByteArray) (w : World) :
    Calls Tryz.prog 83 #[.string s] w fun e w' => e = .returned (.int .i64 (mostN s.data.toList : Nat)) ∧ w = w' := by
  by_cases h : s.data.toList = bPut
  · have he : (s.toList == [112, 117, 116]) = true := by rw [Lib.toList_data, h]; rfl
    have hm : mostN s.data.toList = 20 := if_pos h
    rw [hm]
    clear h hm
    go_enter Tryz.func83, Tryz.ntmps83
    go_wp2
    go_ret
    exact ⟨rfl, rfl⟩
  · have he : (s.toList == [112, 117, 116]) = false := by rw [Lib.toList_data]; simpa [bPut] using h
    have hm : mostN s.data.toList = 0 := if_neg h
    rw [hm]
    clear h hm
    go_enter Tryz.func83, Tryz.ntmps83
    go_wp2
    go_ret
    exact ⟨rfl, rfl⟩

def bodyP (verb body : List UInt8) : Bool := decide (body.length ≤ mostN verb) && printB body
theorem impl_body (v s : ByteArray) (w : World) (hs : s.size ≤ maxLen) :
    Calls Tryz.prog 82 #[.string s, .int .i64 (mostN v.data.toList : Nat)] w fun e w' => e = .returned (.bool (bodyP v.data.toList s.data.toList)) ∧ w = w' :=
  impl_bodyok s (mostN v.data.toList) w hs
def addrB (t h : List UInt8) : Bool := decide (canonL t = some t) && hostB h
set_option maxHeartbeats 800000 in
theorem impl_target (t : ByteArray) (w : World) (ht : t.size ≤ 1048576) (hcls : Cls w) :
    Calls Tryz.prog 65 #[.string t] w fun e w' => e = .returned (.bool (decide (canonL t.data.toList = some t.data.toList))) ∧ Below w.heap.size w w' := by
  have hU := fun W hW => impl_canon t W (by omega) hW
  obtain ⟨T, okT, hT, hTT⟩ := can_parts t
  rw [hT] at hU
  have hdef : decide (canonL t.data.toList = some t.data.toList) = (okT && decide (T = t)) := by rw [Bool.eq_iff_iff]; simpa using hTT.symm
  rw [hdef]
  clear hdef hTT hT
  go_enter Tryz.func65, Tryz.ntmps65
  go_wp2_with fail
  refine (hU _ hcls).mono ?_
  rintro e w1 ⟨rfl, hb1⟩
  have HB := Lib.hid hb1
  clear hb1 hU hcls
  cases okT
  · go_wp2
    go_ret
    exact ⟨rfl, HB.out⟩
  · by_cases e1 : T = t
    · subst e1
      have se := str_same T
      go_wp2
      go_ret
      exact ⟨by simp, HB.out⟩
    · have se := str_ne e1
      have E := Lib.hid e1
      clear e1
      go_wp2
      go_ret
      exact ⟨by simp [E.out], HB.out⟩
end Go.Proofs.YtbhnjnoblkfckabGreatDoor

-- from XHedV
/- Walks: a request, written, by the specification. -/
namespace Go.Proofs.YtbhnjnoblkfckabGreatDoor
open Go.RowKit

end Go.Proofs.YtbhnjnoblkfckabGreatDoor

-- from XReg
/- A region that draws its order, by what each operation leaves for the others: one proof an operation, whatever the order; no function of the program. -/
namespace Go.Proofs.YtbhnjnoblkfckabGreatDoor

/-- What operation i waits for. -/
def deps (ops : Array Oper) (i : Nat) : List Nat := ((ops[i]?).map fun o => (o.after.toList.filter (Region.binds .any)).map (·.on)).getD []
def upd (u : Nat → Value) (i : Nat) (v : Value) : Nat → Value := fun j => if j = i then v else u j
/-- All that l waits for, f steps deep. -/
def ancs (ops : Array Oper) : Nat → List Nat → List Nat
  | 0, l => l
  | f + 1, l => ancs ops f (l ++ l.flatMap (deps ops))
def ordB (ops : Array Oper) : Bool := (List.range ops.size).all fun i => (deps ops i).all fun j => decide (j < i)
def lastB (ops : Array Oper) (n : Nat) : Bool := (List.range n).all fun j => (ancs ops n (deps ops n)).contains j

def On (listed : Array Bool) (j : Nat) : Prop := listed.getD j false = true

theorem ready_at {ops : Array Oper} {listed : Array Bool} (hs : listed.size = ops.size) {i : Nat} (h : i ∈ Region.ready .any ops listed) : i < ops.size ∧ ¬ On listed i ∧ ∀ j ∈ deps ops i, On listed j := by
  unfold Region.ready at h
  rw [List.mem_filter] at h
  obtain ⟨h1, h2⟩ := h
  have hi : i < ops.size := List.mem_range.1 h1
  rw [Bool.and_eq_true] at h2
  obtain ⟨h2, h3⟩ := h2
  refine ⟨hi, ?_, ?_⟩
  · intro hon
    unfold On at hon
    have hi' : i < listed.size := by omega
    rw [Array.getD_eq_getD_getElem?, Array.getElem?_eq_getElem hi'] at h2 hon
    simp at h2 hon
    rw [hon] at h2; cases h2
  · intro j hj
    unfold deps at hj
    rw [Array.getElem?_eq_getElem hi] at hj h3
    simp only [Option.map_some, Option.getD_some, List.mem_map, List.mem_filter] at hj
    obtain ⟨e, ⟨he1, he2⟩, rfl⟩ := hj
    simp only [Option.map_some, Option.getD_some, Array.all_eq_true'] at h3
    have := h3 e (by simpa using he1)
    rw [he2] at this
    simpa [On] using this

theorem ready_mk {ops : Array Oper} {listed : Array Bool} (hs : listed.size = ops.size) {i : Nat} (hi : i < ops.size) (h1 : ¬ On listed i) (h2 : ∀ j ∈ deps ops i, On listed j) : i ∈ Region.ready .any ops listed := by
  unfold Region.ready
  rw [List.mem_filter]
  refine ⟨List.mem_range.2 hi, ?_⟩
  rw [Bool.and_eq_true]
  constructor
  · unfold On at h1
    have hi' : i < listed.size := by omega
    rw [Array.getD_eq_getD_getElem?, Array.getElem?_eq_getElem hi'] at h1 ⊢
    simpa using h1
  · unfold deps at h2
    rw [Array.getElem?_eq_getElem hi] at h2 ⊢
    simp only [Option.map_some, Option.getD_some, List.mem_map, List.mem_filter] at h2 ⊢
    simp only [Array.all_eq_true']
    intro e he
    cases hb : Region.binds .any e with
    | false => simp
    | true =>
      have := h2 e.on ⟨e, ⟨by simpa using he, hb⟩, rfl⟩
      unfold On at this
      simp [this]

theorem all_on {ops : Array Oper} {listed : Array Bool} (hs : listed.size = ops.size) (ho : ordB ops = true) (hr : Region.ready .any ops listed = []) : ∀ i, i < ops.size → On listed i := by
  intro i
  induction i using Nat.strongRecOn with
  | _ i ih =>
    intro hi
    refine Classical.byContradiction fun hn => ?_
    have : i ∈ Region.ready .any ops listed := ready_mk hs hi hn fun j hj => by
      unfold ordB at ho
      rw [List.all_eq_true] at ho
      have h1 := ho i (List.mem_range.2 hi)
      rw [List.all_eq_true] at h1
      have h2 := h1 j hj
      have hj : j < i := by simpa using h2
      exact ih j hj (by omega)
    rw [hr] at this
    cases this

theorem on_set {listed : Array Bool} {i j : Nat} (hi : i < listed.size) : On (listed.setIfInBounds i true) j ↔ j = i ∨ On listed j := by
  unfold On
  rw [Array.getD_eq_getD_getElem?, Array.getD_eq_getD_getElem?, Array.getElem?_setIfInBounds]
  by_cases h : j = i
  · subst h; simp [hi]
  · simp [h, Ne.symm h]

theorem ancs_on {ops : Array Oper} {listed : Array Bool} (hc : ∀ i, On listed i → ∀ j ∈ deps ops i, On listed j) : ∀ (f : Nat) (l : List Nat), (∀ j ∈ l, On listed j) → ∀ j ∈ ancs ops f l, On listed j := by
  intro f
  induction f with
  | zero => intro l h; exact h
  | succ f ih =>
    intro l h
    refine ih _ fun j hj => ?_
    rcases List.mem_append.1 hj with hj | hj
    · exact h j hj
    · obtain ⟨i, hi, hj⟩ := List.mem_flatMap.1 hj
      exact hc i (h i hi) j hj

theorem count_set {listed : Array Bool} {i : Nat} (hi : i < listed.size) (hn : ¬ On listed i) : (listed.setIfInBounds i true).toList.count true = listed.toList.count true + 1 := by
  have hset : (listed.setIfInBounds i true).toList = listed.toList.set i true := by simp
  have hf : listed.toList[i]'(by simpa using hi) = false := by
    unfold On at hn
    rw [Array.getD_eq_getD_getElem?, Array.getElem?_eq_getElem hi] at hn
    simpa using hn
  rw [hset, List.count_set (by simpa using hi), hf]
  simp

theorem wpAny_inv {P : Program} {ops : Array Oper} {Q : Exit → Act → World → Prop} {md : Region.Mode} (Inv : Array Bool → Act → World → Prop)
    (hstep : ∀ (listed : Array Bool) a w, listed.size = ops.size → Inv listed a w → ∀ i ∈ Region.ready md ops listed, wpOp P ops Q i (fun a' w' => Inv (listed.setIfInBounds i true) a' w') a w)
    (hend : ∀ (listed : Array Bool) a w, listed.size = ops.size → Inv listed a w → Region.ready md ops listed = [] → Q .normal a w) :
    ∀ (fuel : Nat) (listed : Array Bool) (a : Act) (w : World), listed.size = ops.size → listed.toList.count false ≤ fuel → Inv listed a w → wpAny P md ops Q fuel listed a w := by
  intro fuel
  induction fuel with
  | zero =>
    intro listed a w hs hc h
    have hall : ∀ b ∈ listed.toList, b = true := fun b hb => by
      cases b with
      | true => rfl
      | false => exact absurd (List.count_pos_iff.2 hb) (by omega)
    have hr : Region.ready md ops listed = [] := by
      unfold Region.ready
      rw [List.filter_eq_nil_iff]
      intro i hi
      have hi' : i < listed.size := by rw [hs]; exact List.mem_range.1 hi
      have : listed.getD i true = true := by
        rw [Array.getD_eq_getD_getElem?, Array.getElem?_eq_getElem hi']
        exact hall _ (by simp)
      simp [this]
    exact ⟨hr, hend _ _ _ hs h hr⟩
  | succ fuel ih =>
    intro listed a w hs hc h
    refine ⟨fun hr => hend _ _ _ hs h hr, fun i hi => ?_⟩
    have hready := hi
    unfold Region.ready at hready
    rw [List.mem_filter] at hready
    have hi' : i < listed.size := by rw [hs]; exact List.mem_range.1 hready.1
    have hf : listed[i] = false := by
      have := hready.2
      rw [Bool.and_eq_true] at this
      have h1 := this.1
      rw [Array.getD_eq_getD_getElem?, Array.getElem?_eq_getElem hi'] at h1
      simpa using h1
    refine wpOp_mono (fun a' w' h' => ih _ a' w' (by simpa using hs) ?_ h') (hstep listed a w hs h i hi)
    have hset : (listed.setIfInBounds i true).toList = listed.toList.set i true := by simp
    rw [hset, List.count_set (by simpa using hi')]
    have hm : 0 < listed.toList.count false := List.count_pos_iff.2 (by rw [← hf]; simp)
    have hg : listed.toList[i]'(by simpa using hi') = false := by simpa using hf
    rw [hg]
    simp only [beq_self_eq_true, if_true, show ((true == false) = true) = False from by simp, if_false]
    omega

theorem wp_region_inv {P : Program} {ops : Array Oper} {Q : Exit → Act → World → Prop} {id : Nat} {a : Act} {w : World} (hm : P.follows .mixedOrders = true) (Inv : Array Bool → Act → World → Prop)
    (h0 : Inv (Array.replicate ops.size false) a w.drew)
    (hstep : ∀ (listed : Array Bool) a w, listed.size = ops.size → Inv listed a w → ∀ i ∈ Region.ready .any ops listed, wpOp P ops Q i (fun a' w' => Inv (listed.setIfInBounds i true) a' w') a w)
    (hend : ∀ (listed : Array Bool) a w, listed.size = ops.size → Inv listed a w → Region.ready .any ops listed = [] → Q .normal a w) : (Code.region id ops true).wp P Q a w :=
  wp_region_any hm (wpAny_inv Inv hstep hend ops.size _ _ _ (by simp) (by simp) h0)

theorem count_le {listed : Array Bool} {i : Nat} (hi : i < listed.size) (hn : ¬ On listed i) : listed.toList.count true < listed.size := by
  have h := count_set hi hn
  have h2 := List.count_le_length (a := true) (l := (listed.setIfInBounds i true).toList)
  rw [h] at h2
  have h3 : (listed.setIfInBounds i true).toList.length = listed.size := by simp
  omega

/-- A region whose last operation waits for all others. -/
theorem wp_region_last {P : Program} {ops : Array Oper} {Q : Exit → Act → World → Prop} {id : Nat} {w : World} (hm : P.follows .mixedOrders = true) (n : Nat) (hn : ops.size = n + 1) (ho : ordB ops = true) (hl : lastB ops n = true)
    (mk : (Nat → Value) → Act) (C : Nat → World → Prop) (R : Nat → Value → World → Prop) (le : World → World → Prop) (u0 : Nat → Value)
    (h0 : C 0 w.drew) (hst : ∀ i v w w', i < n → R i v w → le w w' → R i v w')
    (hstep : ∀ i, i < n → ∀ (u : Nat → Value) (w : World) (k : Nat), k ≤ n → C k w → (∀ j ∈ deps ops i, R j (u j) w) → wpOp P ops Q i (fun a' w' => ∃ v, a' = mk (upd u i v) ∧ R i v w' ∧ le w w' ∧ C (k + 1) w') (mk u) w)
    (hlast : ∀ (u : Nat → Value) (w : World) (k : Nat), k ≤ n → C k w → (∀ j, j < n → R j (u j) w) → wpOp P ops Q n (fun a' w' => Q .normal a' w') (mk u) w) :
    (Code.region id ops true).wp P Q (mk u0) w := by
  have hord : ∀ i, i < ops.size → ∀ j ∈ deps ops i, j < i := fun i hi j hj => by
    unfold ordB at ho
    rw [List.all_eq_true] at ho
    have h1 := ho i (List.mem_range.2 hi)
    rw [List.all_eq_true] at h1
    simpa using h1 j hj
  refine wp_region_inv hm (fun listed a w => (∀ i, On listed i → ∀ j ∈ deps ops i, On listed j) ∧ (On listed n → Q .normal a w) ∧ (¬ On listed n → ∃ u, a = mk u ∧ C (listed.toList.count true) w ∧ ∀ i, i < n → On listed i → R i (u i) w)) ?_ ?_ ?_
  · refine ⟨fun i hi => ?_, fun h => ?_, fun _ => ⟨u0, rfl, ?_, fun i _ hi => ?_⟩⟩
    · unfold On at hi; rw [Array.getD_eq_getD_getElem?, Array.getElem?_replicate] at hi; split at hi <;> simp at hi
    · unfold On at h; rw [Array.getD_eq_getD_getElem?, Array.getElem?_replicate] at h; split at h <;> simp at h
    · rw [show (Array.replicate ops.size false).toList.count true = 0 from by rw [Array.toList_replicate, List.count_replicate]; simp]; exact h0
    · unfold On at hi; rw [Array.getD_eq_getD_getElem?, Array.getElem?_replicate] at hi; split at hi <;> simp at hi
  · intro listed a w hs ⟨hc, hA, hB⟩ i hi
    obtain ⟨hi1, hi2, hi3⟩ := ready_at hs hi
    have hcov : (∀ j ∈ deps ops n, On listed j) → ∀ j, j < n → On listed j := fun hd j hj => by
      unfold lastB at hl
      rw [List.all_eq_true] at hl
      have h1 := hl j (List.mem_range.2 hj)
      exact ancs_on hc _ _ hd j (by simpa using h1)
    have hnn : ¬ On listed n := fun h => by
      rcases Nat.lt_or_ge i n with hin | hin
      · exact hi2 (hcov (hc n h) i hin)
      · have : i = n := by omega
        subst this; exact hi2 h
    obtain ⟨u, rfl, hC, hR⟩ := hB hnn
    have hi' : i < listed.size := by omega
    have hcl : ∀ i', On (listed.setIfInBounds i true) i' → ∀ j ∈ deps ops i', On (listed.setIfInBounds i true) j := fun i' h j hj => by
      rw [on_set hi'] at h ⊢
      rcases h with rfl | h
      · exact .inr (hi3 j hj)
      · exact .inr (hc i' h j hj)
    have hk : listed.toList.count true ≤ n := by have := count_le hi' hi2; omega
    rcases Nat.lt_or_ge i n with hin | hin
    · refine wpOp_mono ?_ (hstep i hin u w _ hk hC (fun j hj => hR j (by have := hord i hi1 j hj; omega) (hi3 j hj)))
      rintro a' w' ⟨v, rfl, hRi, hle, hC'⟩
      refine ⟨hcl, fun h => ?_, fun _ => ⟨_, rfl, by rw [count_set hi' hi2]; exact hC', fun j hj hon => ?_⟩⟩
      · rw [on_set hi'] at h
        rcases h with h | h
        · omega
        · exact absurd h hnn
      · unfold upd
        by_cases e : j = i
        · subst e; rw [if_pos rfl]; exact hRi
        · rw [if_neg e]
          rw [on_set hi'] at hon
          rcases hon with h | h
          · exact absurd h e
          · exact hst j _ _ _ hj (hR j hj h) hle
    · have hin : i = n := by omega
      subst hin
      have hall := hcov hi3
      refine wpOp_mono ?_ (hlast u w _ hk hC (fun j hj => hR j hj (hall j hj)))
      intro a' w' hQ
      exact ⟨hcl, fun _ => hQ, fun h => absurd ((on_set hi').2 (.inl rfl)) h⟩
  · intro listed a w hs ⟨_, hA, _⟩ hr
    exact hA (all_on hs ho hr n (by omega))

/-- A region, whatever its last operation. -/
theorem wp_region_all {P : Program} {ops : Array Oper} {Q : Exit → Act → World → Prop} {id : Nat} {w : World} (hm : P.follows .mixedOrders = true) (n : Nat) (hn : ops.size = n) (ho : ordB ops = true)
    (mk : (Nat → Value) → Act) (C : Nat → World → Prop) (R : Nat → Value → World → Prop) (le : World → World → Prop) (u0 : Nat → Value)
    (h0 : C 0 w.drew) (hst : ∀ i v w w', i < n → R i v w → le w w' → R i v w')
    (hstep : ∀ i, i < n → ∀ (u : Nat → Value) (w : World) (k : Nat), k < n → C k w → (∀ j ∈ deps ops i, R j (u j) w) → wpOp P ops Q i (fun a' w' => ∃ v, a' = mk (upd u i v) ∧ R i v w' ∧ le w w' ∧ C (k + 1) w') (mk u) w)
    (hend : ∀ (u : Nat → Value) (w : World) (k : Nat), k ≤ n → C k w → (∀ j, j < n → R j (u j) w) → Q .normal (mk u) w) :
    (Code.region id ops true).wp P Q (mk u0) w := by
  refine wp_region_inv hm (fun listed a w => ∃ u, a = mk u ∧ C (listed.toList.count true) w ∧ ∀ i, i < n → On listed i → R i (u i) w) ?_ ?_ ?_
  · refine ⟨u0, rfl, ?_, fun i _ hi => ?_⟩
    · rw [show (Array.replicate ops.size false).toList.count true = 0 from by rw [Array.toList_replicate, List.count_replicate]; simp]; exact h0
    · unfold On at hi; rw [Array.getD_eq_getD_getElem?, Array.getElem?_replicate] at hi; split at hi <;> simp at hi
  · rintro listed a w hs ⟨u, rfl, hC, hR⟩ i hi
    obtain ⟨hi1, hi2, hi3⟩ := ready_at hs hi
    have hi' : i < listed.size := by omega
    have hk : listed.toList.count true < n := by have := count_le hi' hi2; omega
    have hord : ∀ j ∈ deps ops i, j < i := fun j hj => by
      unfold ordB at ho
      rw [List.all_eq_true] at ho
      have h1 := ho i (List.mem_range.2 hi1)
      rw [List.all_eq_true] at h1
      simpa using h1 j hj
    refine wpOp_mono ?_ (hstep i (by omega) u w _ hk hC (fun j hj => hR j (by have := hord j hj; omega) (hi3 j hj)))
    rintro a' w' ⟨v, rfl, hRi, hle, hC'⟩
    refine ⟨_, rfl, by rw [count_set hi' hi2]; exact hC', fun j hj hon => ?_⟩
    unfold upd
    by_cases e : j = i
    · subst e; rw [if_pos rfl]; exact hRi
    · rw [if_neg e]
      rw [on_set hi'] at hon
      rcases hon with h | h
      · exact absurd h e
      · exact hst j _ _ _ hj (hR j hj h) hle
  · rintro listed a w hs ⟨u, rfl, hC, hR⟩ hr
    have hall := all_on hs ho hr
    have hk : listed.toList.count true ≤ n := by
      have h1 := List.count_le_length (a := true) (l := listed.toList)
      have h3 : listed.toList.length = listed.size := by simp
      omega
    exact hend u w _ hk hC fun j hj => hR j hj (hall j (by omega))
def depB (ops : Array Oper) (i j : Nat) : Bool := (deps ops i).contains j
theorem dep_of {ops : Array Oper} {i j : Nat} (h : depB ops i j = true) : j ∈ deps ops i := by simpa [depB] using h
end Go.Proofs.YtbhnjnoblkfckabGreatDoor

-- from XDraw
/- Walks: the drawing of inputs: the reader of a code. -/
namespace Go.Proofs.YtbhnjnoblkfckabGreatDoor
open Go.RowKit

/-- The code that a reader stands over: nothing, or a row of bytes below block B. -/
def CodeAt (w : World) (B : Nat) (A : Option Addr) (n c : Nat) : Prop :=
  n = 0 ∨ ∃ b o, A = some ⟨b, o, none⟩ ∧ b < B ∧ n ≤ 2000 ∧ n ≤ c ∧ c ≤ maxLen ∧ ∀ j, j < n → ∃ x : UInt8, w.cell? ⟨b, o + j, none⟩ = some (.int .u8 (x.toNat : Int))

/-- A reader at block g, that has picked at most m times. -/
def RdAt (w : World) (B g m : Nat) : Prop :=
  B ≤ g ∧ ∃ A n c p, w.heap[g]? = some (.cells #[.slice A n c, .int .i64 ((p : Nat) : Int)] 121 (0, 0)) ∧ p ≤ m ∧ CodeAt w B A n c

theorem CodeAt.keep {w w' : World} {B : Nat} {A : Option Addr} {n c : Nat} (h : CodeAt w B A n c) (hk : ∀ b, b < B → w'.heap[b]? = w.heap[b]?) : CodeAt w' B A n c := by
  rcases h with h | ⟨b, o, rfl, h1, h2, h3, h4, h5⟩
  · exact .inl h
  · refine .inr ⟨b, o, rfl, h1, h2, h3, h4, fun j hj => ?_⟩
    obtain ⟨x, hx⟩ := h5 j hj
    exact ⟨x, (World.cell?_of_block (w := w) (hk b h1)).trans hx⟩

theorem RdAt.keep {w w' : World} {B g m : Nat} (h : RdAt w B g m) (hk : ∀ b, b ≤ g → w'.heap[b]? = w.heap[b]?) : RdAt w' B g m := by
  obtain ⟨h1, A, n, c, p, h2, h3, h4⟩ := h
  exact ⟨h1, A, n, c, p, (hk g (Nat.le_refl _)).trans h2, h3, h4.keep fun b hb => hk b (by omega)⟩
theorem RdAt.lt {w : World} {B g m : Nat} (h : RdAt w B g m) : g < w.heap.size := by
  obtain ⟨_, A, n, c, p, h2, _⟩ := h
  rcases Nat.lt_or_ge g w.heap.size with hlt | hge
  · exact hlt
  · rw [Array.getElem?_eq_none hge] at h2; cases h2
theorem RdAt.drewN {w : World} {B g m : Nat} (h : RdAt w B g m) (k : Nat) : RdAt (w.drewN k) B g m := h
theorem RdAt.drew {w : World} {B g m : Nat} (h : RdAt w B g m) : RdAt w.drew B g m := h
theorem RdAt.alloc {w : World} {B g m : Nat} (h : RdAt w B g m) (o : Obj) : RdAt (w.alloc o) B g m := h.keep fun b hb => Below.heap_alloc w o b (Nat.lt_of_le_of_lt hb h.lt)
theorem RdAt.mono {w : World} {B g m m' : Nat} (h : RdAt w B g m) (hm : m ≤ m') : RdAt w B g m' := by
  obtain ⟨h1, A, n, c, p, h2, h3, h4⟩ := h
  exact ⟨h1, A, n, c, p, h2, by omega, h4⟩

/-- What a draw leaves: the reader has gone on, and nothing else that was there has turned. -/
def Drawn (w w' : World) (B g m : Nat) : Prop := RdAt w' B g m ∧ w.grownBy w' (some g)

theorem xor_shift (x : Nat) (hx : x < 2 ^ 62) : bits .xor .i64 (x : Int) ((x : Int) / 64) = ((x ^^^ (x / 64) : Nat) : Int) := by
  have h1 : x ^^^ (x / 64) < 2 ^ 63 := Nat.xor_lt_two_pow (by omega) (by omega)
  have e : ((x : Int) / 64) = ((x / 64 : Nat) : Int) := by omega
  rw [e]
  show IntKind.i64.wrap ((BitVec.ofInt 64 (x : Int) ^^^ BitVec.ofInt 64 ((x / 64 : Nat) : Int)).toNat : Int) = _
  have o (a : Nat) (ha : a < 9223372036854775808) : (BitVec.ofInt 64 (a : Int)).toNat = a := by
    rw [BitVec.ofInt_natCast, BitVec.toNat_ofNat]; exact Nat.mod_eq_of_lt (by omega)
  rw [BitVec.toNat_xor, o x (by omega), o (x / 64) (by omega), IntKind.wrap_i64]
  omega

theorem set_drawn {w : World} {B g m : Nat} {A : Option Addr} {n c p : Nat} (hB : B ≤ g) (hg : w.heap[g]? = some (.cells #[.slice A n c, .int .i64 (p : Int)] 121 (0, 0))) (hp : p ≤ m) (hcode : CodeAt w B A n c) :
    Drawn w (w.setCell ⟨g, 1, none⟩ (.int .i64 ((p : Int) + 1))) B g (m + 1) := by
  refine ⟨⟨hB, A, n, c, p + 1, ?_, by omega, hcode.keep fun b hb => heap_setCell_other w ⟨g, 1, none⟩ b _ (by simp; omega)⟩, ⟨rfl, rfl, rfl, by simp, fun k _ hk => heap_setCell_other w ⟨g, 1, none⟩ k _ (fun e => hk (by simp [e]))⟩⟩
  rw [heap_setCell_same w g 1 _ _ _ hg]
  simp

def Picked (q : Int) (w : World) (B g m : Nat) (e : Ending) (w' : World) : Prop := ∃ r : Nat, e = .returned (.int .i64 (r : Int)) ∧ (r : Int) < max q 1 ∧ Drawn w w' B g m

set_option maxHeartbeats 400000 in
theorem pick_any (g : Nat) (q : Int) (B m : Nat) (w : World) (hm : m ≤ 1000000) (hq : q ≤ 1000000) (h : RdAt w B g m) :
    Calls Tryz.prog 51 #[.pointer (some ⟨g, 0, none⟩), .int .i64 q] w (Picked q w B g (m + 1)) := by
  obtain ⟨hB, A, n, c, p, hg, hp, hcode⟩ := h
  have c0 : w.cell? ⟨g, 0, none⟩ = some (.slice A n c) := by simp [World.cell?, hg]
  have c1 : w.cell? ⟨g, 1, none⟩ = some (.int .i64 (p : Int)) := by simp [World.cell?, hg]
  have f1 : w.frozen? ⟨g, 1, none⟩ = false := by simp [World.frozen?, hg]
  by_cases hq1 : q < 1
  · go_enter Tryz.func51, Tryz.ntmps51
    go_wp2
    go_ret
    exact ⟨0, rfl, by omega, set_drawn hB hg hp hcode⟩
  · by_cases hn0 : n = 0
    · subst hn0
      go_enter Tryz.func51, Tryz.ntmps51
      go_wp2
      go_ret
      exact ⟨0, rfl, by omega, set_drawn hB hg hp hcode⟩
    · obtain ⟨b, o, rfl, hb, hn, hnc, hcm, hx⟩ := hcode.resolve_left hn0
      have hfin := set_drawn hB hg hp hcode
      obtain ⟨W, hW⟩ : ∃ W, W = w.setCell ⟨g, 1, none⟩ (.int .i64 ((p : Int) + 1)) := ⟨_, rfl⟩
      rw [← hW] at hfin
      by_cases hlt : p < n
      · obtain ⟨x, hcx⟩ := hx p hlt
        have hx8 := x.toNat_lt
        subst hW
        go_enter Tryz.func51, Tryz.ntmps51
        go_wp2
        go_ret
        refine ⟨x.toNat % q.toNat, ?_, ?_, hfin⟩
        · have : ((x.toNat % q.toNat : Nat) : Int) = (x.toNat : Int) % q := by rw [Int.natCast_emod, Int.toNat_of_nonneg (by omega)]
          rw [this]; rfl
        · have := Nat.mod_lt x.toNat (show 0 < q.toNat by omega); omega
      · obtain ⟨x1, hc1⟩ := hx (p % n) (Nat.mod_lt _ (by omega))
        obtain ⟨x2, hc2⟩ := hx ((p * 7 + 3) % n) (Nat.mod_lt _ (by omega))
        have hx18 := x1.toNat_lt
        have hx28 := x2.toNat_lt
        subst hW
        have hnp : (0 : Int) < (n : Int) := by omega
        have t1 : (p : Int).tmod (n : Int) = (p : Int) % (n : Int) := Int.tmod_eq_emod_of_nonneg (by omega)
        have t2 : IntKind.i64.wrap ((p : Int) * 7) = (p : Int) * 7 := IntWalk.i64_in _ (by omega)
        have t3 : IntKind.i64.wrap ((p : Int) * 7 + 3) = (p : Int) * 7 + 3 := IntWalk.i64_in _ (by omega)
        have t4 : ((p : Int) * 7 + 3).tmod (n : Int) = ((p : Int) * 7 + 3) % (n : Int) := Int.tmod_eq_emod_of_nonneg (by omega)
        have z1 : (p : Int) % (n : Int) < (n : Int) := Int.emod_lt_of_pos _ hnp
        have z2 : ((p : Int) * 7 + 3) % (n : Int) < (n : Int) := Int.emod_lt_of_pos _ hnp
        have z3 : 0 ≤ (p : Int) % (n : Int) := Int.emod_nonneg _ (by omega)
        have z4 : 0 ≤ ((p : Int) * 7 + 3) % (n : Int) := Int.emod_nonneg _ (by omega)
        have z7 : 0 ≤ (p : Int) / (n : Int) := Int.ediv_nonneg (by omega) (by omega)
        have z8 : (p : Int) / (n : Int) ≤ 1000000 := by have := Int.ediv_le_self (n : Int) (show 0 ≤ (p : Int) by omega); omega
        have z5 : ((p : Int) % (n : Int)).toNat = p % n := rfl
        have z6 : (((p : Int) * 7 + 3) % (n : Int)).toNat = (p * 7 + 3) % n := rfl
        go_enter Tryz.func51, Tryz.ntmps51
        go_wp2_with fail
        go_quiet (fail)
        generalize hX : (x1.toNat : Int) * 131 + (x2.toNat : Int) * 1117 + (p : Int) * 29 + (p : Int) / (n : Int) * 53 = X
        have hX0 : 0 ≤ X := by omega
        have hX1 : X < 4611686018427387904 := by omega
        clear hX
        obtain ⟨Y, rfl⟩ := Int.eq_ofNat_of_zero_le hX0
        have hxs := xor_shift Y (by omega)
        go_wp2
        go_ret
        generalize Y ^^^ Y / 64 = Z
        refine ⟨Z % q.toNat, ?_, ?_, hfin.1.drewN _, grown_drewN hfin.2 _⟩
        · have : ((Z % q.toNat : Nat) : Int) = (Z : Int) % q := by rw [Int.natCast_emod, Int.toNat_of_nonneg (by omega)]
          rw [this]; rfl
        · have := Nat.mod_lt Z (show 0 < q.toNat by omega); omega

theorem Drawn.trans {w w1 w2 : World} {B g m m' : Nat} (h : Drawn w w1 B g m) (k : Drawn w1 w2 B g m') : Drawn w w2 B g m' := ⟨k.1, grown_trans h.2 k.2⟩
theorem Drawn.drewN {w w1 : World} {B g m : Nat} (h : Drawn w w1 B g m) (n : Nat) : Drawn w (w1.drewN n) B g m := ⟨h.1.drewN n, grown_drewN h.2 n⟩
theorem Drawn.drew {w w1 : World} {B g m : Nat} (h : Drawn w w1 B g m) : Drawn w w1.drew B g m := h.drewN 1
theorem Drawn.mono {w w1 : World} {B g m m' : Nat} (h : Drawn w w1 B g m) (hm : m ≤ m') : Drawn w w1 B g m' := ⟨h.1.mono hm, h.2⟩
theorem Drawn.refl {w : World} {B g m : Nat} (h : RdAt w B g m) : Drawn w w B g m := ⟨h, World.grownBy.refl _ _⟩
theorem Drawn.alloc {w w1 : World} {B g m : Nat} (h : Drawn w w1 B g m) (o : Obj) : Drawn w (w1.alloc o) B g m := ⟨h.1.alloc o, grown_trans h.2 (World.grownBy_alloc _ _ _)⟩
/-- A draw that began behind a new block. -/
theorem Drawn.of_alloc {w w1 : World} {B g m : Nat} {o : Obj} (h : Drawn (w.alloc o) w1 B g m) : Drawn w w1 B g m := ⟨h.1, grown_trans (World.grownBy_alloc w o _) h.2⟩
theorem Drawn.of_drewN {w w1 : World} {B g m n : Nat} (h : Drawn (w.drewN n) w1 B g m) : Drawn w w1 B g m := ⟨h.1, ⟨h.2.os, h.2.tape, h.2.output, h.2.size, h.2.block⟩⟩
theorem Drawn.of_drew {w w1 : World} {B g m : Nat} (h : Drawn w.drew w1 B g m) : Drawn w w1 B g m := Drawn.of_drewN (n := 1) h

end Go.Proofs.YtbhnjnoblkfckabGreatDoor

-- from XDraw2
/- Walks: the drawing of texts. -/
namespace Go.Proofs.YtbhnjnoblkfckabGreatDoor
open Go.RowKit

def strsOk (cs : Array Value) (K : Nat) : Bool := cs.toList.all fun v => match v with | .string s => decide (s.size ≤ K) | _ => false
theorem strs_at {cs : Array Value} {K r : Nat} (h : strsOk cs K = true) (hr : r < cs.size) : ∃ s : ByteArray, cs[r]? = some (.string s) ∧ s.size ≤ K := by
  unfold strsOk at h
  rw [List.all_eq_true] at h
  have h2 := h cs[r] (by simp)
  rw [Array.getElem?_eq_getElem hr]
  cases hv : cs[r] <;> rw [hv] at h2 <;> simp at h2
  exact ⟨_, rfl, h2⟩
/-- An element of a literal of texts that was built ahead of a draw. -/
theorem lit_str {w w1 : World} {B g m K : Nat} {cs : Array Value} {T : TypeId} (hd : Drawn (w.alloc (.cells cs T)) w1 B g m) (hg : g < w.heap.size) (hok : strsOk cs K = true) (r : Nat) (hr : r < cs.size) :
    ∃ s : ByteArray, w1.cell? ⟨w.heap.size, r, none⟩ = some (.string s) ∧ s.size ≤ K := by
  obtain ⟨s, h1, h2⟩ := strs_at hok hr
  refine ⟨s, ?_, h2⟩
  have hb : w1.heap[w.heap.size]? = some (.cells cs T (0, 0)) := (hd.2.block w.heap.size (by simp) (by simp; omega)).trans (heap_alloc_new w _)
  rw [cell_of_row w1 w.heap.size r cs T (0, 0) hb, h1]

def DrawnStr (K : Nat) (w : World) (B g m : Nat) (e : Ending) (w' : World) : Prop := ∃ s : ByteArray, e = .returned (.string s) ∧ s.size ≤ K ∧ Drawn w w' B g m

set_option maxHeartbeats 400000 in
theorem tok_any (g B m : Nat) (w : World) (hm : m ≤ 1000000) (h : RdAt w B g m) :
    Calls Tryz.prog 164 #[.pointer (some ⟨g, 0, none⟩)] w (DrawnStr 20 w B g (m + 1)) := by
  have hg := h.lt
  go_enter Tryz.func164, Tryz.ntmps164
  go_wp2_with fail
  refine (pick_any g 7 B m _ hm (by omega) (h.alloc _)).mono ?_
  rintro e w1 ⟨r, rfl, hr, hd⟩
  obtain ⟨s, hs, hk⟩ := lit_str (K := 20) hd hg (by decide) r (by simp; omega)
  have hr7 : (r : Int) < 7 := by omega
  have hd' := hd.of_alloc
  clear hd
  go_wp2
  go_ret
  exact ⟨s, rfl, hk, hd'⟩

set_option maxHeartbeats 400000 in
theorem open_any (a : Option Addr) (len cap : Nat) (zs : List Int) (w : World) (h : IsRow .u8 w a len cap zs) :
    Calls Tryz.prog 45 #[.slice a len cap] w fun e w' => ∃ g, e = .returned (.pointer (some ⟨g, 0, none⟩)) ∧ RdAt w' w.heap.size g 0 ∧ Below w.heap.size w w' := by
  have key : ∀ n, n ≤ len → n ≤ 2000 → RdAt (w.alloc (.cells #[.slice a n cap, .int .i64 0] 121)) w.heap.size w.heap.size 0 := fun n hn hn2 => by
    refine ⟨Nat.le_refl _, a, n, cap, 0, heap_alloc_new w _, Nat.le_refl _, ?_⟩
    rcases h with ⟨rfl, rfl, rfl, rfl⟩ | ⟨x, rfl, hl, hm, hz, hcell, hwz⟩
    · exact .inl (by omega)
    · rcases Nat.eq_zero_or_pos n with h0 | h0
      · exact .inl h0
      · obtain ⟨b, off, spot⟩ := x
        have hc := hcell 0 (by omega)
        have hspot : spot = none := by simpa [Addr.add] using World.cell?_spot hc
        subst hspot
        have hblt : b < w.heap.size := World.block_lt_of_cell? w _ hc
        refine .inr ⟨b, off, rfl, hblt, hn2, by omega, hm, fun j hj => ?_⟩
        have hj' : j < zs.length := by omega
        have hcj := hcell j hj'
        obtain ⟨u, hu⟩ := u8_of_wf (hwz (zs.getD j 0) (by rw [List.getD_eq_getElem?_getD, List.getElem?_eq_getElem hj']; exact List.getElem_mem hj'))
        refine ⟨u, ?_⟩
        rw [World.cell?_alloc_lt w _ _ hblt]
        rw [hu] at hcj
        have ea : (⟨b, off, none⟩ : Addr).add j = ⟨b, off + j, none⟩ := by
          unfold Addr.add
          split <;> simp_all
        rw [ea] at hcj
        exact hcj
  have hb2 := fun n => (Below.refl w.heap.size w).alloc (Nat.le_refl _) (.cells #[.slice a n cap, .int .i64 0] 121)
  have hlc : len ≤ 2000 ∨ (2000 ≤ len ∧ len ≤ cap ∧ cap ≤ 9223372036854775807 ∧ ∃ b o, a = some ⟨b, o, none⟩) := by
    rcases h with ⟨rfl, rfl, rfl, rfl⟩ | ⟨x, rfl, hl, hm, hz, hcell, hwz⟩
    · exact .inl (by omega)
    · rcases Nat.lt_or_ge 2000 len with h0 | h0
      · obtain ⟨b, off, spot⟩ := x
        have hc := hcell 0 (by omega)
        have hspot : spot = none := by simpa [Addr.add] using World.cell?_spot hc
        subst hspot
        exact .inr ⟨by omega, hl, hm, b, off, rfl⟩
      · exact .inl h0
  by_cases hlen : 2000 < len
  · obtain ⟨_, h1, h2, b, o, rfl⟩ := hlc.resolve_left (by omega)
    clear h hlc
    go_enter Tryz.func45, Tryz.ntmps45
    go_wp2
    go_ret
    exact ⟨_, rfl, key 2000 (by omega) (by omega), hb2 _⟩
  · clear h hlc
    go_enter Tryz.func45, Tryz.ntmps45
    go_wp2
    go_ret
    exact ⟨_, rfl, key len (by omega) (by omega), hb2 _⟩

def IntsL (lo hi : Int) : List Value → Prop
  | [] => True
  | v :: l => (∃ x : Int, v = .int .i64 x ∧ lo ≤ x ∧ x ≤ hi) ∧ IntsL lo hi l
theorem ints_at {lo hi : Int} : ∀ {l : List Value} {r : Nat}, IntsL lo hi l → r < l.length → ∃ x : Int, l[r]? = some (.int .i64 x) ∧ lo ≤ x ∧ x ≤ hi
  | [], r, _, h => by simp at h
  | v :: l, 0, h, _ => by obtain ⟨⟨x, rfl, h1, h2⟩, _⟩ := h; exact ⟨x, rfl, h1, h2⟩
  | v :: l, r + 1, h, hr => by simpa using ints_at (l := l) (r := r) h.2 (by simp at hr; omega)
/-- An element of a literal of numbers that was built ahead of a draw. -/
theorem lit_int {w w1 : World} {B g m : Nat} {lo hi : Int} {cs : Array Value} {T : TypeId} (hd : Drawn (w.alloc (.cells cs T)) w1 B g m) (hg : g < w.heap.size) (hok : IntsL lo hi cs.toList) (r : Nat) (hr : r < cs.size) :
    ∃ x : Int, w1.cell? ⟨w.heap.size, r, none⟩ = some (.int .i64 x) ∧ lo ≤ x ∧ x ≤ hi := by
  obtain ⟨x, h1, h2⟩ := ints_at hok (r := r) (by simpa using hr)
  refine ⟨x, ?_, h2⟩
  have hb : w1.heap[w.heap.size]? = some (.cells cs T (0, 0)) := (hd.2.block w.heap.size (by simp) (by simp; omega)).trans (heap_alloc_new w _)
  rw [cell_of_row w1 w.heap.size r cs T (0, 0) hb, ← Array.getElem?_toList, h1]

theorem bytes_app (a b : ByteArray) : (a ++ b).size = a.size + b.size := by simp
theorem one_size (c : UInt8) : (ByteArray.mk #[c]).size = 1 := rfl
theorem ext_size (s : ByteArray) (a b : Nat) : (s.extract a b).size = min b s.size - a := by simp

set_option maxRecDepth 100000 in
set_option maxHeartbeats 800000 in
theorem bent_any (g B m : Nat) (s : ByteArray) (w : World) (hm : m ≤ 900000) (hs : s.size ≤ 900000) (h : RdAt w B g m) :
    Calls Tryz.prog 58 #[.pointer (some ⟨g, 0, none⟩), .string s] w (DrawnStr (s.size + 1) w B g (m + 4)) := by
  have hg := h.lt
  go_enter Tryz.func58, Tryz.ntmps58
  go_wp2_with fail
  refine (pick_any g _ B m _ (by omega) (by omega) h).mono ?_
  rintro e w1 ⟨k, rfl, hk, hd1⟩
  have hk1 : (k : Int) < (s.size : Int) + 1 := by omega
  clear hk
  go_wp2_with fail
  refine (pick_any g _ B (m + 1) _ (by omega) (by omega) hd1.1).mono ?_
  rintro e w2 ⟨r2, rfl, hr2, hd2⟩
  have hr2' : (r2 : Int) < 256 := by omega
  have hd2' := hd1.trans hd2
  clear hr2
  go_wp2_with fail
  refine (pick_any g _ B (m + 2) _ (by omega) (by omega) (hd2.1.alloc _)).mono ?_
  rintro e w3 ⟨r3, rfl, hr3, hd3⟩
  have hr3' : (r3 : Int) < 11 := by omega
  clear hr3
  obtain ⟨x, hx, hx0, hx1⟩ := lit_int (lo := 0) (hi := 255) hd3 hd2.1.lt (by repeat (first | exact trivial | refine ⟨⟨_, rfl, by omega, by omega⟩, ?_⟩)) r3 (by simp; omega)
  have hd3' := hd2'.trans hd3.of_alloc
  have hcv := fun W => run_conv1 (P := Tryz.prog) 37 9 5 5 Tryz.underlying37 Tryz.underlying5 Tryz.underlying9 W x hx0 (by omega)
  generalize hct : UInt8.ofNat x.toNat = ct at hcv
  clear hct
  go_wp2_with fail
  refine (pick_any g _ B (m + 3) _ (by omega) (by omega) (hd3.1.alloc _)).mono ?_
  rintro e w4 ⟨r4, rfl, hr4, hd4⟩
  have hr4' : (r4 : Int) < 3 := by omega
  have hd4' := hd3'.trans hd4.of_alloc
  clear hr4 hcv hx hd1 hd2 hd3 hd4 hd2' hd3'
  have hr5 : r4 = 0 ∨ r4 = 1 ∨ r4 = 2 := by omega
  have hz1 : (s.extract 0 k).size ≤ 900000 := by rw [ext_size]; omega
  have hz2 : (s.extract (k + 1) s.size).size ≤ 900000 := by rw [ext_size]; omega
  have hz3 : (s.extract k s.size).size ≤ 900000 := by rw [ext_size]; omega
  by_cases hlt : k < s.size
  · rcases hr5 with rfl | rfl | rfl
    · go_wp2_with fail
      go_quiet (fail)
      all_goals go_wp2
      all_goals go_ret
      all_goals exact ⟨_, rfl, by simp only [bytes_app, ext_size, one_size]; omega, hd4'.drewN _⟩
    · go_wp2_with fail
      go_quiet (fail)
      all_goals go_wp2
      all_goals go_ret
      all_goals exact ⟨_, rfl, by simp only [bytes_app, ext_size]; omega, hd4'.drewN _⟩
    · go_wp2_with fail
      go_quiet (fail)
      all_goals go_wp2
      all_goals go_ret
      all_goals exact ⟨_, rfl, by simp only [bytes_app, ext_size, one_size]; omega, hd4'.drewN _⟩
  · rcases hr5 with rfl | rfl | rfl
    · go_wp2_with fail
      go_quiet (fail)
      all_goals go_wp2
      all_goals go_ret
      all_goals exact ⟨_, rfl, by simp only [bytes_app, ext_size, one_size]; omega, hd4'.drewN _⟩
    · go_wp2_with fail
      go_ret
      exact ⟨_, rfl, by omega, hd4'⟩
    · go_wp2_with fail
      go_ret
      exact ⟨_, rfl, by omega, hd4'⟩
end Go.Proofs.YtbhnjnoblkfckabGreatDoor

-- from XDraw3
/- Walks: the drawing of texts, whole. -/
namespace Go.Proofs.YtbhnjnoblkfckabGreatDoor
open Go.RowKit

theorem DrawnStr.mono {K K' m m' : Nat} {w : World} {B g : Nat} {e : Ending} {w' : World} (h : DrawnStr K w B g m e w') (hK : K ≤ K') (hm : m ≤ m') : DrawnStr K' w B g m' e w' := by
  obtain ⟨s, h1, h2, h3⟩ := h
  exact ⟨s, h1, by omega, h3.mono hm⟩

set_option maxRecDepth 100000 in
set_option maxHeartbeats 800000 in
theorem text_any (g B m : Nat) (w : World) (hm : m ≤ 800000) (h : RdAt w B g m) :
    Calls Tryz.prog 137 #[.pointer (some ⟨g, 0, none⟩)] w (DrawnStr 30 w B g (m + 6)) := by
  have hg := h.lt
  go_enter Tryz.func137, Tryz.ntmps137
  go_wp2_with fail
  refine (pick_any g 4 B m _ (by omega) (by omega) h).mono ?_
  rintro e w1 ⟨k, rfl, hk, hd1⟩
  have hk5 : k = 0 ∨ k = 1 ∨ (k = 2 ∨ k = 3) := by omega
  rcases hk5 with rfl | rfl | hk5
  · go_wp2_with fail
    refine (pick_any g 10 B (m + 1) _ (by omega) (by omega) (hd1.1.alloc _)).mono ?_
    rintro e w2 ⟨r, rfl, hr, hd2⟩
    obtain ⟨s, hs, hk⟩ := lit_str (K := 30) hd2 hd1.1.lt (by decide) r (by simp; omega)
    have hr7 : (r : Int) < 10 := by omega
    have hd' := hd1.trans hd2.of_alloc
    clear hd2
    go_wp2
    go_ret
    exact ⟨s, rfl, hk, hd'.mono (by omega)⟩
  · go_wp2_with fail
    refine (tok_any g B (m + 1) _ (by omega) hd1.1).mono ?_
    rintro e w2 ⟨s, rfl, hs, hd2⟩
    go_wp2_with fail
    refine (bent_any g B (m + 1 + 1) s _ (by omega) (by omega) hd2.1).mono ?_
    rintro e w3 ⟨s3, rfl, hs3, hd3⟩
    go_wp2
    go_ret
    exact ⟨s3, rfl, by omega, ((hd1.trans hd2).trans hd3).mono (by omega)⟩
  · have n0 : ((k : Int) == 0) = false := by simp; omega
    have n1 : ((k : Int) == 1) = false := by simp; omega
    go_wp2_with fail
    refine (tok_any g B (m + 1) _ (by omega) hd1.1).mono ?_
    rintro e w2 ⟨s, rfl, hs, hd2⟩
    go_wp2
    go_ret
    exact ⟨s, rfl, by omega, (hd1.trans hd2).mono (by omega)⟩

def BytesL : List Value → Prop
  | [] => True
  | v :: l => (∃ x : UInt8, v = .int .u8 (x.toNat : Int)) ∧ BytesL l
theorem bytes_at : ∀ {l : List Value} {r : Nat}, BytesL l → r < l.length → ∃ x : UInt8, l[r]? = some (.int .u8 (x.toNat : Int))
  | [], r, _, h => by simp at h
  | v :: l, 0, h, _ => by obtain ⟨⟨x, rfl⟩, _⟩ := h; exact ⟨x, rfl⟩
  | v :: l, r + 1, h, hr => by simpa using bytes_at (l := l) (r := r) h.2 (by simp at hr; omega)
theorem lit_byte {w w1 : World} {B g m : Nat} {cs : Array Value} {T : TypeId} (hd : Drawn (w.alloc (.cells cs T)) w1 B g m) (hg : g < w.heap.size) (hok : BytesL cs.toList) (r : Nat) (hr : r < cs.size) :
    ∃ x : UInt8, w1.cell? ⟨w.heap.size, r, none⟩ = some (.int .u8 (x.toNat : Int)) := by
  obtain ⟨x, h1⟩ := bytes_at hok (r := r) (by simpa using hr)
  refine ⟨x, ?_⟩
  have hb : w1.heap[w.heap.size]? = some (.cells cs T (0, 0)) := (hd.2.block w.heap.size (by simp) (by simp; omega)).trans (heap_alloc_new w _)
  rw [cell_of_row w1 w.heap.size r cs T (0, 0) hb, ← Array.getElem?_toList, h1]

theorem lit_cell {w w1 : World} {B g m : Nat} {cs : Array Value} {T : TypeId} {u : Value} {r : Nat} (hd : Drawn (w.alloc (.cells cs T)) w1 B g m) (hg : g < w.heap.size) (hx : cs[r]? = some u) : w1.cell? ⟨w.heap.size, r, none⟩ = some u := by
  have hb : w1.heap[w.heap.size]? = some (.cells cs T (0, 0)) := (hd.2.block w.heap.size (by simp) (by simp; omega)).trans (heap_alloc_new w _)
  rw [cell_of_row w1 w.heap.size r cs T (0, 0) hb, hx]
theorem new_cell (w : World) {cs : Array Value} (T : TypeId) {u : Value} {r : Nat} (hx : cs[r]? = some u) : (w.alloc (.cells cs T)).cell? ⟨w.heap.size, r, none⟩ = some u := by
  rw [cell_of_row _ w.heap.size r cs T (0, 0) (heap_alloc_new w _), hx]

theorem wrap_u8_nat (r : Nat) (h : r < 256) : IntKind.u8.wrap (r : Int) = (r : Int) := by simp [IntKind.wrap, IntKind.bits, IntKind.signed]; omega
theorem lit_list {cs : List Value} {r : Nat} {u : Value} (h : (cs.toArray)[r]? = some u) : cs[r]? = some u := by simpa using h
theorem Drawn.below {w w' : World} {B g m : Nat} (h : Drawn w w' B g m) (hg : g < w.heap.size) : Below B w w' := by
  refine ⟨h.2.os, h.2.tape, h.2.output, h.2.size, fun k hk => ?_⟩
  exact h.2.block k (by have := h.1.1; omega) (by have := h.1.1; simp; omega)
theorem pick_lit (g : Nat) (q : Int) (n : Nat) (hqn : q = n) (hn : 1 ≤ n) (B m : Nat) (w : World) (hm : m ≤ 1000000) (hq : n ≤ 1000000) (h : RdAt w B g m) :
    Calls Tryz.prog 51 #[.pointer (some ⟨g, 0, none⟩), .int .i64 q] w fun e w' => ∃ r : Nat, e = .returned (.int .i64 (r : Int)) ∧ r < n ∧ (r : Int) < q ∧ Drawn w w' B g (m + 1) := by
  refine (pick_any g q B m w hm (by omega) h).mono ?_
  rintro e w' ⟨r, h1, h2, h3⟩
  exact ⟨r, h1, by omega, by omega, h3⟩

end Go.Proofs.YtbhnjnoblkfckabGreatDoor

