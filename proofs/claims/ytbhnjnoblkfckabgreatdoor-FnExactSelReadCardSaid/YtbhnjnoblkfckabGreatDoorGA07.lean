import Derived.Test.YtbhnjnoblkfckabGreatDoorGA06
import Derived.Test.YtbhnjnoblkfckabGreatDoorGA04
import Derived.Deep.RegionLaw
-- from XCan3
/- Places: the machine that writes a place in its plainest form: what each step makes of a byte. -/
namespace Go.Proofs.YtbhnjnoblkfckabGreatDoor
open Go.RowKit

inductive CS where
  | root | path | query
  | d1 (q : Bool)
  | d2 (q : Bool)

def bkV (b : Nat) : Bool → Value
  | true => queryV b
  | false => pathV b
def cV (b : Nat) : CS → Value
  | .root => .func (.func 147) #[.pointer (some ⟨b, 0, none⟩)] #[]
  | .path => pathV b
  | .query => queryV b
  | .d1 _ => .func (.func 229) #[.pointer (some ⟨b, 0, none⟩)] #[]
  | .d2 _ => .func (.func 234) #[.pointer (some ⟨b, 0, none⟩)] #[]
def resOf (b : Nat) : CS → Value
  | .d1 q => bkV b q
  | .d2 q => bkV b q
  | _ => .nilFunc

def CBase (q : Bool) (R : Option (List UInt8)) (ys : List UInt8) (seg : Nat) (l : List UInt8) : Prop :=
  match q with
  | true => QOk ys seg ∧ R = resQ ys seg l
  | false => POk ys seg ∧ R = resP ys seg l
/-- What is still to come of the rest l, in each state of the machine. -/
def CInv (R : Option (List UInt8)) (st : CS) (ys : List UInt8) (seg high : Nat) (l : List UInt8) : Prop :=
  match st with
  | .root => ys = [] ∧ R = rootR l
  | .path => CBase false R ys seg l
  | .query => CBase true R ys seg l
  | .d1 q => CBase q R ys seg (37 :: l)
  | .d2 q => ∃ a, hexV a = some high ∧ CBase q R ys seg (37 :: a :: l)

def CNext (b : Nat) (R : Option (List UInt8)) (n : Nat) (l : List UInt8) (w : World) (e : Ending) (w' : World) : Prop :=
  (e = .returned .nilFunc ∧ R = none ∧ Below b w w') ∨
  ∃ st ys seg high, st ≠ .root ∧ e = .returned (cV b st) ∧ CAt w' b ys seg (resOf b st) high ∧ Hid (CInv R st ys seg high l) ∧ ys.length ≤ n + 3 ∧ Below b w w'

theorem Cls.belowB {w w' : World} (h : Cls w) {B : Nat} (hb : Below B w w') (hB : 1 < B) : Cls w' :=
  ⟨Nat.lt_of_lt_of_le h.1 hb.size, fun i hi => (hb.cell (p := ⟨1, i, none⟩) hB).trans (h.2 i hi)⟩

theorem u8_eqc (c k : UInt8) : ((c.toNat : Int) == (k.toNat : Int)) = (c == k) := by
  rw [Bool.eq_iff_iff, beq_iff_eq, beq_iff_eq]
  exact ⟨fun h => UInt8.toNat_inj.mp (by omega), fun h => by rw [h]⟩
theorem u8_eq {c k : UInt8} (h : c = k) : ((c.toNat : Int) == (k.toNat : Int)) = true := by rw [h]; simp
theorem u8_ne {c k : UInt8} (h : c ≠ k) : ((c.toNat : Int) == (k.toNat : Int)) = false := by
  rw [beq_eq_false_iff_ne]; intro h2; exact h (UInt8.toNat_inj.mp (by omega))

set_option maxHeartbeats 800000 in
theorem s_root (b : Nat) (R : Option (List UInt8)) (c : UInt8) (l : List UInt8) (seg high : Nat) (w : World) (h : CAt w b [] seg .nilFunc high) (hR : R = rootR (c :: l)) :
    Calls Tryz.prog 147 #[.pointer (some ⟨b, 0, none⟩), .int .u8 c.toNat] w (CNext b R 0 l w) := by
  have hrc : rootR (c :: l) = if c = 47 then resP [47] 1 l else none := rfl
  rw [hrc] at hR
  by_cases hc : c = 47
  · have hh := u8_eq hc
    simp only [UInt8.reduceToNat, Int.cast_ofNat_Int] at hh
    have hne : ((c.toNat : Int) != 47) = false := by simp only [bne, hh, Bool.not_true]
    rw [if_pos hc] at hR
    have c1 := c_slash b [] seg high .nilFunc w h (by simp)
    have hfin : Hid (CInv R .path [47] 1 high l) := Lib.hid ⟨⟨by simp, by simp, by simp, by simp⟩, hR⟩
    clear hrc hR hh hc h
    unfold pathV at c1
    go_enter Tryz.func147, Tryz.ntmps147
    go_wp2_with fail
    refine c1.mono ?_
    rintro e w1 ⟨rfl, h1, h2⟩
    go_wp2
    go_ret
    exact .inr ⟨.path, [47], 1, high, (fun h => by cases h), rfl, h1, hfin, by simp, h2⟩
  · have hh := u8_ne hc
    simp only [UInt8.reduceToNat, Int.cast_ofNat_Int] at hh
    have hne : ((c.toNat : Int) != 47) = true := by simp only [bne, hh, Bool.not_false]
    rw [if_neg hc] at hR
    clear hrc hh hc h
    have HR := Lib.hid hR; clear hR
    go_enter Tryz.func147, Tryz.ntmps147
    go_wp2
    go_ret
    exact .inl ⟨rfl, HR.out, Below.refl _ _⟩

/-- What one step leaves where it puts a byte and goes on in the same state or another. -/
theorem next_of {b : Nat} {R : Option (List UInt8)} {n : Nat} {l ys : List UInt8} {seg high : Nat} {w w' : World} {st : CS} (h1 : CAt w' b ys seg (resOf b st) high) (h2 : Hid (CInv R st ys seg high l)) (h3 : ys.length ≤ n + 3) (h4 : Below b w w') (h0 : st ≠ .root := by intro h; cases h) : CNext b R n l w (.returned (cV b st)) w' :=
  .inr ⟨st, ys, seg, high, h0, rfl, h1, h2, h3, h4⟩

set_option maxHeartbeats 1600000 in
theorem s_query (b : Nat) (R : Option (List UInt8)) (ys l : List UInt8) (c : UInt8) (seg high : Nat) (w : World) (h : CAt w b ys seg .nilFunc high) (hcls : Cls w) (hn : ys.length ≤ 900) (hR : CBase true R ys seg (c :: l)) :
    Calls Tryz.prog 221 #[.pointer (some ⟨b, 0, none⟩), .int .u8 c.toNat] w (CNext b R ys.length l w) := by
  have hmf : ∀ (fn : Fn) (first cap : Array Value) (w : World), (Instr.makeFunc fn first cap).run Tryz.prog w = .ok (.func fn first cap) w := fun _ _ _ _ => rfl
  by_cases hc : c = 37
  · have hh := u8_eq hc
    simp only [UInt8.reduceToNat, Int.cast_ofNat_Int] at hh
    have c1 := c_escape b ys seg high .nilFunc true w h
    simp only [if_true] at c1
    have hfin : Hid (CInv R (.d1 true) ys seg high l) := Lib.hid (by rw [hc] at hR; exact hR)
    clear hR hc hcls
    unfold queryV at c1
    go_enter Tryz.func221, Tryz.ntmps221
    go_wp2_with fail
    refine c1.mono ?_
    rintro e w1 ⟨rfl, h1, h2⟩
    go_wp2
    go_ret
    exact next_of (st := .d1 true) h1 hfin (by omega) h2
  · have hh := u8_ne hc
    obtain ⟨hq, hR⟩ := hR
    rw [resQ_lit hq hc] at hR
    have c1 := fun W => impl_free c W
    have c2 := c_put b ys seg high .nilFunc (queryV b) c w h (by omega)
    have hfin : okLit true c = true → Hid (CInv R .query (ys ++ [c]) seg high l) := fun ho => Lib.hid ⟨hq.app _, by rw [hR, if_pos ho]⟩
    have hnone : okLit true c = false → R = none := fun ho => by rw [hR, ho]; rfl
    have e1 := u8_eqc c 61
    have e2 := u8_eqc c 38
    simp only [UInt8.reduceToNat, Int.cast_ofNat_Int] at e1 e2 hh
    have hlen : (ys ++ [c]).length ≤ ys.length + 3 := by simp
    unfold okLit at hfin hnone
    simp only [Bool.not_true, Bool.and_false, Bool.or_false, Bool.true_and] at hfin hnone
    have c3 := c1 w hcls
    have HF := Lib.hid hfin; have HN := Lib.hid hnone
    clear hR hc c1 hfin hnone h hcls
    unfold queryV at c2
    generalize freeB c = f at *
    generalize (c == 61) = b1 at *
    generalize (c == 38) = b2 at *
    cases b1
    · cases b2
      · cases f
        · go_enter Tryz.func221, Tryz.ntmps221
          go_wp2_with fail
          refine c3.mono ?_
          rintro e w1 ⟨rfl, rfl⟩
          clear c3 c2
          go_wp2
          go_ret
          exact .inl ⟨rfl, HN.out rfl, Below.refl _ _⟩
        · go_enter Tryz.func221, Tryz.ntmps221
          go_wp2_with fail
          refine c3.mono ?_
          rintro e w1 ⟨rfl, rfl⟩
          go_wp2_with fail
          refine c2.mono ?_
          rintro e w1 ⟨rfl, h1, h2⟩
          go_wp2
          go_ret
          exact next_of (st := .query) h1 (HF.out rfl) hlen h2
      · go_enter Tryz.func221, Tryz.ntmps221
        go_wp2_with fail
        refine c2.mono ?_
        rintro e w1 ⟨rfl, h1, h2⟩
        go_wp2
        go_ret
        exact next_of (st := .query) h1 (HF.out (by cases f <;> rfl)) hlen h2
    · go_enter Tryz.func221, Tryz.ntmps221
      go_wp2_with fail
      refine c2.mono ?_
      rintro e w1 ⟨rfl, h1, h2⟩
      go_wp2
      go_ret
      exact next_of (st := .query) h1 (HF.out (by cases f <;> cases b2 <;> rfl)) hlen h2

set_option maxHeartbeats 800000 in
theorem s_d1 (b : Nat) (q : Bool) (R : Option (List UInt8)) (ys l : List UInt8) (c : UInt8) (seg high : Nat) (w : World) (h : CAt w b ys seg (bkV b q) high) (hR : CBase q R ys seg (37 :: c :: l)) :
    Calls Tryz.prog 229 #[.pointer (some ⟨b, 0, none⟩), .int .u8 c.toNat] w (CNext b R ys.length l w) := by
  have hmf : ∀ (fn : Fn) (first cap : Array Value) (w : World), (Instr.makeFunc fn first cap).run Tryz.prog w = .ok (.func fn first cap) w := fun _ _ _ _ => rfl
  cases hx : hexV c with
  | none =>
    have hnone : R = none := by
      cases q with
      | true => obtain ⟨_, hR⟩ := hR; rw [hR, resQ_bad1 hx]
      | false => obtain ⟨_, hR⟩ := hR; rw [hR, resP_bad1 hx]
    have HN := Lib.hid hnone
    have c1 := fun W => hex_value_none c hx W
    clear hR hx hnone h
    go_enter Tryz.func229, Tryz.ntmps229
    go_wp2_with fail
    refine (c1 _).mono ?_
    rintro e w' ⟨rfl, rfl⟩
    go_wp2
    go_ret
    exact .inl ⟨rfl, HN.out, Below.refl _ _⟩
  | some x =>
    have hfin : Hid (CInv R (.d2 q) ys seg x l) := Lib.hid ⟨c, hx, hR⟩
    have c1 := fun W => hex_value_some c x hx W
    have hset := h.set3 x
    obtain ⟨v, hh, ho⟩ := h
    have k3 : w.cell? ⟨b, 3, none⟩ = some (.int .u8 (high : Int)) := by simp [World.cell?, hh]
    have f3 : w.frozen? ⟨b, 3, none⟩ = false := by simp [World.frozen?, hh]
    clear hR hx hh ho
    go_enter Tryz.func229, Tryz.ntmps229
    go_wp2_with fail
    refine (c1 _).mono ?_
    rintro e w' ⟨rfl, rfl⟩
    go_wp2
    go_ret
    exact next_of (st := .d2 q) hset hfin (by omega) (below_setC (Below.refl _ _))
end Go.Proofs.YtbhnjnoblkfckabGreatDoor

-- from XCan4
/- Places: the machine that writes a place in its plainest form: a byte of the path. -/
namespace Go.Proofs.YtbhnjnoblkfckabGreatDoor
open Go.RowKit

theorem freeB_47 : freeB 47 = false := by decide
theorem freeB_63 : freeB 63 = false := by decide
theorem freeB_37 : freeB 37 = false := by decide

set_option maxRecDepth 100000 in
set_option maxHeartbeats 3200000 in
theorem s_path47 (b : Nat) (R : Option (List UInt8)) (ys l : List UInt8) (seg high : Nat) (w : World) (h : CAt w b ys seg .nilFunc high) (hcls : Cls w) (__hg : 1 < b) (hn : ys.length ≤ 900) (hR : CBase false R ys seg (47 :: l)) :
    Calls Tryz.prog 203 #[.pointer (some ⟨b, 0, none⟩), .int .u8 47] w (CNext b R ys.length l w) := by
  obtain ⟨hp, hR⟩ := hR
  rw [resP_slash hp] at hR
  have hle := hp.le
  have c3 := fun n => impl_free 47 (w.drewN n) (hcls.drewN n)
  simp only [UInt8.reduceToNat, Int.cast_ofNat_Int] at c3
  rw [freeB_47] at c3
  have hemp : (ys.drop seg).isEmpty = decide (ys.length ≤ seg) := by
    rw [Bool.eq_iff_iff]; simp
  have h2 := h
  obtain ⟨v, hh, hown⟩ := h2
  obtain ⟨g, cap, rfl⟩ := own_form hown hp.ne
  obtain ⟨hm1, hm2⟩ := own_max hown
  have k0 : w.cell? ⟨b, 0, none⟩ = some (.slice (some ⟨g, 0, none⟩) ys.length cap) := by simp [World.cell?, hh]
  have k1 : w.cell? ⟨b, 1, none⟩ = some (.int .i64 (seg : Int)) := by simp [World.cell?, hh]
  have hne := hp.ne
  clear hcls
  by_cases hlt : seg < ys.length
  · have hd := fun n => c_dotted b ys seg high .nilFunc (w.drewN n) h (by omega) hne hle
    rw [hemp, show decide (ys.length ≤ seg) = false from by simp; omega] at hR
    simp only [Bool.not_false, Bool.and_true] at hR
    have hslash := POk.slash hne
    generalize dotL (ys.drop seg) = d at *
    cases d with
    | false =>
      have hfin : Hid (CInv R .path (ys ++ [47]) (ys.length + 1) high l) := Lib.hid ⟨hslash, by simpa using hR⟩
      have c1 := fun n => c_slash b ys seg high .nilFunc (w.drewN n) h (by omega)
      unfold pathV at c1
      clear hR hp hh hown h hslash
      go_enter Tryz.func203, Tryz.ntmps203
      go_wp2_with fail
      go_region_with (go_at_call 177; refine (hd 1).mono ?_; rintro e w1 ⟨rfl, n1, rfl⟩)
      all_goals go_wp2_with fail
      all_goals refine (c1 (1 + n1)).mono ?_
      all_goals rintro e w2 ⟨rfl, h1, h2⟩
      all_goals go_wp2
      all_goals go_ret
      all_goals exact next_of (st := .path) h1 hfin (by simp) (below_drewN_left h2)
    | true =>
      have hnone : R = none := by simpa using hR
      have HN := Lib.hid hnone
      clear hR hp hh hown h hslash hnone
      go_enter Tryz.func203, Tryz.ntmps203
      go_wp2_with fail
      go_region_with (go_at_call 177; refine (hd 1).mono ?_; rintro e w1 ⟨rfl, n1, rfl⟩)
      all_goals go_wp2_with fail
      all_goals refine (c3 (1 + n1)).mono ?_
      all_goals rintro e w2 ⟨rfl, rfl⟩
      all_goals go_wp2
      all_goals go_ret
      all_goals exact .inl ⟨rfl, HN.out, below_drewN (Below.refl _ _)⟩
  · have hnone : R = none := by
      rw [hR, hemp, show decide (ys.length ≤ seg) = true from by simp; omega]; simp
    have HN := Lib.hid hnone
    clear hR hp hh hown h hnone hemp
    go_enter Tryz.func203, Tryz.ntmps203
    go_wp2_with fail
    go_quiet (fail)
    all_goals go_wp2_with fail
    all_goals refine (c3 _).mono ?_
    all_goals rintro e w2 ⟨rfl, rfl⟩
    all_goals go_wp2
    all_goals go_ret
    all_goals exact .inl ⟨rfl, HN.out, below_drewN (Below.refl _ _)⟩

end Go.Proofs.YtbhnjnoblkfckabGreatDoor

-- from XCan4b
/- Places: the machine that writes a place in its plainest form: a byte of the path, but a slash. -/
namespace Go.Proofs.YtbhnjnoblkfckabGreatDoor
open Go.RowKit

set_option maxRecDepth 100000 in
set_option maxHeartbeats 3200000 in
theorem s_path63 (b : Nat) (R : Option (List UInt8)) (ys l : List UInt8) (seg high : Nat) (w : World) (h : CAt w b ys seg .nilFunc high) (hn : ys.length ≤ 900) (hR : CBase false R ys seg (63 :: l)) :
    Calls Tryz.prog 203 #[.pointer (some ⟨b, 0, none⟩), .int .u8 63] w (CNext b R ys.length l w) := by
  have hmf : ∀ (fn : Fn) (first cap : Array Value) (w : World), (Instr.makeFunc fn first cap).run Tryz.prog w = .ok (.func fn first cap) w := fun _ _ _ _ => rfl
  obtain ⟨hp, hR⟩ := hR
  rw [resP_ask hp] at hR
  have hfin : Hid (CInv R .query (ys ++ [63]) seg high l) := Lib.hid ⟨hp.ask, hR⟩
  have c1 := fun n => c_put b ys seg high .nilFunc (queryV b) 63 (w.drewN n) h (by omega)
  simp only [UInt8.reduceToNat, Int.cast_ofNat_Int] at c1
  unfold queryV at c1
  clear hR hp h
  go_enter Tryz.func203, Tryz.ntmps203
  go_wp2_with fail
  go_quiet (fail)
  all_goals go_wp2_with fail
  all_goals refine (c1 _).mono ?_
  all_goals rintro e w2 ⟨rfl, h1, h2⟩
  all_goals go_wp2
  all_goals go_ret
  all_goals exact next_of (st := .query) h1 hfin (by simp) (below_drewN_left h2)

set_option maxRecDepth 100000 in
set_option maxHeartbeats 3200000 in
theorem s_path37 (b : Nat) (R : Option (List UInt8)) (ys l : List UInt8) (seg high : Nat) (w : World) (h : CAt w b ys seg .nilFunc high) (__hn : ys.length ≤ 900) (hR : CBase false R ys seg (37 :: l)) :
    Calls Tryz.prog 203 #[.pointer (some ⟨b, 0, none⟩), .int .u8 37] w (CNext b R ys.length l w) := by
  have hmf : ∀ (fn : Fn) (first cap : Array Value) (w : World), (Instr.makeFunc fn first cap).run Tryz.prog w = .ok (.func fn first cap) w := fun _ _ _ _ => rfl
  have hfin : Hid (CInv R (.d1 false) ys seg high l) := Lib.hid hR
  have c1 := fun n => c_escape b ys seg high .nilFunc false (w.drewN n) h
  simp only [Bool.false_eq_true, if_false] at c1
  unfold pathV at c1
  clear hR h
  go_enter Tryz.func203, Tryz.ntmps203
  go_wp2_with fail
  go_quiet (fail)
  all_goals go_wp2_with fail
  all_goals refine (c1 _).mono ?_
  all_goals rintro e w2 ⟨rfl, h1, h2⟩
  all_goals go_wp2
  all_goals go_ret
  all_goals exact next_of (st := .d1 false) h1 hfin (by omega) (below_drewN_left h2)

set_option maxRecDepth 100000 in
set_option maxHeartbeats 3200000 in
theorem s_pathlit (b : Nat) (R : Option (List UInt8)) (ys l : List UInt8) (c : UInt8) (seg high : Nat) (w : World) (h : CAt w b ys seg .nilFunc high) (hcls : Cls w) (hn : ys.length ≤ 900) (h1 : c ≠ 37) (h2 : c ≠ 63) (h3 : c ≠ 47) (hR : CBase false R ys seg (c :: l)) :
    Calls Tryz.prog 203 #[.pointer (some ⟨b, 0, none⟩), .int .u8 c.toNat] w (CNext b R ys.length l w) := by
  have hmf : ∀ (fn : Fn) (first cap : Array Value) (w : World), (Instr.makeFunc fn first cap).run Tryz.prog w = .ok (.func fn first cap) w := fun _ _ _ _ => rfl
  obtain ⟨hp, hR⟩ := hR
  rw [resP_lit hp h1 h2 h3] at hR
  have e1 := u8_ne h1
  have e2 := u8_ne h2
  have e3 := u8_ne h3
  simp only [UInt8.reduceToNat, Int.cast_ofNat_Int] at e1 e2 e3
  have c3 := fun n => impl_free c (w.drewN n) (hcls.drewN n)
  have c1 := fun n => c_put b ys seg high .nilFunc (pathV b) c (w.drewN n) h (by omega)
  have hlen : (ys ++ [c]).length ≤ ys.length + 3 := by simp
  unfold pathV at c1
  have happ : POk (ys ++ [c]) seg := hp.app [c] (by simpa using fun e => h3 e.symm) (by simpa using fun e => h2 e.symm)
  cases hf : freeB c with
  | true =>
    rw [hf] at hR c3
    have hfin : Hid (CInv R .path (ys ++ [c]) seg high l) := Lib.hid ⟨happ, by simpa using hR⟩
    clear hR hp h hcls h1 h2 h3 hf happ
    go_enter Tryz.func203, Tryz.ntmps203
    go_wp2_with fail
    go_quiet (fail)
    all_goals go_wp2_with fail
    all_goals refine (c3 _).mono ?_
    all_goals rintro e w2 ⟨rfl, rfl⟩
    all_goals go_wp2_with fail
    all_goals refine (c1 _).mono ?_
    all_goals rintro e w2 ⟨rfl, h1, h2⟩
    all_goals go_wp2
    all_goals go_ret
    all_goals exact next_of (st := .path) h1 hfin hlen (below_drewN_left h2)
  | false =>
    rw [hf] at hR c3
    have hnone : R = none := by simpa using hR
    have HN := Lib.hid hnone
    clear hR hp h hcls h1 h2 h3 hf happ hnone c1
    go_enter Tryz.func203, Tryz.ntmps203
    go_wp2_with fail
    go_quiet (fail)
    all_goals go_wp2_with fail
    all_goals refine (c3 _).mono ?_
    all_goals rintro e w2 ⟨rfl, rfl⟩
    all_goals go_wp2
    all_goals go_ret
    all_goals exact .inl ⟨rfl, HN.out, below_drewN (Below.refl _ _)⟩
end Go.Proofs.YtbhnjnoblkfckabGreatDoor

-- from XCan5
/- Places: the machine that writes a place in its plainest form: the second digit of a code. -/
namespace Go.Proofs.YtbhnjnoblkfckabGreatDoor
open Go.RowKit

/-- append on a row of the call's own, as one step of a region that draws. -/
theorem step_append_own {P : Program} {ops : Array Oper} {o : Oper} {a : Act} {w : World} {K : Act → World → Prop} {Q : Exit → Act → World → Prop} {E : Prop}
    (hg : o.guard = none) (s x : Operand) (t : TypeId) (hop : o.op = Op.call { callee := Callee.builtin Builtin.append, args := #[s, x], argTypes := #[t, t] })
    (base : Nat) (e : TypeId) (i : TypeInfo) (z : Value) (size bytes : Nat) (h1 : P.underlying t = some (.slice e)) (h2 : P.info? e = some i) (h3 : i.zero = some z) (h4 : i.size = size) (h5 : i.bytes = bytes) (h6 : z.cells.size = size) (h7 : 0 < size)
    (v : Value) (n : Nat) (xs : List Value) (hs : a.eval s = v) (hown : w.ownsRow base e size v n xs)
    (ad : Addr) (m c : Nat) (news : List Value) (hx : a.eval x = .slice (some ad) m c) (hn : news.length = m * size) (hc : ∀ j u, news[j]? = some u → w.cell? (ad.add j) = some u) (h1c : ∀ u ∈ news, u.oneCell' = true)
    (b1 : n + m ≤ maxLen) (b2 : (n + m) * bytes ≤ 140737488355328) (hbase : base ≤ w.heap.size)
    (hK : ∀ v' w', w'.ownsRow base e size v' (n + m) (xs ++ news) → w.grownBy w' v.ownBlock → K (a.put o.dst v') w') :
    if Region.wanted o (yielded ops a.tmps) = true then Oper.wp P o a w K Q else E := by
  have hw : Region.wanted o (yielded ops a.tmps) = true := by simp [Region.wanted, hg]
  rw [if_pos hw]
  obtain ⟨v', w', hrun, r1, r2, _⟩ := run_append_own (P := P) w base t o.type e i z size bytes h1 h2 h3 h4 h5 h6 h7 v n xs hown ad m c news hn hc h1c b1 b2 hbase
  unfold Oper.wp
  simp [execOp, hop, resolve, invoke, builtin, hs, hx, hrun, Result.andThen]
  exact hK v' w' r1 r2

theorem doubt_idx (n : Nat) (hn : n < 256) : decide (0 ≤ Lib.indexByte [46, 47, 63, 37, 38, 61] (UInt8.ofNat n)) = doubtB n := by
  have h : ∀ n : Fin 256, decide (0 ≤ Lib.indexByte [46, 47, 63, 37, 38, 61] (UInt8.ofNat n.val)) = doubtB n.val := by decide +kernel
  exact h ⟨n, hn⟩
theorem hexU_ne (k : Nat) (hk : k < 16) : hexU k ≠ 47 ∧ hexU k ≠ 63 := by
  have h : ∀ k : Fin 16, hexU k.val ≠ 47 ∧ hexU k.val ≠ 63 := by decide
  exact h ⟨k, hk⟩
theorem undoubt {n : Nat} (h : doubtB n = false) : n ≠ 47 ∧ n ≠ 63 := by
  constructor
  · rintro rfl; revert h; decide
  · rintro rfl; revert h; decide
theorem ofNat_ne {n k : Nat} (hn : n < 256) (hk : k < 256) (h : n ≠ k) : UInt8.ofNat n ≠ UInt8.ofNat k := by
  intro e
  have := congrArg UInt8.toNat e
  simp at this; omega
theorem cbase_code {q : Bool} {R : Option (List UInt8)} {ys l : List UInt8} {seg x y : Nat} {a c : UInt8} (h : CBase q R ys seg (37 :: a :: c :: l)) (ha : hexV a = some x) (hc : hexV c = some y) (hd : doubtB (x * 16 + y) = false) : CBase q R (ys ++ putC (x * 16 + y)) seg l := by
  have hx := hexV_lt ha
  have hy := hexV_lt hc
  obtain ⟨d1, d2⟩ := undoubt hd
  cases q with
  | true =>
    obtain ⟨h1, h2⟩ := h
    rw [resQ_code h1 ha hc, hd] at h2
    exact ⟨h1.app _, by simpa using h2⟩
  | false =>
    obtain ⟨h1, h2⟩ := h
    rw [resP_code h1 ha hc, hd] at h2
    refine ⟨h1.app _ ?_ ?_, by simpa using h2⟩
    · unfold putC
      split
      · simpa using (ofNat_ne (k := 47) (by omega) (by decide) d1).symm
      · have u1 := hexU_ne ((x * 16 + y) / 16) (by omega)
        have u2 := hexU_ne ((x * 16 + y) % 16) (by omega)
        simp only [upperL, List.mem_cons, List.not_mem_nil, or_false, not_or]
        exact ⟨by decide, u1.1.symm, u2.1.symm⟩
    · unfold putC
      split
      · simpa using (ofNat_ne (k := 63) (by omega) (by decide) d2).symm
      · have u1 := hexU_ne ((x * 16 + y) / 16) (by omega)
        have u2 := hexU_ne ((x * 16 + y) % 16) (by omega)
        simp only [upperL, List.mem_cons, List.not_mem_nil, or_false, not_or]
        exact ⟨by decide, u1.2.symm, u2.2.symm⟩
theorem cbase_doubt {q : Bool} {R : Option (List UInt8)} {ys l : List UInt8} {seg x y : Nat} {a c : UInt8} (h : CBase q R ys seg (37 :: a :: c :: l)) (ha : hexV a = some x) (hc : hexV c = some y) (hd : doubtB (x * 16 + y) = true) : R = none := by
  cases q with
  | true =>
    obtain ⟨h1, h2⟩ := h
    rw [resQ_code h1 ha hc, hd] at h2; simpa using h2
  | false =>
    obtain ⟨h1, h2⟩ := h
    rw [resP_code h1 ha hc, hd] at h2; simpa using h2
theorem cbase_bad {q : Bool} {R : Option (List UInt8)} {ys l : List UInt8} {seg x : Nat} {a c : UInt8} (h : CBase q R ys seg (37 :: a :: c :: l)) (ha : hexV a = some x) (hc : hexV c = none) : R = none := by
  cases q with
  | true => obtain ⟨h1, h2⟩ := h; rw [h2, resQ_bad2 hc]
  | false => obtain ⟨h1, h2⟩ := h; rw [h2, resP_bad2 ha hc]
def bkS : Bool → CS
  | true => .query
  | false => .path
theorem cV_bk (b : Nat) (q : Bool) : cV b (bkS q) = bkV b q := by cases q <;> rfl
theorem res_bk (b : Nat) (q : Bool) : resOf b (bkS q) = .nilFunc := by cases q <;> rfl
theorem bk_ne (q : Bool) : bkS q ≠ .root := by cases q <;> (intro h; cases h)
theorem cinv_bk {q : Bool} {R : Option (List UInt8)} {ys l : List UInt8} {seg high : Nat} (h : CBase q R ys seg l) : CInv R (bkS q) ys seg high l := by cases q <;> exact h

set_option maxHeartbeats 1600000 in
theorem s_d2_bad (b : Nat) (q : Bool) (R : Option (List UInt8)) (ys l : List UInt8) (a c : UInt8) (seg x : Nat) (w : World) (h : CAt w b ys seg (bkV b q) x) (ha : hexV a = some x) (hR : CBase q R ys seg (37 :: a :: c :: l)) (hc : hexV c = none) :
    Calls Tryz.prog 234 #[.pointer (some ⟨b, 0, none⟩), .int .u8 c.toNat] w (CNext b R ys.length l w) := by
  have HN := Lib.hid (cbase_bad hR ha hc)
  have hx16 := hexV_lt ha
  have c1 := fun W => hex_value_none c hc W
  have hn0 : bits .or .u8 ((x : Int) * 16) 0 = ((x * 16 : Nat) : Int) := by have := nib x 0 hx16 (by decide); simpa using this
  obtain ⟨v, hh, ho⟩ := h
  have k3 : w.cell? ⟨b, 3, none⟩ = some (.int .u8 (x : Int)) := by simp [World.cell?, hh]
  clear hR hc ha hh ho
  go_enter Tryz.func234, Tryz.ntmps234
  go_wp2_with fail
  refine (c1 _).mono ?_
  rintro e w' ⟨rfl, rfl⟩
  go_wp2
  go_ret
  exact .inl ⟨rfl, HN.out, Below.refl _ _⟩

set_option maxHeartbeats 1600000 in
theorem s_d2_doubt (b : Nat) (q : Bool) (R : Option (List UInt8)) (ys l : List UInt8) (a c : UInt8) (seg x y : Nat) (w : World) (h : CAt w b ys seg (bkV b q) x) (ha : hexV a = some x) (hR : CBase q R ys seg (37 :: a :: c :: l)) (hc : hexV c = some y) (hd : doubtB (x * 16 + y) = true) :
    Calls Tryz.prog 234 #[.pointer (some ⟨b, 0, none⟩), .int .u8 c.toNat] w (CNext b R ys.length l w) := by
  have HN := Lib.hid (cbase_doubt hR ha hc hd)
  have hx16 := hexV_lt ha
  have hy16 := hexV_lt hc
  have c1 := fun W => hex_value_some c y hc W
  have hnib := nib x y hx16 hy16
  have hnn : (UInt8.ofNat (x * 16 + y)).toNat = x * 16 + y := by simp; omega
  have c2 := fun W => idx ⟨#[46, 47, 63, 37, 38, 61]⟩ (UInt8.ofNat (x * 16 + y)) W
  rw [hnn] at c2
  have hI := doubt_idx (x * 16 + y) (by omega)
  rw [hd, decide_eq_true_iff] at hI
  have e0 : (ByteArray.mk #[46, 47, 63, 37, 38, 61]).data.toList = [46, 47, 63, 37, 38, 61] := rfl
  rw [e0] at c2
  generalize Lib.indexByte [46, 47, 63, 37, 38, 61] (UInt8.ofNat (x * 16 + y)) = I at *
  obtain ⟨v, hh, ho⟩ := h
  have k3 : w.cell? ⟨b, 3, none⟩ = some (.int .u8 (x : Int)) := by simp [World.cell?, hh]
  have hn256 : x * 16 + y < 256 := by omega
  clear hR hc ha hh ho hnn hd e0
  generalize x * 16 + y = n at *
  go_enter Tryz.func234, Tryz.ntmps234
  go_wp2_with fail
  refine (c1 _).mono ?_
  rintro e w' ⟨rfl, rfl⟩
  go_wp2_with fail
  refine (c2 _).mono ?_
  rintro e w' ⟨rfl, rfl⟩
  go_wp2
  go_ret
  exact .inl ⟨rfl, HN.out, Below.refl _ _⟩
end Go.Proofs.YtbhnjnoblkfckabGreatDoor

-- from XCan6
/- Places: the machine that writes a place in its plainest form: a code's end, written as a byte or as a code. -/
namespace Go.Proofs.YtbhnjnoblkfckabGreatDoor
open Go.RowKit

set_option maxHeartbeats 1600000 in
theorem s_d2_free (b : Nat) (q : Bool) (R : Option (List UInt8)) (ys l : List UInt8) (a c : UInt8) (seg x y : Nat) (w : World) (h : CAt w b ys seg (bkV b q) x) (hcls : Cls w) (hg : 1 < b) (hn : ys.length ≤ 900) (ha : hexV a = some x) (hR : CBase q R ys seg (37 :: a :: c :: l)) (hc : hexV c = some y) (hd : doubtB (x * 16 + y) = false) (hf : freeB (UInt8.ofNat (x * 16 + y)) = true) :
    Calls Tryz.prog 234 #[.pointer (some ⟨b, 0, none⟩), .int .u8 c.toNat] w (CNext b R ys.length l w) := by
  have hb := cbase_code hR ha hc hd
  rw [show putC (x * 16 + y) = [UInt8.ofNat (x * 16 + y)] from if_pos hf] at hb
  have hfin : Hid (CInv R (bkS q) (ys ++ [UInt8.ofNat (x * 16 + y)]) seg x l) := Lib.hid (cinv_bk hb)
  have hx16 := hexV_lt ha
  have hy16 := hexV_lt hc
  have c1 := fun W => hex_value_some c y hc W
  have hnib := nib x y hx16 hy16
  have hnn : (UInt8.ofNat (x * 16 + y)).toNat = x * 16 + y := by simp; omega
  have c2 := fun W => idx ⟨#[46, 47, 63, 37, 38, 61]⟩ (UInt8.ofNat (x * 16 + y)) W
  rw [hnn] at c2
  have hI := doubt_idx (x * 16 + y) (by omega)
  rw [hd, decide_eq_false_iff_not] at hI
  have e0 : (ByteArray.mk #[46, 47, 63, 37, 38, 61]).data.toList = [46, 47, 63, 37, 38, 61] := rfl
  rw [e0] at c2
  generalize Lib.indexByte [46, 47, 63, 37, 38, 61] (UInt8.ofNat (x * 16 + y)) = I at *
  have c3 := impl_free (UInt8.ofNat (x * 16 + y)) (w.setCell ⟨b, 2, none⟩ .nilFunc) (hcls.belowB (below_setC (Below.refl b w)) hg)
  rw [hnn, hf] at c3
  have c4 := fun nx => c_put b ys seg x .nilFunc nx (UInt8.ofNat (x * 16 + y)) (w.setCell ⟨b, 2, none⟩ .nilFunc) (h.set2 .nilFunc) (by omega)
  rw [hnn] at c4
  have hI' : I < 0 := by omega
  obtain ⟨v, hh, ho⟩ := h
  have k2 : w.cell? ⟨b, 2, none⟩ = some (bkV b q) := by simp [World.cell?, hh]
  have f2 : w.frozen? ⟨b, 2, none⟩ = false := by simp [World.frozen?, hh]
  have k3 : w.cell? ⟨b, 3, none⟩ = some (.int .u8 (x : Int)) := by simp [World.cell?, hh]
  have hn256 : x * 16 + y < 256 := by omega
  have hlen : (ys ++ [UInt8.ofNat (x * 16 + y)]).length ≤ ys.length + 3 := by simp
  have hlast : ∀ w2, CAt w2 b (ys ++ [UInt8.ofNat (x * 16 + y)]) seg .nilFunc x → Below b (w.setCell ⟨b, 2, none⟩ .nilFunc) w2 → CNext b R ys.length l w (.returned (bkV b q)) w2 := by
    intro w2 h1 h2
    rw [← cV_bk]
    exact next_of (by rw [res_bk]; exact h1) hfin hlen ((below_setC (Below.refl b w)).trans h2) (bk_ne q)
  have HL := Lib.hid hlast
  clear hR hc ha hh ho hnn hd e0 hcls hb hfin hf hI hlen hlast
  generalize UInt8.ofNat (x * 16 + y) = z at *
  generalize x * 16 + y = n at *
  cases q
  · unfold bkV pathV at k2
    unfold bkV pathV at HL
    go_enter Tryz.func234, Tryz.ntmps234
    go_wp2_with fail
    refine (c1 _).mono ?_
    rintro e w' ⟨rfl, rfl⟩
    go_wp2_with fail
    refine (c2 _).mono ?_
    rintro e w' ⟨rfl, rfl⟩
    go_wp2_with fail
    refine c3.mono ?_
    rintro e w' ⟨rfl, rfl⟩
    go_wp2_with fail
    refine (c4 _).mono ?_
    rintro e w2 ⟨rfl, h1, h2⟩
    go_wp2
    go_ret
    exact HL.out w2 h1 h2
  · unfold bkV queryV at k2
    unfold bkV queryV at HL
    go_enter Tryz.func234, Tryz.ntmps234
    go_wp2_with fail
    refine (c1 _).mono ?_
    rintro e w' ⟨rfl, rfl⟩
    go_wp2_with fail
    refine (c2 _).mono ?_
    rintro e w' ⟨rfl, rfl⟩
    go_wp2_with fail
    refine c3.mono ?_
    rintro e w' ⟨rfl, rfl⟩
    go_wp2_with fail
    refine (c4 _).mono ?_
    rintro e w2 ⟨rfl, h1, h2⟩
    go_wp2
    go_ret
    exact HL.out w2 h1 h2
end Go.Proofs.YtbhnjnoblkfckabGreatDoor

-- from XCan7
/- Places: the machine that writes a place in its plainest form: a code's end, written as a code. -/
namespace Go.Proofs.YtbhnjnoblkfckabGreatDoor
open Go.RowKit

theorem three_cells (W : World) (p q r : Value) (T : TypeId) (B : Nat) (hB : B = W.heap.size) : ∀ (j : Nat) u, [p, q, r][j]? = some u → (W.alloc (.cells #[p, q, r] T)).cell? ((⟨B, 0, none⟩ : Addr).add j) = some u := by
  intro j u hu
  subst hB
  match j, hu with
  | 0, hu => exact (World.cell?_alloc_at _ _ _ _ rfl).trans (by simpa using hu)
  | 1, hu => exact (World.cell?_alloc_at _ _ _ _ rfl).trans (by simpa using hu)
  | 2, hu => exact (World.cell?_alloc_at _ _ _ _ rfl).trans (by simpa using hu)
  | j + 3, hu => simp at hu

set_option maxRecDepth 100000 in
set_option maxHeartbeats 6400000 in
theorem s_d2_code (b : Nat) (q : Bool) (R : Option (List UInt8)) (ys l : List UInt8) (a c : UInt8) (seg x y : Nat) (w : World) (h : CAt w b ys seg (bkV b q) x) (hcls : Cls w) (hg : 1 < b) (hn : ys.length ≤ 900) (ha : hexV a = some x) (hR : CBase q R ys seg (37 :: a :: c :: l)) (hc : hexV c = some y) (hd : doubtB (x * 16 + y) = false) (hf : freeB (UInt8.ofNat (x * 16 + y)) = false) :
    Calls Tryz.prog 234 #[.pointer (some ⟨b, 0, none⟩), .int .u8 c.toNat] w (CNext b R ys.length l w) := by
  have hb := cbase_code hR ha hc hd
  have hx16 := hexV_lt ha
  have hy16 := hexV_lt hc
  have hdv : (x * 16 + y) / 16 = x := by omega
  have hmd : (x * 16 + y) % 16 = y := by omega
  rw [show putC (x * 16 + y) = [37, hexU x, hexU y] from by unfold putC; rw [if_neg (by rw [hf]; decide)]; unfold upperL; rw [hdv, hmd]] at hb
  have hfin : Hid (CInv R (bkS q) (ys ++ [37, hexU x, hexU y]) seg x l) := Lib.hid (cinv_bk hb)
  have c1 := fun W => hex_value_some c y hc W
  have hnib := nib x y hx16 hy16
  have hnn : (UInt8.ofNat (x * 16 + y)).toNat = x * 16 + y := by simp; omega
  have c2 := fun W => idx ⟨#[46, 47, 63, 37, 38, 61]⟩ (UInt8.ofNat (x * 16 + y)) W
  rw [hnn] at c2
  have hI := doubt_idx (x * 16 + y) (by omega)
  rw [hd, decide_eq_false_iff_not] at hI
  have e0 : (ByteArray.mk #[46, 47, 63, 37, 38, 61]).data.toList = [46, 47, 63, 37, 38, 61] := rfl
  rw [e0] at c2
  generalize Lib.indexByte [46, 47, 63, 37, 38, 61] (UInt8.ofNat (x * 16 + y)) = I at *
  have c3 := impl_free (UInt8.ofNat (x * 16 + y)) (w.setCell ⟨b, 2, none⟩ .nilFunc) (hcls.belowB (below_setC (Below.refl b w)) hg)
  rw [hnn, hf] at c3
  have hI' : I < 0 := by omega
  have h2 := h.set2 .nilFunc
  obtain ⟨v0, hh0, ho0⟩ := h
  have k2 : w.cell? ⟨b, 2, none⟩ = some (bkV b q) := by simp [World.cell?, hh0]
  have f2 : w.frozen? ⟨b, 2, none⟩ = false := by simp [World.frozen?, hh0]
  have k3 : w.cell? ⟨b, 3, none⟩ = some (.int .u8 (x : Int)) := by simp [World.cell?, hh0]
  have hn256 : x * 16 + y < 256 := by omega
  have hq1 := digs_at x hx16 (by simp [digs, ByteArray.size]; omega)
  have hq2 := digs_at y hy16 (by simp [digs, ByteArray.size]; omega)
  have hblt : b < w.heap.size := (Array.getElem?_eq_some_iff.1 hh0).1
  have hbs : Below b w (w.setCell ⟨b, 2, none⟩ .nilFunc) := below_setC (Below.refl b w)
  obtain ⟨W, hW⟩ : ∃ W, W = w.setCell ⟨b, 2, none⟩ .nilFunc := ⟨_, rfl⟩
  have hWs : W.heap.size = w.heap.size := by rw [hW]; simp
  rw [← hW] at h2 c3 hbs
  obtain ⟨v, hh, ho⟩ := h2
  have m0 : W.cell? ⟨b, 0, none⟩ = some v := by simp [World.cell?, hh]
  have m3 : W.cell? ⟨b, 3, none⟩ = some (.int .u8 (x : Int)) := by simp [World.cell?, hh]
  obtain ⟨i0, hi, hz0, hz1, hz2⟩ := info_parts Tryz.info5
  have hownA : ∀ o : Obj, (W.drew.alloc o).ownsRow (b + 1) 5 1 v ys.length (u8s ys) := fun o => (own_drewN ho 1).alloc o
  have hvb : v.ownBlock ≠ some b := fun e => by have := (ho.lt b e).1; omega
  have hlen : (ys ++ [37, hexU x, hexU y]).length ≤ ys.length + 3 := by simp
  have hkeep : ∀ (o : Obj) (w3 : World), (W.drew.alloc o).grownBy w3 v.ownBlock → w3.heap[b]? = W.heap[b]? ∧ Below b w w3 := by
    intro o w3 hg3
    have hbW : b < W.heap.size := by omega
    have e1 : (W.drew.alloc o).heap[b]? = W.heap[b]? := Below.heap_alloc W o b hbW
    refine ⟨(hg3.block b (by simp; omega) (fun e => hvb e.symm)).trans e1, hbs.trans ?_⟩
    refine ⟨hg3.os, hg3.tape, hg3.output, ?_, fun k hk => ?_⟩
    · have := hg3.size; simp at this; omega
    · refine (hg3.block k (by simp; omega) (fun e => ?_)).trans (Below.heap_alloc W o k (by omega))
      have := (ho.lt k e.symm).1; omega
  have hlast : ∀ (w3 : World) (v' : Value), w3.ownsRow (b + 1) 5 1 v' (ys.length + 3) (u8s ys ++ [.int .u8 37, .int .u8 ((hexU x).toNat : Int), .int .u8 ((hexU y).toNat : Int)]) → w3.heap[b]? = W.heap[b]? → Below b w w3 → CNext b R ys.length l w (.returned (bkV b q)) (w3.setCell ⟨b, 0, none⟩ v') := by
    intro w3 v' ho3 hh3 hb3
    have hu : u8s ys ++ [.int .u8 37, .int .u8 ((hexU x).toNat : Int), .int .u8 ((hexU y).toNat : Int)] = u8s (ys ++ [37, hexU x, hexU y]) := by simp [u8s]
    rw [hu] at ho3
    rw [← cV_bk]
    refine next_of (by rw [res_bk]; exact CAt.set0 (hh3.trans hh) ho3 (by simp)) hfin hlen (below_setC hb3) (bk_ne q)
  rw [← hq1, ← hq2] at hlast
  have HL := Lib.hid hlast
  have HK := Lib.hid hkeep
  have HO := Lib.hid hownA
  have hbW1 : b + 1 ≤ W.heap.size := by omega
  have HW := Lib.hid hW
  have ML : Hid (W.heap[b]? = some (.cells #[v, .int .i64 (seg : Int), .nilFunc, .int .u8 (x : Int)] 170 (0, 0))) := Lib.hid hh
  clear hR hc ha hh0 ho0 hnn hd e0 hcls hb hfin hf hI hlen hlast hkeep hownA hvb hh ho hdv hmd hbs hq1 hq2
  generalize UInt8.ofNat (x * 16 + y) = z at *
  generalize x * 16 + y = n at *
  generalize bkV b q = nx at *
  go_enter Tryz.func234, Tryz.ntmps234
  go_wp2_with fail
  refine (c1 _).mono ?_
  rintro e w' ⟨rfl, rfl⟩
  go_wp2_with fail
  refine (c2 _).mono ?_
  rintro e w' ⟨rfl, rfl⟩
  go_wp2_with fail
  rw [← HW.out]
  refine c3.mono ?_
  rintro e w' ⟨rfl, rfl⟩
  clear c1 c2 c3 k2 k3 f2 hW
  have hxi : (x : Int) < 16 := by omega
  have hyi : (y : Int) < 16 := by omega
  go_wp2_with fail
  go_region_law (refine step_append_own rfl _ _ 37 rfl (b + 1) 5 i0 _ 1 1 Tryz.underlying37 hi hz0 hz1 hz2 rfl (by decide) _ _ _ rfl (HO.out _) ⟨w.heap.size, 0, none⟩ 3 3 [_, _, _] rfl rfl (three_cells _ _ _ _ _ _ (by simp [hWs])) (by intro u hu; simp at hu; rcases hu with rfl | rfl | rfl <;> rfl) (by unfold maxLen; omega) (by omega) (by simp; omega) ?_; intro v' w3 ho3 hg3; obtain ⟨g', cap', rfl⟩ := own_form ho3 (by omega); obtain ⟨hh3, hb3⟩ := HK.out _ w3 hg3; have n0 : w3.cell? ⟨b, 0, none⟩ = some v := ((World.cell?_of_block (a := ⟨b, 0, none⟩) hh3).trans m0); have g0 : w3.frozen? ⟨b, 0, none⟩ = false := (by simp [World.frozen?, hh3, ML.out]))
  all_goals go_wp2
  all_goals go_ret
  all_goals exact HL.out w3 _ ho3 hh3 hb3
end Go.Proofs.YtbhnjnoblkfckabGreatDoor

-- from XTakes
/- Places: what a place means, by the machine; the exact law. -/
namespace Go.Proofs.YtbhnjnoblkfckabGreatDoor
open Go.RowKit

theorem step_not_nil (f : Fn) (a c : Array Value) (w : World) : (binOp .eql 168 (.func f a c) .nilFunc).run Tryz.prog w = .ok (.bool false) w := by kernel_rfl
theorem step_nil (w : World) : (binOp .eql 168 .nilFunc .nilFunc).run Tryz.prog w = .ok (.bool true) w := by kernel_rfl

namespace Lw
end Lw
end Go.Proofs.YtbhnjnoblkfckabGreatDoor

-- from XCan8
/- Places: the machine that writes a place in its plainest form, over a whole text. -/
namespace Go.Proofs.YtbhnjnoblkfckabGreatDoor
open Go.RowKit

theorem s_path (b : Nat) (R : Option (List UInt8)) (ys l : List UInt8) (c : UInt8) (seg high : Nat) (w : World) (h : CAt w b ys seg .nilFunc high) (hcls : Cls w) (hg : 1 < b) (hn : ys.length ≤ 900) (hR : CBase false R ys seg (c :: l)) :
    Calls Tryz.prog 203 #[.pointer (some ⟨b, 0, none⟩), .int .u8 c.toNat] w (CNext b R ys.length l w) := by
  by_cases h47 : c = 47
  · subst h47; exact s_path47 b R ys l seg high w h hcls hg hn hR
  · by_cases h63 : c = 63
    · subst h63; exact s_path63 b R ys l seg high w h hn hR
    · by_cases h37 : c = 37
      · subst h37; exact s_path37 b R ys l seg high w h hn hR
      · exact s_pathlit b R ys l c seg high w h hcls hn h37 h63 h47 hR

theorem s_d2 (b : Nat) (q : Bool) (R : Option (List UInt8)) (ys l : List UInt8) (c : UInt8) (seg high : Nat) (w : World) (h : CAt w b ys seg (bkV b q) high) (hcls : Cls w) (hg : 1 < b) (hn : ys.length ≤ 900) (hR : CInv R (.d2 q) ys seg high (c :: l)) :
    Calls Tryz.prog 234 #[.pointer (some ⟨b, 0, none⟩), .int .u8 c.toNat] w (CNext b R ys.length l w) := by
  obtain ⟨a, ha, hR⟩ := hR
  cases hc : hexV c with
  | none => exact s_d2_bad b q R ys l a c seg high w h ha hR hc
  | some y =>
    cases hd : doubtB (high * 16 + y) with
    | true => exact s_d2_doubt b q R ys l a c seg high y w h ha hR hc hd
    | false =>
      cases hf : freeB (UInt8.ofNat (high * 16 + y)) with
      | true => exact s_d2_free b q R ys l a c seg high y w h hcls hg hn ha hR hc hd hf
      | false => exact s_d2_code b q R ys l a c seg high y w h hcls hg hn ha hR hc hd hf

theorem c_form (b : Nat) (st : CS) : ∃ N, cV b st = .func (.func N) #[.pointer (some ⟨b, 0, none⟩)] #[] := by
  cases st <;> exact ⟨_, rfl⟩

def CEnd (b : Nat) (R : Option (List UInt8)) (w : World) (e : Ending) (w' : World) : Prop :=
  Below b w w' ∧ ((e = .returned (.bool false) ∧ R = none) ∨
    (e = .returned (.bool true) ∧ ∃ st ys seg high, st ≠ .root ∧ CAt w' b ys seg (resOf b st) high ∧ CInv R st ys seg high [] ∧ ys.length ≤ 200))

set_option maxRecDepth 100000 in
set_option maxHeartbeats 6400000 in
theorem takes_c (b : Nat) (s : ByteArray) (R : Option (List UInt8)) (hR : R = rootR s.data.toList) (w : World) (h : CAt w b [] 0 .nilFunc 0) (hcls : Cls w) (hg : 1 < b) (hs : s.size ≤ 40) (hs0 : 0 < s.size) :
    Calls Tryz.prog 148 #[cV b .root, .string s] w (CEnd b R w) := by
  have hq1 := step_nil
  have hq2 := step_not_nil
  have hfst : Hid (CInv R .root [] 0 0 (s.data.toList.drop 0)) := Lib.hid ⟨rfl, by rw [List.drop_zero]; exact hR⟩
  go_enter Tryz.func148, Tryz.ntmps148
  go_wp2_with fail
  go_loopw [0, 8] (fun f i wr => ∃ (k : Nat) (st : CS) (ys : List UInt8) (seg high : Nat), k ≤ s.size ∧ i = .int .i64 k ∧ f = cV b st ∧ (st = .root → k = 0) ∧ CAt wr b ys seg (resOf b st) high ∧ ys.length ≤ 3 * k ∧ Hid (CInv R st ys seg high (s.data.toList.drop k)) ∧ Below b w wr) (fun _ i _ => s.size - (intOf i).toNat)
  case atStart => exact ⟨0, .root, [], 0, 0, Nat.zero_le _, rfl, rfl, fun _ => rfl, h, by simp, hfst, Below.refl _ _⟩
  case round =>
    clear hR h hfst
    obtain ⟨k, st, ys, seg, high, hk, rfl, rfl, hrt, hm, hlen, HI, hbel⟩ := hrel
    have hcw := hcls.belowB hbel hg
    by_cases hlt : k < s.size
    · rw [drop_at s k hlt] at HI
      cases st with
      | root =>
        obtain ⟨rfl, hI⟩ := HI.out
        have c1 := s_root b R s[k] _ seg high wr hm hI
        unfold cV
        generalize hd : s.data.toList.drop (k + 1) = l at c1
        have HD := Lib.hid hd
        clear HI hm hd hrt
        go_wp2_with fail
        refine c1.mono ?_
        rintro e w1 (⟨rfl, hn, hb⟩ | ⟨st2, ys2, seg2, high2, h0, rfl, h1, h2, h3, h4⟩)
        · clear c1
          go_wp2
          go_ret
          exact ⟨hbel.trans hb, .inl ⟨rfl, hn⟩⟩
        · clear c1
          obtain ⟨N, hX⟩ := c_form b st2
          rw [hX]
          have HX := Lib.hid hX; clear hX
          go_wp2
          go_roundw
          case rel => exact ⟨k + 1, st2, ys2, seg2, high2, by omega, by go_num, HX.out.symm, fun h => absurd h h0, h1, by omega, by rw [HD.out]; exact h2, hbel.trans h4⟩
          case measure => simp [intOf]; omega
      | path =>
        have c1 := s_path b R ys _ s[k] seg high wr hm hcw hg (by omega) HI.out
        unfold cV pathV
        generalize hd : s.data.toList.drop (k + 1) = l at c1
        have HD := Lib.hid hd
        clear HI hm hd hrt
        go_wp2_with fail
        refine c1.mono ?_
        rintro e w1 (⟨rfl, hn, hb⟩ | ⟨st2, ys2, seg2, high2, h0, rfl, h1, h2, h3, h4⟩)
        · clear c1
          go_wp2
          go_ret
          exact ⟨hbel.trans hb, .inl ⟨rfl, hn⟩⟩
        · clear c1
          obtain ⟨N, hX⟩ := c_form b st2
          rw [hX]
          have HX := Lib.hid hX; clear hX
          go_wp2
          go_roundw
          case rel => exact ⟨k + 1, st2, ys2, seg2, high2, by omega, by go_num, HX.out.symm, fun h => absurd h h0, h1, by omega, by rw [HD.out]; exact h2, hbel.trans h4⟩
          case measure => simp [intOf]; omega
      | query =>
        have c1 := s_query b R ys _ s[k] seg high wr hm hcw (by omega) HI.out
        unfold cV queryV
        generalize hd : s.data.toList.drop (k + 1) = l at c1
        have HD := Lib.hid hd
        clear HI hm hd hrt
        go_wp2_with fail
        refine c1.mono ?_
        rintro e w1 (⟨rfl, hn, hb⟩ | ⟨st2, ys2, seg2, high2, h0, rfl, h1, h2, h3, h4⟩)
        · clear c1
          go_wp2
          go_ret
          exact ⟨hbel.trans hb, .inl ⟨rfl, hn⟩⟩
        · clear c1
          obtain ⟨N, hX⟩ := c_form b st2
          rw [hX]
          have HX := Lib.hid hX; clear hX
          go_wp2
          go_roundw
          case rel => exact ⟨k + 1, st2, ys2, seg2, high2, by omega, by go_num, HX.out.symm, fun h => absurd h h0, h1, by omega, by rw [HD.out]; exact h2, hbel.trans h4⟩
          case measure => simp [intOf]; omega
      | d1 q =>
        have c1 := s_d1 b q R ys _ s[k] seg high wr hm HI.out
        unfold cV
        generalize hd : s.data.toList.drop (k + 1) = l at c1
        have HD := Lib.hid hd
        clear HI hm hd hrt
        go_wp2_with fail
        refine c1.mono ?_
        rintro e w1 (⟨rfl, hn, hb⟩ | ⟨st2, ys2, seg2, high2, h0, rfl, h1, h2, h3, h4⟩)
        · clear c1
          go_wp2
          go_ret
          exact ⟨hbel.trans hb, .inl ⟨rfl, hn⟩⟩
        · clear c1
          obtain ⟨N, hX⟩ := c_form b st2
          rw [hX]
          have HX := Lib.hid hX; clear hX
          go_wp2
          go_roundw
          case rel => exact ⟨k + 1, st2, ys2, seg2, high2, by omega, by go_num, HX.out.symm, fun h => absurd h h0, h1, by omega, by rw [HD.out]; exact h2, hbel.trans h4⟩
          case measure => simp [intOf]; omega
      | d2 q =>
        have c1 := s_d2 b q R ys _ s[k] seg high wr hm hcw hg (by omega) HI.out
        unfold cV
        generalize hd : s.data.toList.drop (k + 1) = l at c1
        have HD := Lib.hid hd
        clear HI hm hd hrt
        go_wp2_with fail
        refine c1.mono ?_
        rintro e w1 (⟨rfl, hn, hb⟩ | ⟨st2, ys2, seg2, high2, h0, rfl, h1, h2, h3, h4⟩)
        · clear c1
          go_wp2
          go_ret
          exact ⟨hbel.trans hb, .inl ⟨rfl, hn⟩⟩
        · clear c1
          obtain ⟨N, hX⟩ := c_form b st2
          rw [hX]
          have HX := Lib.hid hX; clear hX
          go_wp2
          go_roundw
          case rel => exact ⟨k + 1, st2, ys2, seg2, high2, by omega, by go_num, HX.out.symm, fun h => absurd h h0, h1, by omega, by rw [HD.out]; exact h2, hbel.trans h4⟩
          case measure => simp [intOf]; omega
    · go_wp2
      go_ret
      rw [drop_end s k (by omega)] at HI
      exact ⟨hbel, .inr ⟨rfl, st, ys, seg, high, fun h => by have := hrt h; omega, hm, HI.out, by omega⟩⟩
end Go.Proofs.YtbhnjnoblkfckabGreatDoor

