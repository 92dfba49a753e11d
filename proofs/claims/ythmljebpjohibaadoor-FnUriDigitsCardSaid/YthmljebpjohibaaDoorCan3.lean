/- Places: the machine that writes a place in its plainest form: what each step makes of a byte. -/
import Derived.Test.YthmljebpjohibaaDoorCan2
namespace Go.Proofs.YthmljebpjohibaaDoor
open Go.RowKit

inductive CS where
  | root | path | query
  | d1 (q : Bool)
  | d2 (q : Bool)

def bkV (b : Nat) : Bool → Value
  | true => queryV b
  | false => pathV b
def cV (b : Nat) : CS → Value
  | .root => .func (.func 33) #[.pointer (some ⟨b, 0, none⟩)] #[]
  | .path => pathV b
  | .query => queryV b
  | .d1 _ => .func (.func 88) #[.pointer (some ⟨b, 0, none⟩)] #[]
  | .d2 _ => .func (.func 92) #[.pointer (some ⟨b, 0, none⟩)] #[]
def resOf (b : Nat) : CS → Value
  | .d1 q => bkV b q
  | .d2 q => bkV b q
  | _ => .nilFunc

def CBase (q : Bool) (R : Option (List UInt8)) (ys : List UInt8) (seg : Nat) (l : List UInt8) : Prop :=
  match q with
  | true => QOk ys seg ∧ R = resQ ys seg l
  | false => POk ys seg ∧ R = resP ys seg l
/-- What is still to come of the rest l, in each state of the machine. -/
def CInv (R : Option (List UInt8)) (st : CS) (ys : List UInt8) (seg high : Nat) (l : List UInt8) : Prop :=
  match st with
  | .root => ys = [] ∧ R = rootR l
  | .path => CBase false R ys seg l
  | .query => CBase true R ys seg l
  | .d1 q => CBase q R ys seg (37 :: l)
  | .d2 q => ∃ a, hexV a = some high ∧ CBase q R ys seg (37 :: a :: l)

def CNext (b : Nat) (R : Option (List UInt8)) (n : Nat) (l : List UInt8) (w : World) (e : Ending) (w' : World) : Prop :=
  (e = .returned .nilFunc ∧ R = none ∧ Below b w w') ∨
  ∃ st ys seg high, st ≠ .root ∧ e = .returned (cV b st) ∧ CAt w' b ys seg (resOf b st) high ∧ Hid (CInv R st ys seg high l) ∧ ys.length ≤ n + 3 ∧ Below b w w'

theorem Cls.belowB {w w' : World} (h : Cls w) {B : Nat} (hb : Below B w w') (hB : 0 < B) : Cls w' :=
  ⟨Nat.lt_of_lt_of_le h.1 hb.size, fun i hi => (hb.cell (p := ⟨0, i, none⟩) hB).trans (h.2 i hi)⟩

theorem u8_eqc (c k : UInt8) : ((c.toNat : Int) == (k.toNat : Int)) = (c == k) := by
  rw [Bool.eq_iff_iff, beq_iff_eq, beq_iff_eq]
  exact ⟨fun h => UInt8.toNat_inj.mp (by omega), fun h => by rw [h]⟩
theorem u8_eq {c k : UInt8} (h : c = k) : ((c.toNat : Int) == (k.toNat : Int)) = true := by rw [h]; simp
theorem u8_ne {c k : UInt8} (h : c ≠ k) : ((c.toNat : Int) == (k.toNat : Int)) = false := by
  rw [beq_eq_false_iff_ne]; intro h2; exact h (UInt8.toNat_inj.mp (by omega))

set_option maxHeartbeats 800000 in
theorem s_root (b : Nat) (R : Option (List UInt8)) (c : UInt8) (l : List UInt8) (seg high : Nat) (w : World) (h : CAt w b [] seg .nilFunc high) (hR : R = rootR (c :: l)) :
    Calls Tryd.prog 33 #[.pointer (some ⟨b, 0, none⟩), .int .u8 c.toNat] w (CNext b R 0 l w) := by
  have hrc : rootR (c :: l) = if c = 47 then resP [47] 1 l else none := rfl
  rw [hrc] at hR
  by_cases hc : c = 47
  · have hh := u8_eq hc
    simp only [UInt8.reduceToNat, Int.cast_ofNat_Int] at hh
    have hne : ((c.toNat : Int) != 47) = false := by simp only [bne, hh, Bool.not_true]
    rw [if_pos hc] at hR
    have c1 := c_slash b [] seg high .nilFunc w h (by simp)
    have hfin : Hid (CInv R .path [47] 1 high l) := Lib.hid ⟨⟨by simp, by simp, by simp, by simp⟩, hR⟩
    clear hrc hR hh hc h
    unfold pathV at c1
    go_enter Tryd.func33, Tryd.ntmps33
    go_wp2_with fail
    refine c1.mono ?_
    rintro e w1 ⟨rfl, h1, h2⟩
    go_wp2
    go_ret
    exact .inr ⟨.path, [47], 1, high, (fun h => by cases h), rfl, h1, hfin, by simp, h2⟩
  · have hh := u8_ne hc
    simp only [UInt8.reduceToNat, Int.cast_ofNat_Int] at hh
    have hne : ((c.toNat : Int) != 47) = true := by simp only [bne, hh, Bool.not_false]
    rw [if_neg hc] at hR
    clear hrc hh hc h
    have HR := Lib.hid hR; clear hR
    go_enter Tryd.func33, Tryd.ntmps33
    go_wp2
    go_ret
    exact .inl ⟨rfl, HR.out, Below.refl _ _⟩

/-- What one step leaves where it puts a byte and goes on in the same state or another. -/
theorem next_of {b : Nat} {R : Option (List UInt8)} {n : Nat} {l ys : List UInt8} {seg high : Nat} {w w' : World} {st : CS} (h1 : CAt w' b ys seg (resOf b st) high) (h2 : Hid (CInv R st ys seg high l)) (h3 : ys.length ≤ n + 3) (h4 : Below b w w') (h0 : st ≠ .root := by intro h; cases h) : CNext b R n l w (.returned (cV b st)) w' :=
  .inr ⟨st, ys, seg, high, h0, rfl, h1, h2, h3, h4⟩

set_option maxHeartbeats 1600000 in
theorem s_query (b : Nat) (R : Option (List UInt8)) (ys l : List UInt8) (c : UInt8) (seg high : Nat) (w : World) (h : CAt w b ys seg .nilFunc high) (hcls : Cls w) (hn : ys.length ≤ 900) (hR : CBase true R ys seg (c :: l)) :
    Calls Tryd.prog 80 #[.pointer (some ⟨b, 0, none⟩), .int .u8 c.toNat] w (CNext b R ys.length l w) := by
  have hmf : ∀ (fn : Fn) (first cap : Array Value) (w : World), (Instr.makeFunc fn first cap).run Tryd.prog w = .ok (.func fn first cap) w := fun _ _ _ _ => rfl
  by_cases hc : c = 37
  · have hh := u8_eq hc
    simp only [UInt8.reduceToNat, Int.cast_ofNat_Int] at hh
    have c1 := c_escape b ys seg high .nilFunc true w h
    simp only [if_true] at c1
    have hfin : Hid (CInv R (.d1 true) ys seg high l) := Lib.hid (by rw [hc] at hR; exact hR)
    clear hR hc hcls
    unfold queryV at c1
    go_enter Tryd.func80, Tryd.ntmps80
    go_wp2_with fail
    refine c1.mono ?_
    rintro e w1 ⟨rfl, h1, h2⟩
    go_wp2
    go_ret
    exact next_of (st := .d1 true) h1 hfin (by omega) h2
  · have hh := u8_ne hc
    obtain ⟨hq, hR⟩ := hR
    rw [resQ_lit hq hc] at hR
    have c1 := fun W => impl_free c W
    have c2 := c_put b ys seg high .nilFunc (queryV b) c w h (by omega)
    have hfin : okLit true c = true → Hid (CInv R .query (ys ++ [c]) seg high l) := fun ho => Lib.hid ⟨hq.app _, by rw [hR, if_pos ho]⟩
    have hnone : okLit true c = false → R = none := fun ho => by rw [hR, ho]; rfl
    have e1 := u8_eqc c 61
    have e2 := u8_eqc c 38
    simp only [UInt8.reduceToNat, Int.cast_ofNat_Int] at e1 e2 hh
    have hlen : (ys ++ [c]).length ≤ ys.length + 3 := by simp
    unfold okLit at hfin hnone
    simp only [Bool.not_true, Bool.and_false, Bool.or_false, Bool.true_and] at hfin hnone
    have c3 := c1 w hcls
    have HF := Lib.hid hfin; have HN := Lib.hid hnone
    clear hR hc c1 hfin hnone h hcls
    unfold queryV at c2
    generalize freeB c = f at *
    generalize (c == 61) = b1 at *
    generalize (c == 38) = b2 at *
    cases b1
    · cases b2
      · cases f
        · go_enter Tryd.func80, Tryd.ntmps80
          go_wp2_with fail
          refine c3.mono ?_
          rintro e w1 ⟨rfl, rfl⟩
          clear c3 c2
          go_wp2
          go_ret
          exact .inl ⟨rfl, HN.out rfl, Below.refl _ _⟩
        · go_enter Tryd.func80, Tryd.ntmps80
          go_wp2_with fail
          refine c3.mono ?_
          rintro e w1 ⟨rfl, rfl⟩
          go_wp2_with fail
          refine c2.mono ?_
          rintro e w1 ⟨rfl, h1, h2⟩
          go_wp2
          go_ret
          exact next_of (st := .query) h1 (HF.out rfl) hlen h2
      · go_enter Tryd.func80, Tryd.ntmps80
        go_wp2_with fail
        refine c2.mono ?_
        rintro e w1 ⟨rfl, h1, h2⟩
        go_wp2
        go_ret
        exact next_of (st := .query) h1 (HF.out (by cases f <;> rfl)) hlen h2
    · go_enter Tryd.func80, Tryd.ntmps80
      go_wp2_with fail
      refine c2.mono ?_
      rintro e w1 ⟨rfl, h1, h2⟩
      go_wp2
      go_ret
      exact next_of (st := .query) h1 (HF.out (by cases f <;> cases b2 <;> rfl)) hlen h2

set_option maxHeartbeats 800000 in
theorem s_d1 (b : Nat) (q : Bool) (R : Option (List UInt8)) (ys l : List UInt8) (c : UInt8) (seg high : Nat) (w : World) (h : CAt w b ys seg (bkV b q) high) (hR : CBase q R ys seg (37 :: c :: l)) :
    Calls Tryd.prog 88 #[.pointer (some ⟨b, 0, none⟩), .int .u8 c.toNat] w (CNext b R ys.length l w) := by
  have hmf : ∀ (fn : Fn) (first cap : Array Value) (w : World), (Instr.makeFunc fn first cap).run Tryd.prog w = .ok (.func fn first cap) w := fun _ _ _ _ => rfl
  cases hx : hexV c with
  | none =>
    have hnone : R = none := by
      cases q with
      | true => obtain ⟨_, hR⟩ := hR; rw [hR, resQ_bad1 hx]
      | false => obtain ⟨_, hR⟩ := hR; rw [hR, resP_bad1 hx]
    have HN := Lib.hid hnone
    have c1 := fun W => hex_value_none c hx W
    clear hR hx hnone h
    go_enter Tryd.func88, Tryd.ntmps88
    go_wp2_with fail
    refine (c1 _).mono ?_
    rintro e w' ⟨rfl, rfl⟩
    go_wp2
    go_ret
    exact .inl ⟨rfl, HN.out, Below.refl _ _⟩
  | some x =>
    have hfin : Hid (CInv R (.d2 q) ys seg x l) := Lib.hid ⟨c, hx, hR⟩
    have c1 := fun W => hex_value_some c x hx W
    have hset := h.set3 x
    obtain ⟨v, hh, ho⟩ := h
    have k3 : w.cell? ⟨b, 3, none⟩ = some (.int .u8 (high : Int)) := by simp [World.cell?, hh]
    have f3 : w.frozen? ⟨b, 3, none⟩ = false := by simp [World.frozen?, hh]
    clear hR hx hh ho
    go_enter Tryd.func88, Tryd.ntmps88
    go_wp2_with fail
    refine (c1 _).mono ?_
    rintro e w' ⟨rfl, rfl⟩
    go_wp2
    go_ret
    exact next_of (st := .d2 q) hset hfin (by omega) (below_set (Below.refl _ _))
end Go.Proofs.YthmljebpjohibaaDoor
