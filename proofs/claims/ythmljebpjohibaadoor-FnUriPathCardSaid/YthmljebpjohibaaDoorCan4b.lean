/- Places: the machine that writes a place in its plainest form: a byte of the path, but a slash. -/
import Derived.Test.YthmljebpjohibaaDoorCan3
namespace Go.Proofs.YthmljebpjohibaaDoor
open Go.RowKit

set_option maxRecDepth 100000 in
set_option maxHeartbeats 3200000 in
theorem s_path63 (b : Nat) (R : Option (List UInt8)) (ys l : List UInt8) (seg high : Nat) (w : World) (h : CAt w b ys seg .nilFunc high) (hn : ys.length ≤ 900) (hR : CBase false R ys seg (63 :: l)) :
    Calls Tryd.prog 69 #[.pointer (some ⟨b, 0, none⟩), .int .u8 63] w (CNext b R ys.length l w) := by
  have hmf : ∀ (fn : Fn) (first cap : Array Value) (w : World), (Instr.makeFunc fn first cap).run Tryd.prog w = .ok (.func fn first cap) w := fun _ _ _ _ => rfl
  obtain ⟨hp, hR⟩ := hR
  rw [resP_ask hp] at hR
  have hfin : Hid (CInv R .query (ys ++ [63]) seg high l) := Lib.hid ⟨hp.ask, hR⟩
  have c1 := fun n => c_put b ys seg high .nilFunc (queryV b) 63 (w.drewN n) h (by omega)
  simp only [UInt8.reduceToNat, Int.cast_ofNat_Int] at c1
  unfold queryV at c1
  clear hR hp h
  go_enter Tryd.func69, Tryd.ntmps69
  go_wp2_with fail
  go_quiet (fail)
  all_goals go_wp2_with fail
  all_goals refine (c1 _).mono ?_
  all_goals rintro e w2 ⟨rfl, h1, h2⟩
  all_goals go_wp2
  all_goals go_ret
  all_goals exact next_of (st := .query) h1 hfin (by simp) (below_drewN_left h2)

set_option maxRecDepth 100000 in
set_option maxHeartbeats 3200000 in
theorem s_path37 (b : Nat) (R : Option (List UInt8)) (ys l : List UInt8) (seg high : Nat) (w : World) (h : CAt w b ys seg .nilFunc high) (__hn : ys.length ≤ 900) (hR : CBase false R ys seg (37 :: l)) :
    Calls Tryd.prog 69 #[.pointer (some ⟨b, 0, none⟩), .int .u8 37] w (CNext b R ys.length l w) := by
  have hmf : ∀ (fn : Fn) (first cap : Array Value) (w : World), (Instr.makeFunc fn first cap).run Tryd.prog w = .ok (.func fn first cap) w := fun _ _ _ _ => rfl
  have hfin : Hid (CInv R (.d1 false) ys seg high l) := Lib.hid hR
  have c1 := fun n => c_escape b ys seg high .nilFunc false (w.drewN n) h
  simp only [Bool.false_eq_true, if_false] at c1
  unfold pathV at c1
  clear hR h
  go_enter Tryd.func69, Tryd.ntmps69
  go_wp2_with fail
  go_quiet (fail)
  all_goals go_wp2_with fail
  all_goals refine (c1 _).mono ?_
  all_goals rintro e w2 ⟨rfl, h1, h2⟩
  all_goals go_wp2
  all_goals go_ret
  all_goals exact next_of (st := .d1 false) h1 hfin (by omega) (below_drewN_left h2)

set_option maxRecDepth 100000 in
set_option maxHeartbeats 3200000 in
theorem s_pathlit (b : Nat) (R : Option (List UInt8)) (ys l : List UInt8) (c : UInt8) (seg high : Nat) (w : World) (h : CAt w b ys seg .nilFunc high) (hcls : Cls w) (hn : ys.length ≤ 900) (h1 : c ≠ 37) (h2 : c ≠ 63) (h3 : c ≠ 47) (hR : CBase false R ys seg (c :: l)) :
    Calls Tryd.prog 69 #[.pointer (some ⟨b, 0, none⟩), .int .u8 c.toNat] w (CNext b R ys.length l w) := by
  have hmf : ∀ (fn : Fn) (first cap : Array Value) (w : World), (Instr.makeFunc fn first cap).run Tryd.prog w = .ok (.func fn first cap) w := fun _ _ _ _ => rfl
  obtain ⟨hp, hR⟩ := hR
  rw [resP_lit hp h1 h2 h3] at hR
  have e1 := u8_ne h1
  have e2 := u8_ne h2
  have e3 := u8_ne h3
  simp only [UInt8.reduceToNat, Int.cast_ofNat_Int] at e1 e2 e3
  have c3 := fun n => impl_free c (w.drewN n) (hcls.drewN n)
  have c1 := fun n => c_put b ys seg high .nilFunc (pathV b) c (w.drewN n) h (by omega)
  have hlen : (ys ++ [c]).length ≤ ys.length + 3 := by simp
  unfold pathV at c1
  have happ : POk (ys ++ [c]) seg := hp.app [c] (by simpa using fun e => h3 e.symm) (by simpa using fun e => h2 e.symm)
  cases hf : freeB c with
  | true =>
    rw [hf] at hR c3
    have hfin : Hid (CInv R .path (ys ++ [c]) seg high l) := Lib.hid ⟨happ, by simpa using hR⟩
    clear hR hp h hcls h1 h2 h3 hf happ
    go_enter Tryd.func69, Tryd.ntmps69
    go_wp2_with fail
    go_quiet (fail)
    all_goals go_wp2_with fail
    all_goals refine (c3 _).mono ?_
    all_goals rintro e w2 ⟨rfl, rfl⟩
    all_goals go_wp2_with fail
    all_goals refine (c1 _).mono ?_
    all_goals rintro e w2 ⟨rfl, h1, h2⟩
    all_goals go_wp2
    all_goals go_ret
    all_goals exact next_of (st := .path) h1 hfin hlen (below_drewN_left h2)
  | false =>
    rw [hf] at hR c3
    have hnone : R = none := by simpa using hR
    have HN := Lib.hid hnone
    clear hR hp h hcls h1 h2 h3 hf happ hnone c1
    go_enter Tryd.func69, Tryd.ntmps69
    go_wp2_with fail
    go_quiet (fail)
    all_goals go_wp2_with fail
    all_goals refine (c3 _).mono ?_
    all_goals rintro e w2 ⟨rfl, rfl⟩
    all_goals go_wp2
    all_goals go_ret
    all_goals exact .inl ⟨rfl, HN.out, below_drewN (Below.refl _ _)⟩
end Go.Proofs.YthmljebpjohibaaDoor
