/- A law on answers, over drawn inputs: FnRspText. -/
import Derived.Test.YtjhgibmeokghmaaDoorRsT2
import Derived.Test.YtjhgibmeokghmaaDoorRsG
import Derived.Test.YtjhgibmeokghmaaDoorLaidN
import Derived.Test.YtjhgibmeokghmaaDoorGdT
import Derived.Test.YtjhgibmeokghmaaDoorEq
import Derived.Test.YtjhgibmeokghmaaDoorGdOk
namespace Go.Proofs.YtjhgibmeokghmaaDoor
open Go.RowKit

theorem own_lenr {w : World} {B : Nat} {e : TypeId} {size : Nat} {v : Value} {n : Nat} {xs : List Value} (h : w.ownsRow B e size v n xs) : ∃ a c, v = .slice a n c := by
  rcases h.2 with ⟨h, h0⟩ | ⟨g, cap, cur, h, _⟩
  · exact ⟨none, 0, by rw [h, h0]⟩
  · exact ⟨_, _, h⟩
set_option maxRecDepth 100000 in
set_option maxHeartbeats 6400000 in
theorem law_rsptextd (a : Option Addr) (len cap : Nat) (zs : List Int) (w : World) (h : IsRow .u8 w a len cap zs) (hcls : Cls w) (htab : Tab w) (hcds : Cds w) :
    Calls Tryd.prog 7 #[.slice a len cap] w fun e w' => e = .returned (.bool true) ∧ Below w.heap.size w w' := by
  have hl := isrow_len h
  by_cases hbig : 1048576 < len
  · clear hcls htab hcds h
    go_enter Tryd.func7, Tryd.ntmps7
    go_wp2_with fail
    go_ret
    exact ⟨rfl, Below.refl _ _⟩
  have d1 := draw_rsptext a len cap zs w h
  have HX : Hid (∀ W, Below w.heap.size w W → Cls W ∧ Tab W ∧ Cds W) := Lib.hid fun W hW => ⟨hcls.below hW (Nat.le_refl _), htab.below hW (Nat.le_refl _), hcds.below hW (Nat.le_refl _)⟩
  clear h hcls htab hcds
  go_enter Tryd.func7, Tryd.ntmps7
  go_wp2_with fail
  refine d1.mono ?_
  rintro e w1 ⟨⟨r, x, rfl, ht, hb, hx0, hx1⟩, hb1⟩
  clear d1
  have HI : Hid (∀ W, Cls W → Tab W → Cds W → Calls Tryd.prog 31 #[rspV r, .int .i64 x] W fun e w' => (∃ v, e = .returned v ∧ w'.ownsRow W.heap.size 9 1 v (rspT r x).length ((rspT r x).map strV)) ∧ Below W.heap.size W w') := Lib.hid fun W a b c => impl_rsptext r x W (by omega) (by omega) a b c
  have HS : Hid (∀ W, Calls Tryd.prog 33 #[rspV r, .int .i64 x] W fun e w' => (∃ v, e = .returned v ∧ w'.ownsRow W.heap.size 9 1 v (rspT r x).length ((rspT r x).map strV)) ∧ Below W.heap.size W w') := Lib.hid fun W => spec_rsptext r x W (by omega) (by omega)
  have HR : Hid (∀ W, Calls Tryd.prog 18 #[rspV r] W fun e w' => e = .returned (.bool (rspB r)) ∧ Below W.heap.size W w') := Lib.hid fun W => spec_rspok r W (by unfold maxLen; omega) (by unfold maxLen; omega)
  have hN : ¬ (rspB r = true ∧ 0 ≤ x ∧ x ≤ 999999) → (rspT r x).length = 0 := fun h => by rw [text_no h]; rfl
  have hY : (rspB r = true ∧ 0 ≤ x ∧ x ≤ 999999) → (rspT r x).length = 1 + ((if r.tag.data.toList = [] then 0 else 1) + (if r.body.data.toList = [] then 0 else 1)) := fun h => by
    unfold rspT; rw [if_pos h]
    split <;> split <;> rfl
  generalize rspT r x = TX at *
  generalize rspB r = R0 at *
  have HN := Lib.hid hN; have HY := Lib.hid hY
  clear hN hY ht hb
  obtain ⟨c, m, hd, t, k, b⟩ := r
  unfold rspV at HI HS HR ⊢
  dsimp only at HI HS HR HN HY ⊢
  obtain ⟨w2, hw2⟩ : ∃ x, x = w1.alloc (.cells #[.int .i64 c, .int .i64 m, .bool hd, .string t, .int .i64 k, .string b] 24) := ⟨_, rfl⟩
  have hn2 : w2.heap[w1.heap.size]? = some (.cells #[.int .i64 c, .int .i64 m, .bool hd, .string t, .int .i64 k, .string b] 24 (0, 0)) := by rw [hw2]; exact heap_alloc_new w1 _
  have hs2 : w2.heap.size = w1.heap.size + 1 := by rw [hw2]; simp
  have hb2 : Below w.heap.size w w2 := by rw [hw2]; exact hb1.alloc hb1.size _
  have HX2 : Hid (∀ W, Below w2.heap.size w2 W → (Cls W ∧ Tab W ∧ Cds W) ∧ Below w.heap.size w W ∧ W.heap[w1.heap.size]? = some (.cells #[.int .i64 c, .int .i64 m, .bool hd, .string t, .int .i64 k, .string b] 24 (0, 0))) := Lib.hid fun W hW => by
    have hk := hb2.trans (hW.mono hb2.size)
    exact ⟨HX.out W hk, hk, (hW.block _ (by omega)).trans hn2⟩
  have HW2 := Lib.hid hw2
  have hbb : Below w2.heap.size w2 w2 := Below.refl _ _
  obtain ⟨q0, q1, q2, q3, q4, q5⟩ := six_facts hn2
  clear hw2 hn2 hb2 hb1 hs2
  obtain ⟨k1, k2, k3⟩ := (HX2.out _ hbb).1
  go_wp2_with fail
  rw [← HW2.out]
  refine (HI.out _ k1 k2 k3).mono ?_
  rintro e w3 ⟨⟨v1, rfl, ho1⟩, hb3⟩
  replace hbb := hbb.trans (hb3.mono hbb.size)
  have hv1 := ho1.lt
  clear q0 q1 q2 q3 q4 q5 hb3 k1 k2 k3
  obtain ⟨q0, q1, q2, q3, q4, q5⟩ := six_facts (HX2.out _ hbb).2.2
  go_wp2_with fail
  refine (HS.out _).mono ?_
  rintro e w4 ⟨⟨v2, rfl, ho2⟩, hb4⟩
  replace hbb := hbb.trans (hb4.mono hbb.size)
  have ho1b := own_below ho1 hb4
  clear q0 q1 q2 q3 q4 q5 hb4 ho1
  go_wp2_with fail
  refine (gd_texts _ _ TX _ (Rd1.of_own ho1b) (Rd1.of_own ho2)).mono ?_
  rintro e w5 ⟨rfl, n5, rfl⟩
  replace hbb : Below w2.heap.size w2 (w4.drewN n5) := below_drewN hbb
  obtain ⟨va, vc, rfl⟩ := own_lenr ho1b
  clear ho1b ho2 hv1
  generalize TX.length = NL at *
  obtain ⟨w6, hw6⟩ : ∃ y, y = w4.drewN n5 := ⟨_, rfl⟩
  rw [← hw6] at hbb ⊢
  clear hw6
  obtain ⟨q0, q1, q2, q3, q4, q5⟩ := six_facts (HX2.out _ hbb).2.2
  go_wp2_with fail
  refine (HR.out _).mono ?_
  rintro e w7 ⟨rfl, hb7⟩
  replace hbb := hbb.trans (hb7.mono hbb.size)
  clear q0 q1 q2 q3 q4 q5 hb7
  obtain ⟨q0, q1, q2, q3, q4, q5⟩ := six_facts (HX2.out _ hbb).2.2
  by_cases c0 : R0 = false
  · subst c0
    obtain rfl := HN.out (fun h => by cases h.1)
    clear HN HY
    go_wp2_with fail
    refine (gd_ok _ (HX2.out _ hbb).1.1).mono ?_
    rintro e w9 ⟨rfl, rfl⟩
    have HB := Lib.hid (HX2.out _ hbb).2.1
    clear hbb q0 q1 q2 q3 q4 q5
    go_wp2
    go_ret
    exact ⟨rfl, HB.out⟩
  obtain rfl : R0 = true := by cases R0 <;> simp_all
  clear c0
  by_cases c1 : x < 0
  · obtain rfl := HN.out (fun h => by omega)
    clear HN HY
    go_wp2_with fail
    refine (gd_ok _ (HX2.out _ hbb).1.1).mono ?_
    rintro e w9 ⟨rfl, rfl⟩
    have HB := Lib.hid (HX2.out _ hbb).2.1
    clear hbb q0 q1 q2 q3 q4 q5
    go_wp2
    go_ret
    exact ⟨rfl, HB.out⟩
  by_cases c2 : 999999 < x
  · obtain rfl := HN.out (fun h => by omega)
    clear HN HY
    go_wp2_with fail
    refine (gd_ok _ (HX2.out _ hbb).1.1).mono ?_
    rintro e w9 ⟨rfl, rfl⟩
    have HB := Lib.hid (HX2.out _ hbb).2.1
    clear hbb q0 q1 q2 q3 q4 q5
    go_wp2
    go_ret
    exact ⟨rfl, HB.out⟩
  have hn := HY.out ⟨rfl, by omega, by omega⟩
  clear HN HY
  by_cases ct : t.data.toList = []
  · have hct := ct
    obtain rfl := str_nil ct
    by_cases cb : b.data.toList = []
    · rw [if_pos hct, if_pos cb] at hn
      obtain rfl := str_nil cb
      subst hn
      clear ct hct cb
      have HB := Lib.hid (HX2.out _ hbb).2.1
      clear hbb
      go_wp2
      go_ret
      exact ⟨rfl, HB.out⟩
    · rw [if_pos hct, if_neg cb] at hn
      subst hn
      have cbq : (b.toList == ([] : List UInt8)) = false := by rw [Lib.toList_data]; exact beq_eq_false_iff_ne.2 cb
      clear ct hct cb
      have HB := Lib.hid (HX2.out _ hbb).2.1
      clear hbb
      go_wp2
      go_ret
      exact ⟨rfl, HB.out⟩
  · have ctq : (t.toList == ([] : List UInt8)) = false := by rw [Lib.toList_data]; exact beq_eq_false_iff_ne.2 ct
    by_cases cb : b.data.toList = []
    · rw [if_neg ct, if_pos cb] at hn
      obtain rfl := str_nil cb
      subst hn
      clear ct cb
      have HB := Lib.hid (HX2.out _ hbb).2.1
      clear hbb
      go_wp2
      go_ret
      exact ⟨rfl, HB.out⟩
    · rw [if_neg ct, if_neg cb] at hn
      subst hn
      have cbq : (b.toList == ([] : List UInt8)) = false := by rw [Lib.toList_data]; exact beq_eq_false_iff_ne.2 cb
      clear ct cb
      have HB := Lib.hid (HX2.out _ hbb).2.1
      clear hbb
      go_wp2
      go_ret
      exact ⟨rfl, HB.out⟩
namespace Lw
theorem fnRspText (w : World) (hL : laidMetH Tryd.prog Rows.fnRspTextRow.laid w) (a : Option Addr) (len cap : Nat) (zs : List Int) (h : IsRow .u8 w a len cap zs) :
    Calls Tryd.prog 7 #[.slice a len cap] w fun e w' => e = .returned (.bool true) ∧ Below w.heap.size w w' := by
  have hL' : laidMet Tryd.prog Rows.fnRspTextRow.laid w := hL
  exact law_rsptextd a len cap zs w h (cls_of_head hL'.tail.tail.tail) (tab_of_head hL'.tail.tail) (cds_of_head hL'.tail.tail.tail.tail)
end Lw
end Go.Proofs.YtjhgibmeokghmaaDoor
