/- A law on answers, over drawn inputs: FnFrsEver. -/
import Derived.Test.YtjhgibmeokghmaaDoorRsL
namespace Go.Proofs.YtjhgibmeokghmaaDoor
open Go.RowKit

set_option maxRecDepth 100000 in
set_option maxHeartbeats 6400000 in
theorem law_frsever (a : Option Addr) (len cap : Nat) (zs : List Int) (w : World) (h : IsRow .u8 w a len cap zs) (hcls : Cls w) :
    Calls Tryd.prog 8 #[.slice a len cap] w fun e w' => e = .returned (.bool true) ∧ Below w.heap.size w w' := by
  have hl := isrow_len h
  by_cases hbig : 1048576 < len
  · clear hcls h
    go_enter Tryd.func8, Tryd.ntmps8
    go_wp2_with fail
    go_ret
    exact ⟨rfl, Below.refl _ _⟩
  have d1 := draw_frsfresh a len cap zs w h
  have HX : Hid (∀ W, Below w.heap.size w W → Cls W) := Lib.hid fun W hW => hcls.below hW (Nat.le_refl _)
  clear h hcls
  go_enter Tryd.func8, Tryd.ntmps8
  go_wp2_with fail
  refine d1.mono ?_
  rintro e w1 ⟨⟨r, x, y, rfl, ht, hb, hx, hy⟩, hb1⟩
  clear d1
  have ht' : r.tag.size ≤ maxLen := by unfold maxLen; omega
  have hb' : r.body.size ≤ maxLen := by unfold maxLen; omega
  have HR0 : Hid (∀ W, Cls W → Calls Tryd.prog 17 #[rspV r] W fun e w' => e = .returned (.bool (rspB r)) ∧ Below W.heap.size W w') := Lib.hid fun W h => impl_rspok r W ht' hb' h
  have HRS0 : Hid (∀ W, Calls Tryd.prog 18 #[rspV r] W fun e w' => e = .returned (.bool (rspB r)) ∧ Below W.heap.size W w') := Lib.hid fun W => spec_rspok r W ht' hb'
  have HF : Hid (∀ x y W, Cls W → Calls Tryd.prog 15 #[rspV r, .int .i64 x, .int .i64 y] W fun e w' => e = .returned (.bool (freshB r x y)) ∧ Below W.heap.size W w') := Lib.hid fun x y W h => impl_fresh r x y W ht' hb' h
  have HFS : Hid (∀ x y W, Calls Tryd.prog 16 #[rspV r, .int .i64 x, .int .i64 y] W fun e w' => e = .returned (.bool (freshB r x y)) ∧ Below W.heap.size W w') := Lib.hid fun x y W => spec_fresh r x y W ht' hb'
  have hT : freshB r x y = true → ∀ n, x ≤ n → n ≤ y → freshB r x n = true := fun h n h0 h1 => by
    obtain ⟨a, ⟨b, c, d⟩, e⟩ := fresh_iff.1 h
    exact fresh_iff.2 ⟨a, ⟨b, h0, by omega⟩, by omega⟩
  have hN : freshB r x y = false → 0 ≤ x → x ≤ y → y ≤ 999998 → freshB r x (y + 1) = false := fun h h0 h1 h2 => by
    refine fresh_no (fun ⟨a, b, c⟩ => ?_)
    have := fresh_iff.2 (⟨a, ⟨h0, h1, by omega⟩, by omega⟩ : rspB r = true ∧ (0 ≤ x ∧ x ≤ y ∧ y ≤ 999999) ∧ y - x < r.mx)
    rw [this] at h; cases h
  have HT := Lib.hid hT; have HN := Lib.hid hN
  have hI0 := HF.out x y; have hS0 := HFS.out x y
  generalize hF : freshB r x y = F at *
  have HI0 := Lib.hid hI0; have HS0 := Lib.hid hS0
  have eX : (F != F) = false := by cases F <;> rfl
  clear hT hN hI0 hS0 hF HR0 HRS0 HFS ht' hb' ht hb
  have HC : Hid (∀ y v, freshB r x y = v → ∀ W, Cls W → Calls Tryd.prog 15 #[rspV r, .int .i64 x, .int .i64 y] W fun e w' => e = .returned (.bool v) ∧ Below W.heap.size W w') := Lib.hid fun y v e W h => by rw [← e]; exact HF.out x y W h
  clear HF
  obtain ⟨c, m, hd, t, k, b⟩ := r
  unfold rspV at HI0 HS0 HC ⊢
  dsimp only at *
  obtain ⟨w2, hw2⟩ : ∃ x, x = w1.alloc (.cells #[.int .i64 c, .int .i64 m, .bool hd, .string t, .int .i64 k, .string b] 24) := ⟨_, rfl⟩
  have hn2 : w2.heap[w1.heap.size]? = some (.cells #[.int .i64 c, .int .i64 m, .bool hd, .string t, .int .i64 k, .string b] 24 (0, 0)) := by rw [hw2]; exact heap_alloc_new w1 _
  have hs2 : w2.heap.size = w1.heap.size + 1 := by rw [hw2]; simp
  have hb2 : Below w.heap.size w w2 := by rw [hw2]; exact hb1.alloc hb1.size _
  have HX2 : Hid (∀ W, Below w2.heap.size w2 W → Cls W ∧ Below w.heap.size w W ∧ W.heap[w1.heap.size]? = some (.cells #[.int .i64 c, .int .i64 m, .bool hd, .string t, .int .i64 k, .string b] 24 (0, 0))) := Lib.hid fun W hW => by
    have hk := hb2.trans (hW.mono hb2.size)
    exact ⟨HX.out W hk, hk, (hW.block _ (by omega)).trans hn2⟩
  have HW2 := Lib.hid hw2
  have hbb : Below w2.heap.size w2 w2 := Below.refl _ _
  obtain ⟨q0, q1, q2, q3, q4, q5⟩ := six_facts hn2
  clear hw2 hn2 hb2 hb1 hs2
  go_wp2_with fail
  rw [← HW2.out]
  refine (HI0.out _ (HX2.out _ hbb).1).mono ?_
  rintro e w11 ⟨rfl, hb11⟩
  replace hbb := hbb.trans (hb11.mono hbb.size)
  clear q0 q1 q2 q3 q4 q5 hb11
  obtain ⟨q0, q1, q2, q3, q4, q5⟩ := six_facts (HX2.out _ hbb).2.2
  go_wp2_with fail
  refine (HS0.out _).mono ?_
  rintro e w12 ⟨rfl, hb12⟩
  replace hbb := hbb.trans (hb12.mono hbb.size)
  clear q0 q1 q2 q3 q4 q5 hb12
  obtain ⟨q0, q1, q2, q3, q4, q5⟩ := six_facts (HX2.out _ hbb).2.2
  clear HI0 HS0
  by_cases c1 : y ≤ x
  · go_wp2_with fail
    refine (gd_ok _ (HX2.out _ hbb).1).mono ?_
    rintro e w9 ⟨rfl, rfl⟩
    have HB := Lib.hid (HX2.out _ hbb).2.1
    clear hbb q0 q1 q2 q3 q4 q5
    go_wp2
    go_ret
    exact ⟨rfl, HB.out⟩
  by_cases c2 : 999999 < y
  · go_wp2_with fail
    refine (gd_ok _ (HX2.out _ hbb).1).mono ?_
    rintro e w9 ⟨rfl, rfl⟩
    have HB := Lib.hid (HX2.out _ hbb).2.1
    clear hbb q0 q1 q2 q3 q4 q5
    go_wp2
    go_ret
    exact ⟨rfl, HB.out⟩
  by_cases c3 : x < 0
  · go_wp2_with fail
    refine (gd_ok _ (HX2.out _ hbb).1).mono ?_
    rintro e w9 ⟨rfl, rfl⟩
    have HB := Lib.hid (HX2.out _ hbb).2.1
    clear hbb q0 q1 q2 q3 q4 q5
    go_wp2
    go_ret
    exact ⟨rfl, HB.out⟩
  cases F
  · by_cases c4 : y = 999999
    · subst c4
      clear HN HT HC
      have HB := Lib.hid (HX2.out _ hbb).2.1
      clear hbb
      go_wp2
      go_ret
      exact ⟨rfl, HB.out⟩
    have c4b : (y == 999999) = false := beq_eq_false_iff_ne.2 c4
    have hc := HC.out (y + 1) false (HN.out rfl (by omega) (by omega) (by omega))
    clear HN HT HC
    go_wp2_with fail
    refine (hc _ (HX2.out _ hbb).1).mono ?_
    rintro e w13 ⟨rfl, hb13⟩
    replace hbb := hbb.trans (hb13.mono hbb.size)
    clear q0 q1 q2 q3 q4 q5 hb13
    obtain ⟨q0, q1, q2, q3, q4, q5⟩ := six_facts (HX2.out _ hbb).2.2
    clear hc
    have HB := Lib.hid (HX2.out _ hbb).2.1
    clear hbb q0 q1 q2 q3 q4 q5
    go_wp2
    go_ret
    exact ⟨rfl, HB.out⟩
  · have hc0 := HC.out x true (HT.out rfl x (by omega) (by omega))
    have hc1 := HC.out (y - 1) true (HT.out rfl (y - 1) (by omega) (by omega))
    have tq : (y - x).tdiv 2 = (y - x) / 2 := Int.tdiv_eq_ediv_of_nonneg (by omega)
    have hc2 := HC.out (x + (y - x) / 2) true (HT.out rfl (x + (y - x) / 2) (by omega) (by omega))
    clear HN HT HC
    go_wp2_with fail
    refine (hc0 _ (HX2.out _ hbb).1).mono ?_
    rintro e w14 ⟨rfl, hb14⟩
    replace hbb := hbb.trans (hb14.mono hbb.size)
    clear q0 q1 q2 q3 q4 q5 hb14
    obtain ⟨q0, q1, q2, q3, q4, q5⟩ := six_facts (HX2.out _ hbb).2.2
    go_wp2_with fail
    refine (hc1 _ (HX2.out _ hbb).1).mono ?_
    rintro e w15 ⟨rfl, hb15⟩
    replace hbb := hbb.trans (hb15.mono hbb.size)
    clear q0 q1 q2 q3 q4 q5 hb15
    obtain ⟨q0, q1, q2, q3, q4, q5⟩ := six_facts (HX2.out _ hbb).2.2
    go_wp2_with fail
    refine (hc2 _ (HX2.out _ hbb).1).mono ?_
    rintro e w16 ⟨rfl, hb16⟩
    replace hbb := hbb.trans (hb16.mono hbb.size)
    clear q0 q1 q2 q3 q4 q5 hb16
    obtain ⟨q0, q1, q2, q3, q4, q5⟩ := six_facts (HX2.out _ hbb).2.2
    clear hc0 hc1 hc2
    have HB := Lib.hid (HX2.out _ hbb).2.1
    clear hbb q0 q1 q2 q3 q4 q5
    go_wp2
    go_ret
    exact ⟨rfl, HB.out⟩
namespace Lw
theorem fnFrsEver (w : World) (hL : laidMetH Tryd.prog Rows.fnFrsEverRow.laid w) (a : Option Addr) (len cap : Nat) (zs : List Int) (h : IsRow .u8 w a len cap zs) :
    Calls Tryd.prog 8 #[.slice a len cap] w fun e w' => e = .returned (.bool true) ∧ Below w.heap.size w w' := by
  have hL' : laidMet Tryd.prog Rows.fnFrsEverRow.laid w := hL
  exact law_frsever a len cap zs w h (cls_of_head hL')
end Lw
end Go.Proofs.YtjhgibmeokghmaaDoor
