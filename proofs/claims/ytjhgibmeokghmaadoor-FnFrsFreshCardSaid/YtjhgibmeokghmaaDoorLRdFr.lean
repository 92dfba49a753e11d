/- A law on answers, over drawn inputs: FnFrsFresh. -/
import Derived.Test.YtjhgibmeokghmaaDoorRsL
import Derived.Test.YtjhgibmeokghmaaDoorReg
import Derived.Test.YtjhgibmeokghmaaDoorRegR
namespace Go.Proofs.YtjhgibmeokghmaaDoor
open Go.RowKit

set_option maxRecDepth 100000 in
set_option maxHeartbeats 6400000 in
theorem law_frsfreshd (a : Option Addr) (len cap : Nat) (zs : List Int) (w : World) (h : IsRow .u8 w a len cap zs) (hcls : Cls w) :
    Calls Tryd.prog 3 #[.slice a len cap] w fun e w' => e = .returned (.bool true) ∧ Below w.heap.size w w' := by
  have hl := isrow_len h
  by_cases hbig : 1048576 < len
  · clear hcls h
    go_enter Tryd.func3, Tryd.ntmps3
    go_wp2_with fail
    go_ret
    exact ⟨rfl, Below.refl _ _⟩
  have d1 := draw_frsfresh a len cap zs w h
  have HX : Hid (∀ W, Below w.heap.size w W → Cls W) := Lib.hid fun W hW => hcls.below hW (Nat.le_refl _)
  clear h hcls
  go_enter Tryd.func3, Tryd.ntmps3
  go_wp2_with fail
  refine d1.mono ?_
  rintro e w1 ⟨⟨r, x, y, rfl, ht, hb, hx, hy⟩, hb1⟩
  clear d1
  have ht' : r.tag.size ≤ maxLen := by unfold maxLen; omega
  have hb' : r.body.size ≤ maxLen := by unfold maxLen; omega
  have HR : Hid (∀ W, Cls W → Calls Tryd.prog 17 #[rspV r] W fun e w' => e = .returned (.bool (rspB r)) ∧ Below W.heap.size W w') := Lib.hid fun W h => impl_rspok r W ht' hb' h
  have HRS : Hid (∀ W, Calls Tryd.prog 18 #[rspV r] W fun e w' => e = .returned (.bool (rspB r)) ∧ Below W.heap.size W w') := Lib.hid fun W => spec_rspok r W ht' hb'
  have HF : Hid (∀ x y W, Cls W → Calls Tryd.prog 15 #[rspV r, .int .i64 x, .int .i64 y] W fun e w' => e = .returned (.bool (freshB r x y)) ∧ Below W.heap.size W w') := Lib.hid fun x y W h => impl_fresh r x y W ht' hb' h
  have HFS : Hid (∀ x y W, Calls Tryd.prog 16 #[rspV r, .int .i64 x, .int .i64 y] W fun e w' => e = .returned (.bool (freshB r x y)) ∧ Below W.heap.size W w') := Lib.hid fun x y W => spec_fresh r x y W ht' hb'
  have hN : ¬ (rspB r = true ∧ (0 ≤ x ∧ x ≤ y ∧ y ≤ 999999)) → freshB r x y = false := fun h => fresh_no (fun ⟨a, b, _⟩ => h ⟨a, b⟩)
  have hY : rspB r = true → (0 ≤ x ∧ x ≤ y ∧ y ≤ 999999) → freshB r x y = decide (y - x < r.mx) := fun h0 h1 => by
    rw [Bool.eq_iff_iff, fresh_iff, decide_eq_true_eq]
    exact ⟨fun h => h.2.2, fun h => ⟨h0, h1, h⟩⟩
  have hT : freshB r x y = true → x < y → freshB r x (y - 1) = true := fun h h0 => by
    obtain ⟨a, ⟨b, c, d⟩, e⟩ := fresh_iff.1 h
    exact fresh_iff.2 ⟨a, ⟨b, by omega, by omega⟩, by omega⟩
  have hE : freshB r x (x + r.mx) = false := fresh_no (fun ⟨_, _, h⟩ => by omega)
  have hM : rspB r = true → -1 ≤ r.mx ∧ r.mx ≤ 999999 := fun h => (rspB_iff.1 h).mx
  have HC : Hid (∀ y v, freshB r x y = v → ∀ W, Cls W → Calls Tryd.prog 15 #[rspV r, .int .i64 x, .int .i64 y] W fun e w' => e = .returned (.bool v) ∧ Below W.heap.size W w') := Lib.hid fun y v e W h => by rw [← e]; exact HF.out x y W h
  have HA : Hid ((0 ≤ x ∧ x ≤ y ∧ y ≤ 999999) → ∀ W, Calls Tryd.prog 20 #[.int .i64 x, .int .i64 y] W fun e w' => e = .returned (.int .i64 (y - x)) ∧ W = w') := Lib.hid fun h W => by
    have := impl_age x y W
    rw [age_yes (times_iff.2 h)] at this
    exact this
  have hI0 := HF.out x y; have hS0 := HFS.out x y
  have HE := Lib.hid (HC.out (x + r.mx) false hE)
  have HT : Hid (freshB r x y = true → x < y → ∀ W, Cls W → Calls Tryd.prog 15 #[rspV r, .int .i64 x, .int .i64 (y - 1)] W fun e w' => e = .returned (.bool true) ∧ Below W.heap.size W w') := Lib.hid fun a b => HC.out (y - 1) true (hT a b)
  generalize freshB r x y = F at *
  generalize rspB r = R0 at *
  have HI0 := Lib.hid hI0; have HS0 := Lib.hid hS0
  have HN := Lib.hid hN; have HY := Lib.hid hY; have HM := Lib.hid hM; have HXY := Lib.hid (And.intro hx hy)
  have eX : (F != F) = false := by cases F <;> rfl
  have eR : (R0 != R0) = false := by cases R0 <;> rfl
  clear hN hY hT hE hM hI0 hS0 HF HFS HC ht' hb' ht hb hx hy
  obtain ⟨c, m, hd, t, k, b⟩ := r
  unfold rspV at HI0 HS0 HR HRS HE HT ⊢
  dsimp only at HI0 HS0 HR HRS HE HT HY HM ⊢
  obtain ⟨w2, hw2⟩ : ∃ x, x = w1.alloc (.cells #[.int .i64 c, .int .i64 m, .bool hd, .string t, .int .i64 k, .string b] 24) := ⟨_, rfl⟩
  have hn2 : w2.heap[w1.heap.size]? = some (.cells #[.int .i64 c, .int .i64 m, .bool hd, .string t, .int .i64 k, .string b] 24 (0, 0)) := by rw [hw2]; exact heap_alloc_new w1 _
  have hs2 : w2.heap.size = w1.heap.size + 1 := by rw [hw2]; simp
  have hb2 : Below w.heap.size w w2 := by rw [hw2]; exact hb1.alloc hb1.size _
  have HX2 : Hid (∀ W, Below w2.heap.size w2 W → Cls W ∧ Below w.heap.size w W ∧ W.heap[w1.heap.size]? = some (.cells #[.int .i64 c, .int .i64 m, .bool hd, .string t, .int .i64 k, .string b] 24 (0, 0))) := Lib.hid fun W hW => by
    have hk := hb2.trans (hW.mono hb2.size)
    exact ⟨HX.out W hk, hk, (hW.block _ (by omega)).trans hn2⟩
  have HW2 := Lib.hid hw2
  have hbb : Below w2.heap.size w2 w2 := Below.refl _ _
  obtain ⟨q0, q1, q2, q3, q4, q5⟩ := six_facts hn2
  clear hw2 hn2 hb2 hb1 hs2
  go_wp2_with fail
  rw [← HW2.out]
  refine (HI0.out _ (HX2.out _ hbb).1).mono ?_
  rintro e w11 ⟨rfl, hb11⟩
  replace hbb := hbb.trans (hb11.mono hbb.size)
  clear q0 q1 q2 q3 q4 q5 hb11
  obtain ⟨q0, q1, q2, q3, q4, q5⟩ := six_facts (HX2.out _ hbb).2.2
  clear HI0
  go_wp2_with fail
  obtain ⟨w5, hw5⟩ : ∃ x, x = w11 := ⟨_, rfl⟩
  rw [← hw5] at hbb ⊢
  have HX5 : Hid (∀ W, Below w5.heap.size w5 W → Cls W ∧ Below w.heap.size w W ∧ W.heap[w1.heap.size]? = some (.cells #[.int .i64 c, .int .i64 m, .bool hd, .string t, .int .i64 k, .string b] 24 (0, 0))) := Lib.hid fun W hW => HX2.out _ (hbb.trans (hW.mono hbb.size))
  clear hw5 hbb q0 q1 q2 q3 q4 q5
  refine wp_region_last (by kernel_rfl) 12 (by kernel_rfl) (by kernel_rfl) (by kernel_rfl)
    (fun z => { tmps := #[Value.slice a len cap, undef, Value.bool false, Value.pointer (some { block := w1.heap.size, off := 0 }), Value.int IntKind.i64 x, Value.int IntKind.i64 y, Value.bool F, Value.slice a len cap, Value.int IntKind.i64 (len : Int), Value.bool (decide ((1048576 : Int) < (len : Int))), Value.tuple #[Value.agg #[Value.int IntKind.i64 c, Value.int IntKind.i64 m, Value.bool hd, Value.string t, Value.int IntKind.i64 k, Value.string b], Value.int IntKind.i64 x, Value.int IntKind.i64 y], Value.slice a len cap, Value.tuple #[Value.agg #[Value.int IntKind.i64 c, Value.int IntKind.i64 m, Value.bool hd, Value.string t, Value.int IntKind.i64 k, Value.string b], Value.int IntKind.i64 x, Value.int IntKind.i64 y], Value.agg #[Value.int IntKind.i64 c, Value.int IntKind.i64 m, Value.bool hd, Value.string t, Value.int IntKind.i64 k, Value.string b], Value.int IntKind.i64 x, Value.int IntKind.i64 y, Value.agg #[Value.int IntKind.i64 c, Value.int IntKind.i64 m, Value.bool hd, Value.string t, Value.int IntKind.i64 k, Value.string b], Value.int IntKind.i64 x, Value.int IntKind.i64 y, Value.bool F, z 0, z 1, z 2, z 3, z 4, z 5, z 6, z 7, z 8, z 9, z 10, z 11, undef, undef, undef, undef, undef, undef, undef, undef, undef, undef, undef, undef, undef, undef, undef, undef, undef, undef, undef, undef, undef, undef, undef, undef, undef, undef, undef, undef, undef, undef, undef, undef, undef, undef, undef, undef, undef, undef, undef, undef, undef, undef, undef, undef, undef, undef, undef, undef, undef, undef, undef, undef, undef, undef, undef, undef, undef, undef, undef, undef, undef, undef, undef, undef, undef, undef, undef, undef], defers := [] })
    (fun _ W => Below w5.heap.size w5 W)
    (fun i xv _ => xv = ([.bool F, .agg #[.int .i64 c, .int .i64 m, .bool hd, .string t, .int .i64 k, .string b], Value.int IntKind.i64 x, Value.int IntKind.i64 y, .bool F, .bool false, .bool false, .agg #[.int .i64 c, .int .i64 m, .bool hd, .string t, .int .i64 k, .string b], .bool R0, .agg #[.int .i64 c, .int .i64 m, .bool hd, .string t, .int .i64 k, .string b], .bool R0, .bool false] : List Value).getD i undef)
    (fun _ _ => True) (fun _ => undef) (Below.refl _ _).drew
    (fun _ _ _ _ _ h _ => h) ?_ ?_
  · intro i hi z w7 kk hkk hC hdp
    match i, hi with
    | 0, _ =>
      refine wpOp_step rfl (fun K hK => ?_)
      clear hdp
      go_simp
      exact hK _ _ ⟨.bool F, rfl, rfl, trivial, hC⟩
    | 1, _ =>
      obtain ⟨q0, q1, q2, q3, q4, q5⟩ := six_facts (HX5.out w7 hC).2.2
      refine wpOp_step rfl (fun K hK => ?_)
      clear hdp
      go_simp
      exact hK _ _ ⟨.agg #[.int .i64 c, .int .i64 m, .bool hd, .string t, .int .i64 k, .string b], rfl, rfl, trivial, hC⟩
    | 2, _ =>
      refine wpOp_step rfl (fun K hK => ?_)
      clear hdp
      go_simp
      exact hK _ _ ⟨Value.int IntKind.i64 x, rfl, rfl, trivial, hC⟩
    | 3, _ =>
      refine wpOp_step rfl (fun K hK => ?_)
      clear hdp
      go_simp
      exact hK _ _ ⟨Value.int IntKind.i64 y, rfl, rfl, trivial, hC⟩
    | 4, _ =>
      have e1 : z 1 = .agg #[.int .i64 c, .int .i64 m, .bool hd, .string t, .int .i64 k, .string b] := hdp 1 (dep_of (by kernel_rfl))
      have e2 : z 2 = Value.int IntKind.i64 x := hdp 2 (dep_of (by kernel_rfl))
      have e3 : z 3 = Value.int IntKind.i64 y := hdp 3 (dep_of (by kernel_rfl))
      have hT := HS0.out w7
      refine wpOp_step rfl (fun K hK => ?_)
      clear hdp
      go_simp
      refine hT.mono ?_
      rintro e w8 ⟨rfl, hb8⟩
      exact hK _ _ ⟨.bool F, by simp [upd, e1, e2, e3], rfl, trivial, hC.trans (hb8.mono hC.size)⟩
    | 5, _ =>
      have e0 : z 0 = .bool F := hdp 0 (dep_of (by kernel_rfl))
      have e4 : z 4 = .bool F := hdp 4 (dep_of (by kernel_rfl))
      refine wpOp_step rfl (fun K hK => ?_)
      clear hdp
      go_simp
      exact hK _ _ ⟨.bool false, by simp [upd, e0, e4], rfl, trivial, hC⟩
    | 6, _ =>
      have e5 : z 5 = .bool false := hdp 5 (dep_of (by kernel_rfl))
      refine wpOp_step rfl (fun K hK => ?_)
      clear hdp
      go_simp
      exact hK _ _ ⟨.bool false, by simp [upd, e5], rfl, trivial, hC⟩
    | 7, _ =>
      obtain ⟨q0, q1, q2, q3, q4, q5⟩ := six_facts (HX5.out w7 hC).2.2
      have e6 : z 6 = .bool false := hdp 6 (dep_of (by kernel_rfl))
      refine wpOp_step rfl (fun K hK => ?_)
      clear hdp
      go_simp
      exact hK _ _ ⟨.agg #[.int .i64 c, .int .i64 m, .bool hd, .string t, .int .i64 k, .string b], by simp [upd, e6], rfl, trivial, hC⟩
    | 8, _ =>
      have e6 : z 6 = .bool false := hdp 6 (dep_of (by kernel_rfl))
      have e7 : z 7 = .agg #[.int .i64 c, .int .i64 m, .bool hd, .string t, .int .i64 k, .string b] := hdp 7 (dep_of (by kernel_rfl))
      have hT := HR.out w7 (HX5.out w7 hC).1
      refine wpOp_step rfl (fun K hK => ?_)
      clear hdp
      go_simp
      refine hT.mono ?_
      rintro e w8 ⟨rfl, hb8⟩
      exact hK _ _ ⟨.bool R0, by simp [upd, e6, e7], rfl, trivial, hC.trans (hb8.mono hC.size)⟩
    | 9, _ =>
      obtain ⟨q0, q1, q2, q3, q4, q5⟩ := six_facts (HX5.out w7 hC).2.2
      have e6 : z 6 = .bool false := hdp 6 (dep_of (by kernel_rfl))
      refine wpOp_step rfl (fun K hK => ?_)
      clear hdp
      go_simp
      exact hK _ _ ⟨.agg #[.int .i64 c, .int .i64 m, .bool hd, .string t, .int .i64 k, .string b], by simp [upd, e6], rfl, trivial, hC⟩
    | 10, _ =>
      have e6 : z 6 = .bool false := hdp 6 (dep_of (by kernel_rfl))
      have e9 : z 9 = .agg #[.int .i64 c, .int .i64 m, .bool hd, .string t, .int .i64 k, .string b] := hdp 9 (dep_of (by kernel_rfl))
      have hT := HRS.out w7
      refine wpOp_step rfl (fun K hK => ?_)
      clear hdp
      go_simp
      refine hT.mono ?_
      rintro e w8 ⟨rfl, hb8⟩
      exact hK _ _ ⟨.bool R0, by simp [upd, e6, e9], rfl, trivial, hC.trans (hb8.mono hC.size)⟩
    | 11, _ =>
      have e6 : z 6 = .bool false := hdp 6 (dep_of (by kernel_rfl))
      have e8 : z 8 = .bool R0 := hdp 8 (dep_of (by kernel_rfl))
      have e10 : z 10 = .bool R0 := hdp 10 (dep_of (by kernel_rfl))
      refine wpOp_step rfl (fun K hK => ?_)
      clear hdp
      go_simp
      exact hK _ _ ⟨.bool false, by simp [upd, e6, e8, e10], rfl, trivial, hC⟩
    | n + 12, hn => exact absurd hn (by omega)
  · intro z w7 kk hkk hC hdp
    have e6 : z 6 = .bool false := hdp 6 (by decide)
    have e11 : z 11 = .bool false := hdp 11 (by decide)
    refine wpOp_step rfl (fun K hK => ?_)
    clear hdp
    go_simp
    refine hK _ _ ?_
    clear hK K e6 e11
    obtain ⟨w6, hw6⟩ : ∃ x, x = w7 := ⟨_, rfl⟩
    rw [← hw6] at hC ⊢
    have HX6 : Hid (∀ W, Below w6.heap.size w6 W → Cls W ∧ Below w.heap.size w W ∧ W.heap[w1.heap.size]? = some (.cells #[.int .i64 c, .int .i64 m, .bool hd, .string t, .int .i64 k, .string b] 24 (0, 0))) := Lib.hid fun W hW => HX5.out _ (hC.trans (hW.mono hC.size))
    have hbb : Below w6.heap.size w6 w6 := Below.refl _ _
    obtain ⟨q0, q1, q2, q3, q4, q5⟩ := six_facts (HX6.out _ hbb).2.2
    clear hw6 hC
    go_wp2_with fail
    refine (HRS.out _).mono ?_
    rintro e w12 ⟨rfl, hb12⟩
    replace hbb := hbb.trans (hb12.mono hbb.size)
    clear q0 q1 q2 q3 q4 q5 hb12
    obtain ⟨q0, q1, q2, q3, q4, q5⟩ := six_facts (HX6.out _ hbb).2.2
    by_cases c0 : R0 = false
    · subst c0
      obtain rfl := HN.out (fun h => by cases h.1)
      clear HR HRS HS0 HE HT HA HN HY HM HXY
      go_wp2_with fail
      refine (gd_ok _ (HX6.out _ hbb).1).mono ?_
      rintro e w9 ⟨rfl, rfl⟩
      have HB := Lib.hid (HX6.out _ hbb).2.1
      clear hbb q0 q1 q2 q3 q4 q5
      go_wp2
      go_ret
      exact ⟨rfl, HB.out⟩
    obtain rfl : R0 = true := by cases R0 <;> simp_all
    clear c0
    by_cases c1 : x < 0
    · obtain rfl := HN.out (fun h => by omega)
      clear HR HRS HS0 HE HT HA HN HY HM HXY
      go_wp2_with fail
      refine (gd_ok _ (HX6.out _ hbb).1).mono ?_
      rintro e w9 ⟨rfl, rfl⟩
      have HB := Lib.hid (HX6.out _ hbb).2.1
      clear hbb q0 q1 q2 q3 q4 q5
      go_wp2
      go_ret
      exact ⟨rfl, HB.out⟩
    by_cases c2 : 999999 < x
    · obtain rfl := HN.out (fun h => by omega)
      clear HR HRS HS0 HE HT HA HN HY HM HXY
      go_wp2_with fail
      refine (gd_ok _ (HX6.out _ hbb).1).mono ?_
      rintro e w9 ⟨rfl, rfl⟩
      have HB := Lib.hid (HX6.out _ hbb).2.1
      clear hbb q0 q1 q2 q3 q4 q5
      go_wp2
      go_ret
      exact ⟨rfl, HB.out⟩
    by_cases c3 : y < x
    · obtain rfl := HN.out (fun h => by omega)
      clear HR HRS HS0 HE HT HA HN HY HM HXY
      go_wp2_with fail
      refine (gd_ok _ (HX6.out _ hbb).1).mono ?_
      rintro e w9 ⟨rfl, rfl⟩
      have HB := Lib.hid (HX6.out _ hbb).2.1
      clear hbb q0 q1 q2 q3 q4 q5
      go_wp2
      go_ret
      exact ⟨rfl, HB.out⟩
    by_cases c4 : 999999 < y
    · obtain rfl := HN.out (fun h => by omega)
      clear HR HRS HS0 HE HT HA HN HY HM HXY
      go_wp2_with fail
      refine (gd_ok _ (HX6.out _ hbb).1).mono ?_
      rintro e w9 ⟨rfl, rfl⟩
      have HB := Lib.hid (HX6.out _ hbb).2.1
      clear hbb q0 q1 q2 q3 q4 q5
      go_wp2
      go_ret
      exact ⟨rfl, HB.out⟩
    have hA := Lib.hid (HA.out (by omega))
    have hF := HY.out rfl (by omega)
    obtain ⟨m0, m1⟩ := HM.out rfl
    clear HN HY HM HA HR HRS HS0
    have eF : (F == decide (y - x < m)) = true := by rw [hF]; simp
    have HFd := Lib.hid hF
    clear hF
    go_wp2_with fail
    obtain ⟨w8, hw8⟩ : ∃ x, x = w12 := ⟨_, rfl⟩
    rw [← hw8] at hbb ⊢
    have HX8 : Hid (∀ W, Below w8.heap.size w8 W → Cls W ∧ Below w.heap.size w W ∧ W.heap[w1.heap.size]? = some (.cells #[.int .i64 c, .int .i64 m, .bool hd, .string t, .int .i64 k, .string b] 24 (0, 0))) := Lib.hid fun W hW => HX6.out _ (hbb.trans (hW.mono hbb.size))
    clear hw8 hbb q0 q1 q2 q3 q4 q5
    refine wp_region_last (by kernel_rfl) 7 (by kernel_rfl) (by kernel_rfl) (by kernel_rfl)
      (fun yz => { tmps := #[Value.slice a len cap, undef, Value.bool false, Value.pointer (some { block := w1.heap.size, off := 0 }), Value.int IntKind.i64 x, Value.int IntKind.i64 y, Value.bool F, Value.slice a len cap, Value.int IntKind.i64 (len : Int), Value.bool (decide ((1048576 : Int) < (len : Int))), Value.tuple #[Value.agg #[Value.int IntKind.i64 c, Value.int IntKind.i64 m, Value.bool hd, Value.string t, Value.int IntKind.i64 k, Value.string b], Value.int IntKind.i64 x, Value.int IntKind.i64 y], Value.slice a len cap, Value.tuple #[Value.agg #[Value.int IntKind.i64 c, Value.int IntKind.i64 m, Value.bool hd, Value.string t, Value.int IntKind.i64 k, Value.string b], Value.int IntKind.i64 x, Value.int IntKind.i64 y], Value.agg #[Value.int IntKind.i64 c, Value.int IntKind.i64 m, Value.bool hd, Value.string t, Value.int IntKind.i64 k, Value.string b], Value.int IntKind.i64 x, Value.int IntKind.i64 y, Value.agg #[Value.int IntKind.i64 c, Value.int IntKind.i64 m, Value.bool hd, Value.string t, Value.int IntKind.i64 k, Value.string b], Value.int IntKind.i64 x, Value.int IntKind.i64 y, Value.bool F, z 0, z 1, z 2, z 3, z 4, z 5, Value.bool false, z 7, z 8, z 9, z 10, Value.bool false, Value.bool false, Value.agg #[Value.int IntKind.i64 c, Value.int IntKind.i64 m, Value.bool hd, Value.string t, Value.int IntKind.i64 k, Value.string b], Value.bool true, Value.bool false, Value.bool false, Value.int IntKind.i64 x, Value.bool (decide (x < 0)), Value.bool (decide (x < 0)), Value.bool (decide (x < 0)), Value.int IntKind.i64 x, Value.bool (decide (999999 < x)), Value.bool (decide (x < 0) || decide (999999 < x)), Value.bool (decide (x < 0) || decide (999999 < x)), Value.int IntKind.i64 y, Value.int IntKind.i64 x, Value.bool (decide (y < x)), Value.bool (decide (x < 0) || decide (999999 < x) || decide (y < x)), Value.bool (decide (x < 0) || decide (999999 < x) || decide (y < x)), Value.int IntKind.i64 y, Value.bool (decide (999999 < y)), Value.bool (decide (x < 0) || decide (999999 < x) || decide (y < x) || decide (999999 < y)), undef, undef, undef, undef, undef, yz 0, yz 1, yz 2, yz 3, yz 4, yz 5, yz 6, undef, undef, undef, undef, undef, undef, undef, undef, undef, undef, undef, undef, undef, undef, undef, undef, undef, undef, undef, undef, undef, undef, undef, undef, undef, undef, undef, undef, undef, undef, undef, undef, undef, undef, undef], defers := [] })
      (fun _ W => Below w8.heap.size w8 W)
      (fun i xv _ => xv = ([.bool F, Value.int IntKind.i64 x, Value.int IntKind.i64 y, .int .i64 (y - x), .pointer (some ⟨w1.heap.size, 1, none⟩), .int .i64 m, .bool (decide (y - x < m))] : List Value).getD i undef)
      (fun _ _ => True) (fun _ => undef) (Below.refl _ _).drew
      (fun _ _ _ _ _ h _ => h) ?_ ?_
    · intro i hi yz w7 kk hkk hC hdp
      match i, hi with
      | 0, _ =>
        refine wpOp_step rfl (fun K hK => ?_)
        clear hdp
        go_simp
        exact hK _ _ ⟨.bool F, rfl, rfl, trivial, hC⟩
      | 1, _ =>
        refine wpOp_step rfl (fun K hK => ?_)
        clear hdp
        go_simp
        exact hK _ _ ⟨Value.int IntKind.i64 x, rfl, rfl, trivial, hC⟩
      | 2, _ =>
        refine wpOp_step rfl (fun K hK => ?_)
        clear hdp
        go_simp
        exact hK _ _ ⟨Value.int IntKind.i64 y, rfl, rfl, trivial, hC⟩
      | 3, _ =>
        have e1 : yz 1 = Value.int IntKind.i64 x := hdp 1 (dep_of (by kernel_rfl))
        have e2 : yz 2 = Value.int IntKind.i64 y := hdp 2 (dep_of (by kernel_rfl))
        have hT := hA.out w7
        refine wpOp_step rfl (fun K hK => ?_)
        clear hdp
        go_simp
        refine hT.mono ?_
        rintro e w8 ⟨rfl, rfl⟩
        exact hK _ _ ⟨.int .i64 (y - x), by simp [upd, e1, e2], rfl, trivial, hC⟩
      | 4, _ =>
        refine wpOp_step rfl (fun K hK => ?_)
        clear hdp
        go_simp
        exact hK _ _ ⟨.pointer (some ⟨w1.heap.size, 1, none⟩), rfl, rfl, trivial, hC⟩
      | 5, _ =>
        obtain ⟨q0, q1, q2, q3, q4, q5⟩ := six_facts (HX8.out w7 hC).2.2
        have e4 : yz 4 = .pointer (some ⟨w1.heap.size, 1, none⟩) := hdp 4 (dep_of (by kernel_rfl))
        refine wpOp_step rfl (fun K hK => ?_)
        clear hdp
        go_simp
        exact hK _ _ ⟨.int .i64 m, by simp [upd, e4], rfl, trivial, hC⟩
      | 6, _ =>
        have e3 : yz 3 = .int .i64 (y - x) := hdp 3 (dep_of (by kernel_rfl))
        have e5 : yz 5 = .int .i64 m := hdp 5 (dep_of (by kernel_rfl))
        refine wpOp_step rfl (fun K hK => ?_)
        clear hdp
        go_simp
        exact hK _ _ ⟨.bool (decide (y - x < m)), by simp [upd, e3, e5], rfl, trivial, hC⟩
      | n + 7, hn => exact absurd hn (by omega)
    · intro yz w7 kk hkk hC hdp
      have e0 : yz 0 = .bool F := hdp 0 (by decide)
      have e6 : yz 6 = .bool (decide (y - x < m)) := hdp 6 (by decide)
      refine wpOp_step rfl (fun K hK => ?_)
      clear hdp
      go_simp
      refine hK _ _ ?_
      clear hK K e0 e6
      obtain ⟨w9, hw9⟩ : ∃ x, x = w7 := ⟨_, rfl⟩
      rw [← hw9] at hC ⊢
      have HX9 : Hid (∀ W, Below w9.heap.size w9 W → Cls W ∧ Below w.heap.size w W ∧ W.heap[w1.heap.size]? = some (.cells #[.int .i64 c, .int .i64 m, .bool hd, .string t, .int .i64 k, .string b] 24 (0, 0))) := Lib.hid fun W hW => HX8.out _ (hC.trans (hW.mono hC.size))
      have hbb : Below w9.heap.size w9 w9 := Below.refl _ _
      obtain ⟨q0, q1, q2, q3, q4, q5⟩ := six_facts (HX9.out _ hbb).2.2
      clear hw9 hC
      clear eF
      cases F
      · clear HT HFd
        by_cases hxy : x < y
        · by_cases d0 : m < 0
          · clear HE
            have HB := Lib.hid (HX9.out _ hbb).2.1
            clear hbb
            go_wp2
            go_ret
            exact ⟨rfl, HB.out⟩
          by_cases d1 : 999999 - m < x
          · have d1a : decide (999999 - m < x) = true := decide_eq_true d1
            have d1b : (decide (m < 0) || decide (999999 - m < x)) = true := by rw [d1a, Bool.or_true]
            clear d1
            clear HE
            have HB := Lib.hid (HX9.out _ hbb).2.1
            clear hbb
            go_wp2
            go_ret
            exact ⟨rfl, HB.out⟩
          go_wp2_with fail
          refine (HE.out _ (HX9.out _ hbb).1).mono ?_
          rintro e w13 ⟨rfl, hb13⟩
          replace hbb := hbb.trans (hb13.mono hbb.size)
          clear q0 q1 q2 q3 q4 q5 hb13
          obtain ⟨q0, q1, q2, q3, q4, q5⟩ := six_facts (HX9.out _ hbb).2.2
          clear HE
          have HB := Lib.hid (HX9.out _ hbb).2.1
          clear hbb q0 q1 q2 q3 q4 q5
          go_wp2
          go_ret
          exact ⟨rfl, HB.out⟩
        · by_cases d0 : m < 0
          · clear HE
            have HB := Lib.hid (HX9.out _ hbb).2.1
            clear hbb
            go_wp2
            go_ret
            exact ⟨rfl, HB.out⟩
          by_cases d1 : 999999 - m < x
          · have d1a : decide (999999 - m < x) = true := decide_eq_true d1
            have d1b : (decide (m < 0) || decide (999999 - m < x)) = true := by rw [d1a, Bool.or_true]
            clear d1
            clear HE
            have HB := Lib.hid (HX9.out _ hbb).2.1
            clear hbb
            go_wp2
            go_ret
            exact ⟨rfl, HB.out⟩
          go_wp2_with fail
          refine (HE.out _ (HX9.out _ hbb).1).mono ?_
          rintro e w14 ⟨rfl, hb14⟩
          replace hbb := hbb.trans (hb14.mono hbb.size)
          clear q0 q1 q2 q3 q4 q5 hb14
          obtain ⟨q0, q1, q2, q3, q4, q5⟩ := six_facts (HX9.out _ hbb).2.2
          clear HE
          have HB := Lib.hid (HX9.out _ hbb).2.1
          clear hbb q0 q1 q2 q3 q4 q5
          go_wp2
          go_ret
          exact ⟨rfl, HB.out⟩
      · clear HFd
        by_cases hxy : x < y
        · have hT := HT.out rfl hxy
          clear HT
          go_wp2_with fail
          refine (hT _ (HX9.out _ hbb).1).mono ?_
          rintro e w15 ⟨rfl, hb15⟩
          replace hbb := hbb.trans (hb15.mono hbb.size)
          clear q0 q1 q2 q3 q4 q5 hb15
          obtain ⟨q0, q1, q2, q3, q4, q5⟩ := six_facts (HX9.out _ hbb).2.2
          clear hT
          by_cases d0 : m < 0
          · clear HE
            have HB := Lib.hid (HX9.out _ hbb).2.1
            clear hbb
            go_wp2
            go_ret
            exact ⟨rfl, HB.out⟩
          by_cases d1 : 999999 - m < x
          · have d1a : decide (999999 - m < x) = true := decide_eq_true d1
            have d1b : (decide (m < 0) || decide (999999 - m < x)) = true := by rw [d1a, Bool.or_true]
            clear d1
            clear HE
            have HB := Lib.hid (HX9.out _ hbb).2.1
            clear hbb
            go_wp2
            go_ret
            exact ⟨rfl, HB.out⟩
          go_wp2_with fail
          refine (HE.out _ (HX9.out _ hbb).1).mono ?_
          rintro e w16 ⟨rfl, hb16⟩
          replace hbb := hbb.trans (hb16.mono hbb.size)
          clear q0 q1 q2 q3 q4 q5 hb16
          obtain ⟨q0, q1, q2, q3, q4, q5⟩ := six_facts (HX9.out _ hbb).2.2
          clear HE
          have HB := Lib.hid (HX9.out _ hbb).2.1
          clear hbb q0 q1 q2 q3 q4 q5
          go_wp2
          go_ret
          exact ⟨rfl, HB.out⟩
        · clear HT
          by_cases d0 : m < 0
          · clear HE
            have HB := Lib.hid (HX9.out _ hbb).2.1
            clear hbb
            go_wp2
            go_ret
            exact ⟨rfl, HB.out⟩
          by_cases d1 : 999999 - m < x
          · have d1a : decide (999999 - m < x) = true := decide_eq_true d1
            have d1b : (decide (m < 0) || decide (999999 - m < x)) = true := by rw [d1a, Bool.or_true]
            clear d1
            clear HE
            have HB := Lib.hid (HX9.out _ hbb).2.1
            clear hbb
            go_wp2
            go_ret
            exact ⟨rfl, HB.out⟩
          go_wp2_with fail
          refine (HE.out _ (HX9.out _ hbb).1).mono ?_
          rintro e w17 ⟨rfl, hb17⟩
          replace hbb := hbb.trans (hb17.mono hbb.size)
          clear q0 q1 q2 q3 q4 q5 hb17
          obtain ⟨q0, q1, q2, q3, q4, q5⟩ := six_facts (HX9.out _ hbb).2.2
          clear HE
          have HB := Lib.hid (HX9.out _ hbb).2.1
          clear hbb q0 q1 q2 q3 q4 q5
          go_wp2
          go_ret
          exact ⟨rfl, HB.out⟩
namespace Lw
theorem fnFrsFresh (w : World) (hL : laidMetH Tryd.prog Rows.fnFrsFreshRow.laid w) (a : Option Addr) (len cap : Nat) (zs : List Int) (h : IsRow .u8 w a len cap zs) :
    Calls Tryd.prog 3 #[.slice a len cap] w fun e w' => e = .returned (.bool true) ∧ Below w.heap.size w w' := by
  have hL' : laidMet Tryd.prog Rows.fnFrsFreshRow.laid w := hL
  exact law_frsfreshd a len cap zs w h (cls_of_head hL')
end Lw
end Go.Proofs.YtjhgibmeokghmaaDoor
