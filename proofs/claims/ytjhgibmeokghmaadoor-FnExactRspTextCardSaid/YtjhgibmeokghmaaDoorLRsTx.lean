/- The law on the text of an answer, exact. -/
import Derived.Test.YtjhgibmeokghmaaDoorRsT2
import Derived.Test.YtjhgibmeokghmaaDoorRsZ
import Derived.Test.YtjhgibmeokghmaaDoorRsF
import Derived.Test.YtjhgibmeokghmaaDoorEq
import Derived.Test.YtjhgibmeokghmaaDoorLaidN
namespace Go.Proofs.YtjhgibmeokghmaaDoor
open Go.RowKit

theorem rspT_len (r : Rp) (age : Int) : (rspT r age).length ≤ 3 := by
  unfold rspT
  split
  · split <;> split <;> simp
  · simp

set_option maxRecDepth 100000 in
set_option maxHeartbeats 6400000 in
theorem law_rsptext (r : Rp) (age : Int) (w : World) (ht : r.tag.size ≤ maxLen) (hb : r.body.size ≤ maxLen) (hcls : Cls w) (htab : Tab w) (hcds : Cds w) :
    Calls Tryd.prog 13 #[rspV r, .int .i64 age] w fun e w' => e = .returned (.bool true) ∧ Below w.heap.size w w' := by
  have HZ := Lib.hid fun W => sz_rsp r 1048576 (by omega) (by omega) ht hb W
  have HT := Lib.hid fun W => to_rsp r W
  have HS : Hid (r.tag.size ≤ 1048576 → r.body.size ≤ 1048576 → ∀ W, Calls Tryd.prog 33 #[rspV r, .int .i64 age] W fun e w' => (∃ v, e = .returned v ∧ w'.ownsRow W.heap.size 9 1 v (rspT r age).length ((rspT r age).map strV)) ∧ Below W.heap.size W w') := Lib.hid fun a b W => spec_rsptext r age W a b
  have HI : Hid (r.tag.size ≤ 1048576 → r.body.size ≤ 1048576 → ∀ W, Cls W → Tab W → Cds W → Calls Tryd.prog 31 #[rspV r, .int .i64 age] W fun e w' => (∃ v, e = .returned v ∧ w'.ownsRow W.heap.size 9 1 v (rspT r age).length ((rspT r age).map strV)) ∧ Below W.heap.size W w') := Lib.hid fun a b W c d e => impl_rsptext r age W a b c d e
  have hlen := rspT_len r age
  generalize rspT r age = TX at *
  obtain ⟨c, m, hd, t, k, b⟩ := r
  unfold rspV at HZ HT HS HI ⊢
  dsimp only at HZ HT HS HI ⊢
  clear ht hb
  obtain ⟨wA, hwA⟩ : ∃ wA, wA = w.alloc (.cells #[.int .i64 c, .int .i64 m, .bool hd, .string t, .int .i64 k, .string b] 45) := ⟨_, rfl⟩
  have hsA : wA.heap.size = w.heap.size + 1 := by rw [hwA]; simp
  have hbA : Below w.heap.size w wA := by rw [hwA]; exact (Below.refl _ _).alloc (Nat.le_refl _) _
  have hH : wA.heap[w.heap.size]? = some (.cells #[.int .i64 c, .int .i64 m, .bool hd, .string t, .int .i64 k, .string b] 45 (0, 0)) := by rw [hwA]; exact heap_alloc_new w _
  have HX : Hid (∀ W, Below wA.heap.size wA W → (Cls W ∧ Tab W ∧ Cds W) ∧ Below w.heap.size w W ∧ W.heap[w.heap.size]? = some (.cells #[.int .i64 c, .int .i64 m, .bool hd, .string t, .int .i64 k, .string b] 45 (0, 0))) := Lib.hid fun W hW => by
    have hb' := hbA.trans (hW.mono (by omega))
    exact ⟨⟨hcls.below hb' (Nat.le_refl _), htab.below hb' (Nat.le_refl _), hcds.below hb' (Nat.le_refl _)⟩, hb', (hW.block _ (by omega)).trans hH⟩
  have HW := Lib.hid hwA
  obtain ⟨q0, q1, q2, q3, q4, q5⟩ := six_facts hH
  rw [hwA] at q0 q1 q2 q3 q4 q5
  clear hwA hbA hcls htab hcds hH
  go_enter Tryd.func13, Tryd.ntmps13
  go_wp2_with fail
  rw [← HW.out]
  refine (HZ.out _).mono ?_
  rintro e w1 ⟨⟨n, rfl, hn⟩, hb1⟩
  clear q0 q1 q2 q3 q4 q5
  rcases hn with hn | ⟨hn, _, s0, s1⟩
  · have HB := Lib.hid (HX.out _ hb1).2.1
    clear hb1
    go_wp2
    go_ret
    exact ⟨rfl, HB.out⟩
  have i1 : ¬ n < 0 := by omega
  replace HS := Lib.hid (HS.out s0 s1)
  replace HI := Lib.hid (HI.out s0 s1)
  obtain ⟨q0, q1, q2, q3, q4, q5⟩ := six_facts (HX.out _ hb1).2.2
  go_wp2_with fail
  refine (HT.out _).mono ?_
  rintro e w2 ⟨rfl, hb2⟩
  have hbb := hb1.trans (hb2.mono hb1.size)
  clear q0 q1 q2 q3 q4 q5 hb1 hb2
  go_wp2_with fail
  refine (HS.out _).mono ?_
  rintro e w3 ⟨⟨v1, rfl, ho1⟩, hb3⟩
  have hv1 := ho1.lt
  have hs3 := hb3.size
  have hbb3 := hbb.trans (hb3.mono hbb.size)
  have hs2 := hbb.size
  clear hb3 hbb
  obtain ⟨q0, q1, q2, q3, q4, q5⟩ := six_facts (HX.out _ hbb3).2.2
  go_wp2_with fail
  refine (HT.out _).mono ?_
  rintro e w4 ⟨rfl, hb4⟩
  have hbb4 := hbb3.trans (hb4.mono hbb3.size)
  have ho1b := own_below ho1 hb4
  have hs4 := hb4.size
  clear q0 q1 q2 q3 q4 q5 hbb3 hb4 ho1
  obtain ⟨k1, k2, k3⟩ := (HX.out _ hbb4).1
  go_wp2_with fail
  refine (HI.out _ k1 k2 k3).mono ?_
  rintro e w5 ⟨⟨v2, rfl, ho2⟩, hb5⟩
  have hbb5 := hbb4.trans (hb5.mono hbb4.size)
  have ho1c := own_below ho1b hb5
  have hs5 := hb5.size
  clear k1 k2 k3 hbb4 hb5 ho1b
  go_wp2_with fail
  refine (eq_strings _ _ _ _ (Rd1.of_own ho2) (Rd1.of_own ho1c)).mono ?_
  rintro e w6 ⟨rfl, n3, rfl⟩
  have ho2' := own_drewN ho2 n3
  have hv2 := ho2.lt
  have hne : ∀ b, v1.ownBlock = some b → some b ≠ v2.ownBlock := fun b hb e => by
    have h1 := (hv1 b hb).2; have h2 := (hv2 b e.symm).1; omega
  have hr1 := (Rd1.of_own ho1c).drewN n3
  have hbb6 : Below wA.heap.size wA (w5.drewN n3) := below_drewN hbb5
  clear hbb5 ho2
  generalize hN : TX.length = N at *
  have HN := Lib.hid hN; clear hN
  go_wp2_with fail
  refine (mark_strings v2 1 N w4.heap.size _ _ (by omega) ho2').mono ?_
  rintro e w7 ⟨rfl, ho7, hg7⟩
  have hbb7 : Below wA.heap.size wA w7 := hbb6.grown hg7 hbb6.size (fun k hk => Nat.le_trans (Nat.le_trans hs2 (Nat.le_trans hs3 hs4)) (hv2 k hk).1)
  have hr7 := hr1.keep (w' := w7) (fun b hb => hg7.block b (Nat.lt_of_lt_of_le (hv1 b hb).2 (Nat.le_trans hs4 hs5)) (hne b hb))
  have hs7 : w5.heap.size ≤ w7.heap.size := hg7.size
  clear hbb6 hr1 hg7 ho2'
  go_wp2_with fail
  refine (held_strings v2 1 N _ (by omega) (Rd1.of_own ho7) (fun b hb => (ho7.lt b hb).2)).mono ?_
  rintro e w8 ⟨rfl, hb8⟩
  have ho8 := own_below ho7 hb8
  have hbb8 := hbb7.trans (hb8.mono hbb7.size)
  have hr8 := hr7.keep (w' := w8) (fun b hb => hb8.block b (Nat.lt_of_lt_of_le (hv1 b hb).2 (Nat.le_trans hs4 (Nat.le_trans hs5 hs7))))
  have hs8 := hb8.size
  have hz1 : ((1 : Int) + (N : Int) != 1 + (N : Int)) = false := by simp
  have hz2 : ¬ ((1 : Int) + (N : Int) < 0) := by omega
  clear hbb7 hr7 ho7 hb8
  obtain ⟨q0, q1, q2, q3, q4, q5⟩ := six_facts (HX.out _ hbb8).2.2
  go_wp2_with fail
  refine (HT.out _).mono ?_
  rintro e w9 ⟨rfl, hb9⟩
  have ho9 := own_below ho8 hb9
  have hbb9 := hbb8.trans (hb9.mono hbb8.size)
  have hr9 := hr8.keep (w' := w9) (fun b hb => hb9.block b (Nat.lt_of_lt_of_le (hv1 b hb).2 (Nat.le_trans hs4 (Nat.le_trans hs5 (Nat.le_trans hs7 hs8)))))
  have hs9 := hb9.size
  clear q0 q1 q2 q3 q4 q5 hbb8 hr8 ho8 hb9
  obtain ⟨k1, k2, k3⟩ := (HX.out _ hbb9).1
  go_wp2_with fail
  refine (HI.out _ k1 k2 k3).mono ?_
  rintro e w10 ⟨⟨v3, rfl, ho10⟩, hb10⟩
  have ho2x := own_below ho9 hb10
  have hbb10 := hbb9.trans (hb10.mono hbb9.size)
  have hr10 := hr9.keep (w' := w10) (fun b hb => hb10.block b (Nat.lt_of_lt_of_le (hv1 b hb).2 (Nat.le_trans hs4 (Nat.le_trans hs5 (Nat.le_trans hs7 (Nat.le_trans hs8 hs9))))))
  clear k1 k2 k3 hbb9 hr9 ho9 hb10
  go_wp2_with fail
  refine (eq_strings _ _ _ _ (Rd1.of_own ho10) hr10).mono ?_
  rintro e w11 ⟨rfl, n7, rfl⟩
  have hbb11 : Below wA.heap.size wA (w10.drewN n7) := below_drewN hbb10
  clear hbb10 hr10 ho10
  go_wp2_with fail
  refine (held_strings v2 1 N _ (by omega) ((Rd1.of_own ho2x).drewN n7) (fun b hb => (ho2x.lt b hb).2)).mono ?_
  rintro e w12 ⟨rfl, hb12⟩
  have HB := Lib.hid (HX.out _ (hbb11.trans (hb12.mono hbb11.size))).2.1
  clear hbb11 hb12 ho2x
  go_wp2
  go_ret
  exact ⟨rfl, HB.out⟩
namespace Lw
theorem fnExactRspText (w : World) (hL : laidMetH Tryd.prog Rows.fnExactRspTextRow.laid w) (r : Rp) (ht : r.tag.size ≤ maxLen) (hb : r.body.size ≤ maxLen) (age : Int) (_ha : (Lit.int .i64 age).wf = true) :
    Calls Tryd.prog 13 #[rspV r, .int .i64 age] w fun e w' => e = .returned (.bool true) ∧ Below w.heap.size w w' := by
  have hL' : laidMet Tryd.prog Rows.fnExactRspTextRow.laid w := hL
  exact law_rsptext r age w ht hb (cls_of_head hL'.tail.tail.tail) (tab_of_head hL'.tail.tail) (cds_of_head hL'.tail.tail.tail.tail)
end Lw
end Go.Proofs.YtjhgibmeokghmaaDoor
