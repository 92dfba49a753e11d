/- The law on answers that are said to be the same still, exact. -/
import Derived.Test.YtjhgibmeokghmaaDoorRsN2
import Derived.Test.YtjhgibmeokghmaaDoorRsZ
import Derived.Test.YtjhgibmeokghmaaDoorRsF
import Derived.Test.YtjhgibmeokghmaaDoorRegU
import Derived.Test.YtjhgibmeokghmaaDoorLaid
namespace Go.Proofs.YtjhgibmeokghmaaDoor
open Go.RowKit

set_option maxRecDepth 100000 in
set_option maxHeartbeats 6400000 in
theorem law_frsmerge (o r : Rp) (w : World) (ht0 : o.tag.size ≤ maxLen) (hb0 : o.body.size ≤ maxLen) (ht1 : r.tag.size ≤ maxLen) (hb1 : r.body.size ≤ maxLen) (hcls : Cls w) :
    Calls Tryd.prog 12 #[rspV o, rspV r] w fun e w' => e = .returned (.bool true) ∧ Below w.heap.size w w' := by
  have HZ0 := Lib.hid fun W => sz_rsp o 1048576 (by omega) (by omega) ht0 hb0 W
  have HZ1 : Hid (∀ L W, 0 ≤ L → L ≤ 1048576 → Calls Tryd.prog 34 #[rspV r, .int .i64 L] W fun e w' => (∃ n : Int, e = .returned (.int .i64 n) ∧ (n < 0 ∨ (0 ≤ n ∧ n ≤ L ∧ r.tag.size ≤ 1048576 ∧ r.body.size ≤ 1048576))) ∧ Below W.heap.size W w') := Lib.hid fun L W a b => sz_rsp r L a b ht1 hb1 W
  have HT0 := Lib.hid fun W => to_rsp o W
  have HT1 := Lib.hid fun W => to_rsp r W
  have HS : Hid (o.tag.size ≤ 1048576 → o.body.size ≤ 1048576 → r.tag.size ≤ 1048576 → r.body.size ≤ 1048576 → ∀ W, Calls Tryd.prog 29 #[rspV o, rspV r] W fun e w' => e = .returned (.tuple #[rspV (mergeR o r).1, .bool (mergeR o r).2]) ∧ Below W.heap.size W w') := Lib.hid fun a b c d W => spec_merge o r W a b c d
  have HI : Hid (o.tag.size ≤ 1048576 → o.body.size ≤ 1048576 → r.tag.size ≤ 1048576 → r.body.size ≤ 1048576 → ∀ W, Cls W → Calls Tryd.prog 28 #[rspV o, rspV r] W fun e w' => e = .returned (.tuple #[rspV (mergeR o r).1, .bool (mergeR o r).2]) ∧ Below W.heap.size W w') := Lib.hid fun a b c d W h => impl_merge o r W a b c d h
  have HE := Lib.hid fun W => eq_rsp (mergeR o r).1 W
  generalize mergeR o r = MR at *
  obtain ⟨⟨cx, mx, hx, tx, kx, bx0⟩, ok⟩ := MR
  have eX : (ok != ok) = false := by cases ok <;> rfl
  obtain ⟨c0, m0, h0, t0, k0, b0⟩ := o
  obtain ⟨c1, m1, h1, t1, k1, b1⟩ := r
  unfold rspV at HZ0 HZ1 HT0 HT1 HS HI HE ⊢
  dsimp only at HZ0 HZ1 HT0 HT1 HS HI HE ⊢
  obtain ⟨hz, hbA, g0, g1⟩ := rbox2 w (.cells #[.int .i64 c0, .int .i64 m0, .bool h0, .string t0, .int .i64 k0, .string b0] 45) (.cells #[.int .i64 c1, .int .i64 m1, .bool h1, .string t1, .int .i64 k1, .string b1] 45)
  obtain ⟨wA, hwA⟩ : ∃ wA, wA = (w.alloc (.cells #[.int .i64 c0, .int .i64 m0, .bool h0, .string t0, .int .i64 k0, .string b0] 45)).alloc (.cells #[.int .i64 c1, .int .i64 m1, .bool h1, .string t1, .int .i64 k1, .string b1] 45) := ⟨_, rfl⟩
  rw [← hwA] at hz hbA g0 g1
  have HX : Hid (∀ W, Below wA.heap.size wA W → Cls W ∧ Below w.heap.size w W ∧ W.heap[w.heap.size]? = some (.cells #[.int .i64 c0, .int .i64 m0, .bool h0, .string t0, .int .i64 k0, .string b0] 45 (0, 0)) ∧ W.heap[w.heap.size + 1]? = some (.cells #[.int .i64 c1, .int .i64 m1, .bool h1, .string t1, .int .i64 k1, .string b1] 45 (0, 0))) := Lib.hid fun W hW => by
    have hb' := hbA.trans (hW.mono (by omega))
    exact ⟨hcls.below hb' (Nat.le_refl _), hb', (hW.block _ (by omega)).trans g0, (hW.block _ (by omega)).trans g1⟩
  have HW := Lib.hid hwA
  obtain ⟨q0, q1, q2, q3, q4, q5⟩ := six_facts g0
  obtain ⟨p0, p1, p2, p3, p4, p5⟩ := six_facts g1
  rw [hwA] at q0 q1 q2 q3 q4 q5 p0 p1 p2 p3 p4 p5
  clear hwA hbA hcls g0 g1 ht0 hb0 ht1 hb1
  go_enter Tryd.func12, Tryd.ntmps12
  go_wp2_with fail
  rw [← HW.out]
  refine (HZ0.out _).mono ?_
  rintro e w1 ⟨⟨n, rfl, hn⟩, hbb⟩
  clear q0 q1 q2 q3 q4 q5 p0 p1 p2 p3 p4 p5
  rcases hn with hn | ⟨hn, hnL, s0, s1⟩
  · have HB := Lib.hid (HX.out _ hbb).2.1
    clear hbb
    go_wp2
    go_ret
    exact ⟨rfl, HB.out⟩
  have i1 : ¬ n < 0 := by omega
  obtain ⟨_, _, k2, k3⟩ := HX.out _ hbb
  obtain ⟨q0, q1, q2, q3, q4, q5⟩ := six_facts k2
  obtain ⟨p0, p1, p2, p3, p4, p5⟩ := six_facts k3
  have hZ := HZ1.out n w1 hn hnL
  clear k2 k3 HZ0 HZ1
  go_wp2_with fail
  refine hZ.mono ?_
  rintro e w2 ⟨⟨n2, rfl, hn2⟩, hb2⟩
  replace hbb := hbb.trans (hb2.mono hbb.size)
  clear q0 q1 q2 q3 q4 q5 p0 p1 p2 p3 p4 p5 hZ hb2
  rcases hn2 with hn2 | ⟨hn2, _, s2, s3⟩
  · have HB := Lib.hid (HX.out _ hbb).2.1
    clear hbb
    go_wp2
    go_ret
    exact ⟨rfl, HB.out⟩
  have i2 : ¬ n2 < 0 := by omega
  replace HS := Lib.hid (HS.out s0 s1 s2 s3)
  replace HI := Lib.hid (HI.out s0 s1 s2 s3)
  have HBB := Lib.hid hbb
  have HX2 : Hid (∀ W, Below w2.heap.size w2 W → Cls W ∧ Below w.heap.size w W ∧ W.heap[w.heap.size]? = some (.cells #[.int .i64 c0, .int .i64 m0, .bool h0, .string t0, .int .i64 k0, .string b0] 45 (0, 0)) ∧ W.heap[w.heap.size + 1]? = some (.cells #[.int .i64 c1, .int .i64 m1, .bool h1, .string t1, .int .i64 k1, .string b1] 45 (0, 0))) := Lib.hid fun W hW => HX.out _ (HBB.out.trans (hW.mono HBB.out.size))
  have HSt : Hid (∀ (b : Nat) (W W' : World), W.heap[b]? = some (.cells #[.int .i64 cx, .int .i64 mx, .bool hx, .string tx, .int .i64 kx, .string bx0] 24 (0, 0)) → Below W.heap.size W W' → W'.heap[b]? = some (.cells #[.int .i64 cx, .int .i64 mx, .bool hx, .string tx, .int .i64 kx, .string bx0] 24 (0, 0))) := Lib.hid fun b W W' h hb => (hb.block b (Array.getElem?_eq_some_iff.1 h).1).trans h
  clear hbb
  go_wp2_with fail
  refine wp_region_lastU (by kernel_rfl) 10 (by kernel_rfl) (by kernel_rfl) (by kernel_rfl)
    (fun z => { tmps := #[.agg #[.int .i64 c0, .int .i64 m0, .bool h0, .string t0, .int .i64 k0, .string b0], .agg #[.int .i64 c1, .int .i64 m1, .bool h1, .string t1, .int .i64 k1, .string b1], .pointer (some ⟨w.heap.size, 0, none⟩), .pointer (some ⟨w.heap.size + 1, 0, none⟩), .bool false, .int .i64 n2, z 8, undef, undef, undef, .agg #[.int .i64 c0, .int .i64 m0, .bool h0, .string t0, .int .i64 k0, .string b0], .int .i64 1048576, .int .i64 n, .int .i64 n, .bool (decide (n < 0)), .agg #[.int .i64 c1, .int .i64 m1, .bool h1, .string t1, .int .i64 k1, .string b1], .int .i64 n, .int .i64 n2, .int .i64 n2, .bool (decide (n2 < 0)), z 5, z 0, z 1, z 2, z 3, z 4, z 6, z 7, undef, undef, undef, undef, undef, undef, undef, undef, undef, undef, undef, undef, undef, undef, undef, undef, undef], defers := [] })
    (fun L u W => CU w2 8 9 #[.int .i64 0, .int .i64 0, .bool false, .string ⟨#[]⟩, .int .i64 0, .string ⟨#[]⟩] 24 (fun b W => W.heap[b]? = some (.cells #[.int .i64 cx, .int .i64 mx, .bool hx, .string tx, .int .i64 kx, .string bx0] 24 (0, 0))) L u W)
    (RU [(fun v _ => v = .agg #[.int .i64 c0, .int .i64 m0, .bool h0, .string t0, .int .i64 k0, .string b0]), (fun v _ => v = .agg #[.int .i64 c0, .int .i64 m0, .bool h0, .string t0, .int .i64 k0, .string b0]), (fun v _ => v = .agg #[.int .i64 c1, .int .i64 m1, .bool h1, .string t1, .int .i64 k1, .string b1]), (fun v _ => v = .agg #[.int .i64 c1, .int .i64 m1, .bool h1, .string t1, .int .i64 k1, .string b1]), (fun v _ => v = .tuple #[.agg #[.int .i64 cx, .int .i64 mx, .bool hx, .string tx, .int .i64 kx, .string bx0], .bool ok]), (fun v _ => v = .tuple #[.agg #[.int .i64 cx, .int .i64 mx, .bool hx, .string tx, .int .i64 kx, .string bx0], .bool ok]), (fun v _ => v = .agg #[.int .i64 cx, .int .i64 mx, .bool hx, .string tx, .int .i64 kx, .string bx0]), (fun v _ => v = .bool ok), (fun _ _ => True), (fun _ _ => True)] [(fun _ _ => True), (fun _ _ => True), (fun _ _ => True), (fun _ _ => True), (fun _ _ => True), (fun _ _ => True), (fun _ _ => True), (fun _ _ => True), (fun _ _ => True), (fun _ _ => True)] 9)
    (fun j w w' => j = 9 ∨ Below w.heap.size w w') (fun _ => undef) ⟨(Below.refl _ _).drew, fun h => h.elim⟩
    (fun i j L v w1 w2 _ _ hij _ _ _ _ hR hle => ru_stay (by exact ⟨blank_eq _, blank_eq _, blank_eq _, blank_eq _, blank_eq _, blank_eq _, blank_eq _, blank_eq _, blank_t, blank_t, trivial⟩) (by exact ⟨steadyr_t, steadyr_t, steadyr_t, steadyr_t, steadyr_t, steadyr_t, steadyr_t, steadyr_t, steadyr_t, steadyr_t, trivial⟩) hR hle) ?_ ?_
  · intro i hi L z w7 hL hcl hdl hC hdp
    match i, hi with
    | 0, _ =>
      have kk0 := (HX2.out w7 hC.1).2.2.1
      obtain ⟨q0, q1, q2, q3, q4, q5⟩ := six_facts kk0
      refine wpOp_step rfl (fun K hK => ?_)
      clear hdp
      go_simp
      exact hK _ _ ⟨.agg #[.int .i64 c0, .int .i64 m0, .bool h0, .string t0, .int .i64 k0, .string b0], rfl, ⟨rfl, fun _ => trivial⟩, .inr (Below.refl _ _), hC.same (by decide) (by decide) _⟩
    | 1, _ =>
      have e0 : z 0 = .agg #[.int .i64 c0, .int .i64 m0, .bool h0, .string t0, .int .i64 k0, .string b0] := (hdp 0 (dep_of (by kernel_rfl))).1
      have hT := HT0.out w7
      refine wpOp_step rfl (fun K hK => ?_)
      clear hdp
      go_simp
      refine hT.mono ?_
      rintro e w8 ⟨rfl, hb8⟩
      exact hK _ _ ⟨.agg #[.int .i64 c0, .int .i64 m0, .bool h0, .string t0, .int .i64 k0, .string b0], by simp [upd, e0], ⟨rfl, fun _ => trivial⟩, .inr hb8, hC.keep (by decide) (by decide) (fun _ h => HSt.out _ _ _ h hb8) hb8 _⟩
    | 2, _ =>
      have kk0 := (HX2.out w7 hC.1).2.2.2
      obtain ⟨q0, q1, q2, q3, q4, q5⟩ := six_facts kk0
      refine wpOp_step rfl (fun K hK => ?_)
      clear hdp
      go_simp
      exact hK _ _ ⟨.agg #[.int .i64 c1, .int .i64 m1, .bool h1, .string t1, .int .i64 k1, .string b1], rfl, ⟨rfl, fun _ => trivial⟩, .inr (Below.refl _ _), hC.same (by decide) (by decide) _⟩
    | 3, _ =>
      have e2 : z 2 = .agg #[.int .i64 c1, .int .i64 m1, .bool h1, .string t1, .int .i64 k1, .string b1] := (hdp 2 (dep_of (by kernel_rfl))).1
      have hT := HT1.out w7
      refine wpOp_step rfl (fun K hK => ?_)
      clear hdp
      go_simp
      refine hT.mono ?_
      rintro e w8 ⟨rfl, hb8⟩
      exact hK _ _ ⟨.agg #[.int .i64 c1, .int .i64 m1, .bool h1, .string t1, .int .i64 k1, .string b1], by simp [upd, e2], ⟨rfl, fun _ => trivial⟩, .inr hb8, hC.keep (by decide) (by decide) (fun _ h => HSt.out _ _ _ h hb8) hb8 _⟩
    | 4, _ =>
      have e1 : z 1 = .agg #[.int .i64 c0, .int .i64 m0, .bool h0, .string t0, .int .i64 k0, .string b0] := (hdp 1 (dep_of (by kernel_rfl))).1
      have e3 : z 3 = .agg #[.int .i64 c1, .int .i64 m1, .bool h1, .string t1, .int .i64 k1, .string b1] := (hdp 3 (dep_of (by kernel_rfl))).1
      have hT := HS.out w7
      refine wpOp_step rfl (fun K hK => ?_)
      clear hdp
      go_simp
      refine hT.mono ?_
      rintro e w8 ⟨rfl, hb8⟩
      exact hK _ _ ⟨.tuple #[.agg #[.int .i64 cx, .int .i64 mx, .bool hx, .string tx, .int .i64 kx, .string bx0], .bool ok], by simp [upd, e1, e3], ⟨rfl, fun _ => trivial⟩, .inr hb8, hC.keep (by decide) (by decide) (fun _ h => HSt.out _ _ _ h hb8) hb8 _⟩
    | 5, _ =>
      have e4 : z 4 = .tuple #[.agg #[.int .i64 cx, .int .i64 mx, .bool hx, .string tx, .int .i64 kx, .string bx0], .bool ok] := (hdp 4 (dep_of (by kernel_rfl))).1
      refine wpOp_step rfl (fun K hK => ?_)
      clear hdp
      go_simp
      exact hK _ _ ⟨.tuple #[.agg #[.int .i64 cx, .int .i64 mx, .bool hx, .string tx, .int .i64 kx, .string bx0], .bool ok], by simp [upd, e4], ⟨rfl, fun _ => trivial⟩, .inr (Below.refl _ _), hC.same (by decide) (by decide) _⟩
    | 6, _ =>
      have e5 : z 5 = .tuple #[.agg #[.int .i64 cx, .int .i64 mx, .bool hx, .string tx, .int .i64 kx, .string bx0], .bool ok] := (hdp 5 (dep_of (by kernel_rfl))).1
      refine wpOp_step rfl (fun K hK => ?_)
      clear hdp
      go_simp
      exact hK _ _ ⟨.agg #[.int .i64 cx, .int .i64 mx, .bool hx, .string tx, .int .i64 kx, .string bx0], by simp [upd, e5], ⟨rfl, fun _ => trivial⟩, .inr (Below.refl _ _), hC.same (by decide) (by decide) _⟩
    | 7, _ =>
      have e5 : z 5 = .tuple #[.agg #[.int .i64 cx, .int .i64 mx, .bool hx, .string tx, .int .i64 kx, .string bx0], .bool ok] := (hdp 5 (dep_of (by kernel_rfl))).1
      refine wpOp_step rfl (fun K hK => ?_)
      clear hdp
      go_simp
      exact hK _ _ ⟨.bool ok, by simp [upd, e5], ⟨rfl, fun _ => trivial⟩, .inr (Below.refl _ _), hC.same (by decide) (by decide) _⟩
    | 8, _ =>
      have hq : ¬ L 9 := fun h => hL (hcl 9 h 8 (dep_of (by kernel_rfl)))
      refine wpOp_step rfl (fun K hK => ?_)
      clear hdp
      go_simp
      exact hK _ _ ⟨_, rfl, ⟨trivial, fun _ => trivial⟩, .inr ((Below.refl _ _).alloc (Nat.le_refl _) _), hC.make (by decide) hq⟩
    | 9, _ =>
      obtain ⟨b, hu, hbB, hzz, _⟩ := hC.2 (hdl 8 (dep_of (by kernel_rfl)))
      have hc := hzz hL
      have e6 : z 6 = .agg #[.int .i64 cx, .int .i64 mx, .bool hx, .string tx, .int .i64 kx, .string bx0] := (hdp 6 (dep_of (by kernel_rfl))).1
      obtain ⟨x0, x1, x2, x3, x4, x5⟩ := six_facts hc
      obtain ⟨y0, y1, y2, y3, y4, y5⟩ := six_frozen hc
      refine wpOp_step rfl (fun K hK => ?_)
      clear hdp
      go_simp
      exact hK _ _ ⟨undef, by simp [upd, hu, e6], ⟨trivial, fun _ => trivial⟩, .inl rfl, hC.told (by decide) hu hbB (grown_set6 _ _ _ _ _ _ _ _) (six_set hc _ _ _ _ _ _) _⟩
    | n + 10, hn => exact absurd hn (by omega)
  · intro L z w7 hC hall _ hdp
    have e7 : z 7 = .bool ok := (hdp 7 (by decide)).1
    obtain ⟨hD, hh⟩ := hC
    obtain ⟨bx, hu, hbB, _, hst⟩ := hh (hall 8 (by decide))
    have hz8 := hst (hall 9 (by decide))
    clear hh hall hst
    refine wpOp_step rfl (fun K hK => ?_)
    clear hdp
    go_simp
    refine hK _ _ ?_
    clear hK K hu e7
    obtain ⟨w3, hw3⟩ : ∃ x, x = w7 := ⟨_, rfl⟩
    rw [← hw3] at hz8 hD ⊢
    clear hw3
    have HD := Lib.hid hD; have HZ8 := Lib.hid hz8
    have HX3 : Hid (∀ W, Below w3.heap.size w3 W → Cls W ∧ Below w.heap.size w W ∧ W.heap[w.heap.size]? = some (.cells #[.int .i64 c0, .int .i64 m0, .bool h0, .string t0, .int .i64 k0, .string b0] 45 (0, 0)) ∧ W.heap[w.heap.size + 1]? = some (.cells #[.int .i64 c1, .int .i64 m1, .bool h1, .string t1, .int .i64 k1, .string b1] 45 (0, 0)) ∧ W.heap[bx]? = some (.cells #[.int .i64 cx, .int .i64 mx, .bool hx, .string tx, .int .i64 kx, .string bx0] 24 (0, 0))) := Lib.hid fun W hW => by
      obtain ⟨a1, a2, a3, a4⟩ := HX2.out _ (HD.out.trans (hW.mono HD.out.size))
      exact ⟨a1, a2, a3, a4, HSt.out _ _ _ HZ8.out hW⟩
    clear hD hz8
    go_wp2_with fail
    refine wp_region_lastU (by kernel_rfl) 10 (by kernel_rfl) (by kernel_rfl) (by kernel_rfl)
      (fun y => { tmps := #[.agg #[.int .i64 c0, .int .i64 m0, .bool h0, .string t0, .int .i64 k0, .string b0], .agg #[.int .i64 c1, .int .i64 m1, .bool h1, .string t1, .int .i64 k1, .string b1], .pointer (some ⟨w.heap.size, 0, none⟩), .pointer (some ⟨w.heap.size + 1, 0, none⟩), .bool false, .int .i64 n2, .pointer (some ⟨bx, 0, none⟩), .bool ok, y 8, undef, .agg #[.int .i64 c0, .int .i64 m0, .bool h0, .string t0, .int .i64 k0, .string b0], .int .i64 1048576, .int .i64 n, .int .i64 n, .bool (decide (n < 0)), .agg #[.int .i64 c1, .int .i64 m1, .bool h1, .string t1, .int .i64 k1, .string b1], .int .i64 n, .int .i64 n2, .int .i64 n2, .bool (decide (n2 < 0)), z 5, z 0, z 1, z 2, z 3, z 4, z 6, .bool ok, y 5, y 0, y 1, y 2, y 3, y 4, y 6, y 7, undef, undef, undef, undef, undef, undef, undef, undef, undef], defers := [] })
      (fun L u W => CU w3 8 9 #[.int .i64 0, .int .i64 0, .bool false, .string ⟨#[]⟩, .int .i64 0, .string ⟨#[]⟩] 24 (fun b W => W.heap[b]? = some (.cells #[.int .i64 cx, .int .i64 mx, .bool hx, .string tx, .int .i64 kx, .string bx0] 24 (0, 0))) L u W)
      (RU [(fun v _ => v = .agg #[.int .i64 c0, .int .i64 m0, .bool h0, .string t0, .int .i64 k0, .string b0]), (fun v _ => v = .agg #[.int .i64 c0, .int .i64 m0, .bool h0, .string t0, .int .i64 k0, .string b0]), (fun v _ => v = .agg #[.int .i64 c1, .int .i64 m1, .bool h1, .string t1, .int .i64 k1, .string b1]), (fun v _ => v = .agg #[.int .i64 c1, .int .i64 m1, .bool h1, .string t1, .int .i64 k1, .string b1]), (fun v _ => v = .tuple #[.agg #[.int .i64 cx, .int .i64 mx, .bool hx, .string tx, .int .i64 kx, .string bx0], .bool ok]), (fun v _ => v = .tuple #[.agg #[.int .i64 cx, .int .i64 mx, .bool hx, .string tx, .int .i64 kx, .string bx0], .bool ok]), (fun v _ => v = .agg #[.int .i64 cx, .int .i64 mx, .bool hx, .string tx, .int .i64 kx, .string bx0]), (fun v _ => v = .bool ok), (fun _ _ => True), (fun _ _ => True)] [(fun _ _ => True), (fun _ _ => True), (fun _ _ => True), (fun _ _ => True), (fun _ _ => True), (fun _ _ => True), (fun _ _ => True), (fun _ _ => True), (fun _ _ => True), (fun _ _ => True)] 9)
      (fun j w w' => j = 9 ∨ Below w.heap.size w w') (fun _ => undef) ⟨(Below.refl _ _).drew, fun h => h.elim⟩
      (fun i j L v w1 w2 _ _ hij _ _ _ _ hR hle => ru_stay (by exact ⟨blank_eq _, blank_eq _, blank_eq _, blank_eq _, blank_eq _, blank_eq _, blank_eq _, blank_eq _, blank_t, blank_t, trivial⟩) (by exact ⟨steadyr_t, steadyr_t, steadyr_t, steadyr_t, steadyr_t, steadyr_t, steadyr_t, steadyr_t, steadyr_t, steadyr_t, trivial⟩) hR hle) ?_ ?_
    · intro i hi L y w7 hL hcl hdl hC hdp
      match i, hi with
      | 0, _ =>
        have kk0 := (HX3.out w7 hC.1).2.2.1
        obtain ⟨q0, q1, q2, q3, q4, q5⟩ := six_facts kk0
        refine wpOp_step rfl (fun K hK => ?_)
        clear hdp
        go_simp
        exact hK _ _ ⟨.agg #[.int .i64 c0, .int .i64 m0, .bool h0, .string t0, .int .i64 k0, .string b0], rfl, ⟨rfl, fun _ => trivial⟩, .inr (Below.refl _ _), hC.same (by decide) (by decide) _⟩
      | 1, _ =>
        have e0 : y 0 = .agg #[.int .i64 c0, .int .i64 m0, .bool h0, .string t0, .int .i64 k0, .string b0] := (hdp 0 (dep_of (by kernel_rfl))).1
        have hT := HT0.out w7
        refine wpOp_step rfl (fun K hK => ?_)
        clear hdp
        go_simp
        refine hT.mono ?_
        rintro e w8 ⟨rfl, hb8⟩
        exact hK _ _ ⟨.agg #[.int .i64 c0, .int .i64 m0, .bool h0, .string t0, .int .i64 k0, .string b0], by simp [upd, e0], ⟨rfl, fun _ => trivial⟩, .inr hb8, hC.keep (by decide) (by decide) (fun _ h => HSt.out _ _ _ h hb8) hb8 _⟩
      | 2, _ =>
        have kk0 := (HX3.out w7 hC.1).2.2.2.1
        obtain ⟨q0, q1, q2, q3, q4, q5⟩ := six_facts kk0
        refine wpOp_step rfl (fun K hK => ?_)
        clear hdp
        go_simp
        exact hK _ _ ⟨.agg #[.int .i64 c1, .int .i64 m1, .bool h1, .string t1, .int .i64 k1, .string b1], rfl, ⟨rfl, fun _ => trivial⟩, .inr (Below.refl _ _), hC.same (by decide) (by decide) _⟩
      | 3, _ =>
        have e2 : y 2 = .agg #[.int .i64 c1, .int .i64 m1, .bool h1, .string t1, .int .i64 k1, .string b1] := (hdp 2 (dep_of (by kernel_rfl))).1
        have hT := HT1.out w7
        refine wpOp_step rfl (fun K hK => ?_)
        clear hdp
        go_simp
        refine hT.mono ?_
        rintro e w8 ⟨rfl, hb8⟩
        exact hK _ _ ⟨.agg #[.int .i64 c1, .int .i64 m1, .bool h1, .string t1, .int .i64 k1, .string b1], by simp [upd, e2], ⟨rfl, fun _ => trivial⟩, .inr hb8, hC.keep (by decide) (by decide) (fun _ h => HSt.out _ _ _ h hb8) hb8 _⟩
      | 4, _ =>
        have e1 : y 1 = .agg #[.int .i64 c0, .int .i64 m0, .bool h0, .string t0, .int .i64 k0, .string b0] := (hdp 1 (dep_of (by kernel_rfl))).1
        have e3 : y 3 = .agg #[.int .i64 c1, .int .i64 m1, .bool h1, .string t1, .int .i64 k1, .string b1] := (hdp 3 (dep_of (by kernel_rfl))).1
        have hT := HI.out w7 (HX3.out _ hC.1).1
        refine wpOp_step rfl (fun K hK => ?_)
        clear hdp
        go_simp
        refine hT.mono ?_
        rintro e w8 ⟨rfl, hb8⟩
        exact hK _ _ ⟨.tuple #[.agg #[.int .i64 cx, .int .i64 mx, .bool hx, .string tx, .int .i64 kx, .string bx0], .bool ok], by simp [upd, e1, e3], ⟨rfl, fun _ => trivial⟩, .inr hb8, hC.keep (by decide) (by decide) (fun _ h => HSt.out _ _ _ h hb8) hb8 _⟩
      | 5, _ =>
        have e4 : y 4 = .tuple #[.agg #[.int .i64 cx, .int .i64 mx, .bool hx, .string tx, .int .i64 kx, .string bx0], .bool ok] := (hdp 4 (dep_of (by kernel_rfl))).1
        refine wpOp_step rfl (fun K hK => ?_)
        clear hdp
        go_simp
        exact hK _ _ ⟨.tuple #[.agg #[.int .i64 cx, .int .i64 mx, .bool hx, .string tx, .int .i64 kx, .string bx0], .bool ok], by simp [upd, e4], ⟨rfl, fun _ => trivial⟩, .inr (Below.refl _ _), hC.same (by decide) (by decide) _⟩
      | 6, _ =>
        have e5 : y 5 = .tuple #[.agg #[.int .i64 cx, .int .i64 mx, .bool hx, .string tx, .int .i64 kx, .string bx0], .bool ok] := (hdp 5 (dep_of (by kernel_rfl))).1
        refine wpOp_step rfl (fun K hK => ?_)
        clear hdp
        go_simp
        exact hK _ _ ⟨.agg #[.int .i64 cx, .int .i64 mx, .bool hx, .string tx, .int .i64 kx, .string bx0], by simp [upd, e5], ⟨rfl, fun _ => trivial⟩, .inr (Below.refl _ _), hC.same (by decide) (by decide) _⟩
      | 7, _ =>
        have e5 : y 5 = .tuple #[.agg #[.int .i64 cx, .int .i64 mx, .bool hx, .string tx, .int .i64 kx, .string bx0], .bool ok] := (hdp 5 (dep_of (by kernel_rfl))).1
        refine wpOp_step rfl (fun K hK => ?_)
        clear hdp
        go_simp
        exact hK _ _ ⟨.bool ok, by simp [upd, e5], ⟨rfl, fun _ => trivial⟩, .inr (Below.refl _ _), hC.same (by decide) (by decide) _⟩
      | 8, _ =>
        have hq : ¬ L 9 := fun h => hL (hcl 9 h 8 (dep_of (by kernel_rfl)))
        refine wpOp_step rfl (fun K hK => ?_)
        clear hdp
        go_simp
        exact hK _ _ ⟨_, rfl, ⟨trivial, fun _ => trivial⟩, .inr ((Below.refl _ _).alloc (Nat.le_refl _) _), hC.make (by decide) hq⟩
      | 9, _ =>
        obtain ⟨b, hu, hbB, hzz, _⟩ := hC.2 (hdl 8 (dep_of (by kernel_rfl)))
        have hc := hzz hL
        have e6 : y 6 = .agg #[.int .i64 cx, .int .i64 mx, .bool hx, .string tx, .int .i64 kx, .string bx0] := (hdp 6 (dep_of (by kernel_rfl))).1
        obtain ⟨x0, x1, x2, x3, x4, x5⟩ := six_facts hc
        obtain ⟨y0, y1, y2, y3, y4, y5⟩ := six_frozen hc
        refine wpOp_step rfl (fun K hK => ?_)
        clear hdp
        go_simp
        exact hK _ _ ⟨undef, by simp [upd, hu, e6], ⟨trivial, fun _ => trivial⟩, .inl rfl, hC.told (by decide) hu hbB (grown_set6 _ _ _ _ _ _ _ _) (six_set hc _ _ _ _ _ _) _⟩
      | n + 10, hn => exact absurd hn (by omega)
    · intro L y w7 hC hall _ hdp
      have e7 : y 7 = .bool ok := (hdp 7 (by decide)).1
      obtain ⟨hD, hh⟩ := hC
      obtain ⟨by9, hu, hbB, _, hst⟩ := hh (hall 8 (by decide))
      have hz8 := hst (hall 9 (by decide))
      clear hh hall hst
      refine wpOp_step rfl (fun K hK => ?_)
      clear hdp
      go_simp
      refine hK _ _ ?_
      clear hK K hu e7
      obtain ⟨w4, hw4⟩ : ∃ x, x = w7 := ⟨_, rfl⟩
      rw [← hw4] at hz8 hD ⊢
      clear hw4
      have k4 := (HX3.out _ hD).2.2.2.2
      have HB4 := Lib.hid (HX3.out _ hD).2.1
      obtain ⟨q0, q1, q2, q3, q4, q5⟩ := six_facts k4
      obtain ⟨p0, p1, p2, p3, p4, p5⟩ := six_facts hz8
      clear hD hz8 k4
      go_wp2_with fail
      refine (HE.out _).mono ?_
      rintro e w5 ⟨rfl, hb5⟩
      have HB := Lib.hid (HB4.out.trans (hb5.mono HB4.out.size))
      clear q0 q1 q2 q3 q4 q5 p0 p1 p2 p3 p4 p5 hb5
      go_wp2
      go_ret
      exact ⟨rfl, HB.out⟩
namespace Lw
theorem fnExactFrsMerge (w : World) (hL : laidMetH Tryd.prog Rows.fnExactFrsMergeRow.laid w) (o : Rp) (ht0 : o.tag.size ≤ maxLen) (hb0 : o.body.size ≤ maxLen) (r : Rp) (ht1 : r.tag.size ≤ maxLen) (hb1 : r.body.size ≤ maxLen) :
    Calls Tryd.prog 12 #[rspV o, rspV r] w fun e w' => e = .returned (.bool true) ∧ Below w.heap.size w w' := by
  have hL' : laidMet Tryd.prog Rows.fnExactFrsMergeRow.laid w := hL
  exact law_frsmerge o r w ht0 hb0 ht1 hb1 (cls_of_head hL')
end Lw
end Go.Proofs.YtjhgibmeokghmaaDoor
