/- The law on whether a key is ok, exact. -/
import Derived.Test.YtiepobifbkleaaaDoorGKyL
import Derived.Test.YtiepobifbkleaaaDoorGKy
import Derived.Test.YtiepobifbkleaaaDoorKyS1
import Derived.Test.YtiepobifbkleaaaDoorKyFr
namespace Go.Proofs.YtiepobifbkleaaaDoor
open Go.RowKit Go.Maps

set_option maxRecDepth 100000 in
set_option maxHeartbeats 6400000 in
theorem law_keyok (hs : List Hs) (v : Value) (k : Ky) (w : World) (hH : HRow w v hs) (hN : HOks hs maxLen) (hp : k.place.size ≤ maxLen) (hcls : Cls w) :
    Calls Tryd.prog 3 #[.agg #[v], keyV k] w fun e w' => e = .returned (.bool true) ∧ Below w.heap.size w w' := by
  obtain ⟨hz2, hb2, hA0, hA1⟩ := box2_new w (.cells #[v] 24) (.cells #[.int .i64 k.house, .string k.place, .int .i64 k.mask] 26)
  obtain ⟨wA, hwA⟩ : ∃ wA, wA = (w.alloc (.cells #[v] 24)).alloc (.cells #[.int .i64 k.house, .string k.place, .int .i64 k.mask] 26) := ⟨_, rfl⟩
  rw [← hwA] at hz2 hb2 hA0 hA1
  have HX : Hid (∀ W, Below wA.heap.size wA W → Cls W ∧ HRow W v hs ∧ Below w.heap.size w W ∧ W.heap[w.heap.size]? = some (.cells #[v] 24 (0, 0)) ∧ W.heap[w.heap.size + 1]? = some (.cells #[.int .i64 k.house, .string k.place, .int .i64 k.mask] 26 (0, 0))) := Lib.hid fun W hW => by
    have hb := hb2.trans (hW.mono (by omega))
    exact ⟨hcls.below hb (Nat.le_refl _), hH.below (Nat.le_refl _) hb, hb, (hW.block _ (by omega)).trans hA0, (hW.block _ (by omega)).trans hA1⟩
  have hb0 : Below wA.heap.size wA wA := Below.refl _ _
  have hSz := szt_cfg v hs wA (HX.out _ hb0).2.1 hN
  have HSK : Hid (∀ L W, 0 ≤ L → L ≤ 1048576 → Calls Tryd.prog 7 #[keyV k, .int .i64 L] W fun e w' => (∃ r : Int, e = .returned (.int .i64 r) ∧ (r < 0 ∨ (0 ≤ r ∧ r ≤ 1048576 ∧ k.place.size ≤ 1048576))) ∧ Below W.heap.size W w') := Lib.hid fun L W h0 h1 => sz_key k L h0 h1 hp W
  have HTK := Lib.hid fun W => to_key k W
  have HS1 : Hid (HOks hs 1048576 → k.place.size ≤ 1048576 → ∀ x W, HRow W x hs → Calls Tryd.prog 8 #[.agg #[x], keyV k] W fun e w' => e = .returned (.bool (keyB hs k)) ∧ Below W.heap.size W w') := Lib.hid fun a b x W hx => spec_keyok hs x k W hx a b
  have HI1 : Hid (HOks hs 1048576 → k.place.size ≤ 1048576 → ∀ x W, HRow W x hs → Cls W → Calls Tryd.prog 11 #[.agg #[x], keyV k] W fun e w' => e = .returned (.bool (keyB hs k)) ∧ Below W.heap.size W w') := Lib.hid fun a b x W hx hc => impl_keyok hs x k W hx a b hc
  generalize keyB hs k = ok at *
  obtain ⟨va, vc, rfl, _⟩ := hH
  obtain ⟨kh, kp, km⟩ := k
  unfold keyV at HSK HTK HS1 HI1 ⊢
  dsimp only at *
  obtain ⟨t0, _⟩ := one_fact hA0
  obtain ⟨t1, t2, t3, _⟩ := three_facts hA1
  rw [hwA] at t0 t1 t2 t3
  have HW := Lib.hid hwA
  have eX := bne_self ok
  clear hwA hb2 hA0 hA1 hN hcls hp
  go_enter Tryd.func3, Tryd.ntmps3
  go_wp2_with fail
  rw [← HW.out]
  refine hSz.mono ?_
  rintro e w1 ⟨⟨r, rfl, hr⟩, hb1⟩
  clear hSz hb0 t0 t1 t2 t3
  rcases hr with hr | ⟨hr, hz, hn, hm, htot⟩
  · have HB := Lib.hid (HX.out _ hb1).2.2.1
    clear hb1
    go_wp2
    go_ret
    exact ⟨rfl, HB.out⟩
  have i1 : ¬ r < 0 := by omega
  have HZ := Lib.hid hz
  have HM := Lib.hid hm
  obtain ⟨_, _, _, _, k5⟩ := HX.out _ hb1
  obtain ⟨t1, t2, t3, _⟩ := three_facts k5
  have hS2 := HSK.out r w1 hr (by omega)
  clear hz hm htot k5
  go_wp2_with fail
  refine hS2.mono ?_
  rintro e w2 ⟨⟨r2, rfl, hr2⟩, hb2⟩
  have hb02 := hb1.trans (hb2.mono hb1.size)
  clear hS2 hb1 hb2 t1 t2 t3
  rcases hr2 with hr2 | ⟨hr2, _, hps⟩
  · have HB := Lib.hid (HX.out _ hb02).2.2.1
    clear hb02
    go_wp2
    go_ret
    exact ⟨rfl, HB.out⟩
  have i2 : ¬ r2 < 0 := by omega
  have HSp := Lib.hid (HS1.out HZ.out hps)
  have HIm := Lib.hid (HI1.out HZ.out hps)
  clear HS1 HI1
  go_wp2_with fail
  refine wp_region_last (by kernel_rfl) 5 (by kernel_rfl) (by kernel_rfl) (by kernel_rfl)
    (fun u => { tmps := #[.agg #[.slice va hs.length vc], .agg #[.int .i64 kh, .string kp, .int .i64 km], .pointer (some ⟨w.heap.size, 0, none⟩), .pointer (some ⟨w.heap.size + 1, 0, none⟩), .bool false, .int .i64 r2, undef, undef, undef, .agg #[.slice va hs.length vc], .int .i64 1048576, .int .i64 r, .int .i64 r, .bool (decide (r < 0)), .agg #[.int .i64 kh, .string kp, .int .i64 km], .int .i64 r, .int .i64 r2, .int .i64 r2, .bool (decide (r2 < 0)), u 0, u 1, u 2, u 3, u 4, undef, undef, undef, undef, undef, undef, undef, undef, undef, undef, undef, undef, undef, undef], defers := [] })
    (fun _ W => Below w2.heap.size w2 W)
    (RAt [REq (.agg #[.slice va hs.length vc]), KCf hs, REq (.agg #[.int .i64 kh, .string kp, .int .i64 km]), REq (.agg #[.int .i64 kh, .string kp, .int .i64 km]), REq (.bool ok)])
    (fun w w' => Below w.heap.size w w') (fun _ => undef) (Below.refl _ _).drew
    (fun i v w w' _ hR hle => steady_at (by exact ⟨steady_eq _, steady_kcf hs, steady_eq _, steady_eq _, steady_eq _, trivial⟩) v w w' hR hle) ?_ ?_
  · intro i hi u w7 kk hkk hC hd
    obtain ⟨_, k2, _, k4, k5⟩ := HX.out _ (hb02.trans (hC.mono hb02.size))
    obtain ⟨t0, _⟩ := one_fact k4
    obtain ⟨t1, t2, t3, _⟩ := three_facts k5
    match i, hi with
    | 0, _ =>
      refine wpOp_step rfl (fun K hK => ?_)
      clear hd
      go_simp
      exact hK _ _ ⟨_, rfl, rfl, Below.refl _ _, hC⟩
    | 1, _ =>
      have e0 : u 0 = .agg #[.slice va hs.length vc] := hd 0 (dep_of (by kernel_rfl))
      have hT := to_cfg _ hs w7 k2 hn HM.out
      refine wpOp_step rfl (fun K hK => ?_)
      clear hd
      go_simp
      refine hT.mono ?_
      rintro e w8 ⟨g2, G2, rfl, ho8, hb8⟩
      exact hK _ _ ⟨_, by simp [upd, e0], ⟨_, _, rfl, ho8.row hn HM.out⟩, hb8, hC.trans (hb8.mono hC.size)⟩
    | 2, _ =>
      refine wpOp_step rfl (fun K hK => ?_)
      clear hd
      go_simp
      exact hK _ _ ⟨_, rfl, rfl, Below.refl _ _, hC⟩
    | 3, _ =>
      have e2 : u 2 = .agg #[.int .i64 kh, .string kp, .int .i64 km] := hd 2 (dep_of (by kernel_rfl))
      have hT := HTK.out w7
      refine wpOp_step rfl (fun K hK => ?_)
      clear hd
      go_simp
      refine hT.mono ?_
      rintro e w8 ⟨rfl, hb8⟩
      exact hK _ _ ⟨_, by simp [upd, e2], rfl, hb8, hC.trans (hb8.mono hC.size)⟩
    | 4, _ =>
      obtain ⟨a1, c1, e1, hr1⟩ : KCf hs (u 1) w7 := hd 1 (dep_of (by kernel_rfl))
      have e3 : u 3 = .agg #[.int .i64 kh, .string kp, .int .i64 km] := hd 3 (dep_of (by kernel_rfl))
      have hT := HSp.out _ w7 hr1
      refine wpOp_step rfl (fun K hK => ?_)
      clear hd
      go_simp
      refine hT.mono ?_
      rintro e w8 ⟨rfl, hb8⟩
      exact hK _ _ ⟨_, by simp [upd, e1, e3], rfl, hb8, hC.trans (hb8.mono hC.size)⟩
  · intro ua w7 kk hkk hC hd
    have e4 : ua 4 = .bool ok := hd 4 (by decide)
    refine wpOp_step rfl (fun K hK => ?_)
    clear hd
    go_simp
    refine hK _ _ ?_
    clear hK K e4
    obtain ⟨w3, hw3⟩ : ∃ x, x = w7 := ⟨_, rfl⟩
    rw [← hw3] at hC ⊢
    have hb03 := hb02.trans (hC.mono hb02.size)
    obtain ⟨_, k2, _, k4, _⟩ := HX.out _ hb03
    obtain ⟨t0, _⟩ := one_fact k4
    have hT := to_cfg _ hs w3 k2 hn HM.out
    clear hw3 hC hb02 k2 k4
    go_wp2_with fail
    refine hT.mono ?_
    rintro e w4 ⟨g, G, rfl, ho4, hb4⟩
    obtain ⟨w5, hw5⟩ : ∃ w5, w5 = w4.alloc (.cells #[.slice (some ⟨g, 0, none⟩) hs.length hs.length] 32) := ⟨_, rfl⟩
    have hs5 : w5.heap.size = w4.heap.size + 1 := by rw [hw5]; simp
    have hb45 : Below w4.heap.size w4 w5 := by rw [hw5]; exact (Below.refl _ _).alloc (Nat.le_refl _) _
    have hX5 : w5.heap[w4.heap.size]? = some (.cells #[.slice (some ⟨g, 0, none⟩) hs.length hs.length] 32 (0, 0)) := by rw [hw5]; exact heap_alloc_new w4 _
    have hr5 := (ho4.below (Nat.le_refl _) hb45).row hn HM.out
    have hD5 := hb03.trans ((hb4.trans (hb45.mono hb4.size)).mono hb03.size)
    have HXA : Hid (∀ W, Below w5.heap.size w5 W → Cls W ∧ HRow W (.slice va hs.length vc) hs ∧ Below w.heap.size w W ∧ W.heap[w.heap.size]? = some (.cells #[.slice va hs.length vc] 24 (0, 0)) ∧ W.heap[w.heap.size + 1]? = some (.cells #[.int .i64 kh, .string kp, .int .i64 km] 26 (0, 0)) ∧ HRow W (.slice (some ⟨g, 0, none⟩) hs.length hs.length) hs ∧ W.heap[w4.heap.size]? = some (.cells #[.slice (some ⟨g, 0, none⟩) hs.length hs.length] 32 (0, 0))) := Lib.hid fun W hW => by
      obtain ⟨a1, a2, a3, a4, a5⟩ := HX.out _ (hD5.trans (hW.mono hD5.size))
      exact ⟨a1, a2, a3, a4, a5, hr5.below (Nat.le_refl _) hW, heap_keep hW (Nat.le_refl _) _ _ hX5⟩
    have HW5 := Lib.hid hw5
    clear hT hb03 t0 ho4 hb4 hw5 hb45 hX5 hr5 hD5
    go_wp2_with fail
    rw [← HW5.out]
    refine wp_region_last (by kernel_rfl) 4 (by kernel_rfl) (by kernel_rfl) (by kernel_rfl)
      (fun u => { tmps := #[.agg #[.slice va hs.length vc], .agg #[.int .i64 kh, .string kp, .int .i64 km], .pointer (some ⟨w.heap.size, 0, none⟩), .pointer (some ⟨w.heap.size + 1, 0, none⟩), .bool false, .int .i64 r2, .bool ok, .pointer (some ⟨w4.heap.size, 0, none⟩), undef, .agg #[.slice va hs.length vc], .int .i64 1048576, .int .i64 r, .int .i64 r, .bool (decide (r < 0)), .agg #[.int .i64 kh, .string kp, .int .i64 km], .int .i64 r, .int .i64 r2, .int .i64 r2, .bool (decide (r2 < 0)), ua 0, ua 1, ua 2, ua 3, .bool ok, .agg #[.slice va hs.length vc], .agg #[.slice (some ⟨g, 0, none⟩) hs.length hs.length], u 0, u 1, u 2, u 3, undef, undef, undef, undef, undef, undef, undef, undef], defers := [] })
      (fun _ W => Below w5.heap.size w5 W)
      (RAt [REq (.agg #[.slice (some ⟨g, 0, none⟩) hs.length hs.length]), REq (.agg #[.int .i64 kh, .string kp, .int .i64 km]), REq (.agg #[.int .i64 kh, .string kp, .int .i64 km]), REq (.bool ok)])
      (fun w w' => Below w.heap.size w w') (fun _ => undef) (Below.refl _ _).drew
      (fun i v w w' _ hR hle => steady_at (by exact ⟨steady_eq _, steady_eq _, steady_eq _, steady_eq _, trivial⟩) v w w' hR hle) ?_ ?_
    · intro i hi u w7 kk hkk hC hd
      obtain ⟨k1, k2, k3, k4, k5, k6, k7⟩ := HXA.out _ hC
      obtain ⟨q0, _⟩ := one_fact k7
      obtain ⟨t0, _⟩ := one_fact k4
      obtain ⟨t1, t2, t3, _⟩ := three_facts k5
      match i, hi with
      | 0, _ =>
        refine wpOp_step rfl (fun K hK => ?_)
        clear hd
        go_simp
        exact hK _ _ ⟨_, rfl, rfl, Below.refl _ _, hC⟩
      | 1, _ =>
        refine wpOp_step rfl (fun K hK => ?_)
        clear hd
        go_simp
        exact hK _ _ ⟨_, rfl, rfl, Below.refl _ _, hC⟩
      | 2, _ =>
        have e1 : u 1 = .agg #[.int .i64 kh, .string kp, .int .i64 km] := hd 1 (dep_of (by kernel_rfl))
        have hT := HTK.out w7
        refine wpOp_step rfl (fun K hK => ?_)
        clear hd
        go_simp
        refine hT.mono ?_
        rintro e w8 ⟨rfl, hb8⟩
        exact hK _ _ ⟨_, by simp [upd, e1], rfl, hb8, hC.trans (hb8.mono hC.size)⟩
      | 3, _ =>
        have e0 : u 0 = .agg #[.slice (some ⟨g, 0, none⟩) hs.length hs.length] := hd 0 (dep_of (by kernel_rfl))
        have e2 : u 2 = .agg #[.int .i64 kh, .string kp, .int .i64 km] := hd 2 (dep_of (by kernel_rfl))
        have hT := HIm.out _ w7 k6 k1
        refine wpOp_step rfl (fun K hK => ?_)
        clear hd
        go_simp
        refine hT.mono ?_
        rintro e w8 ⟨rfl, hb8⟩
        exact hK _ _ ⟨_, by simp [upd, e0, e2], rfl, hb8, hC.trans (hb8.mono hC.size)⟩
    · intro ub w7 kk hkk hC hd
      have e3 : ub 3 = .bool ok := hd 3 (by decide)
      refine wpOp_step rfl (fun K hK => ?_)
      clear hd
      go_simp
      refine hK _ _ ?_
      clear hK K e3
      obtain ⟨w11, hw11⟩ : ∃ x, x = w7 := ⟨_, rfl⟩
      rw [← hw11] at hC ⊢
      have hD11 := hC
      clear hw11 hC
      go_wp2_with fail
      refine wp_region_last (by kernel_rfl) 4 (by kernel_rfl) (by kernel_rfl) (by kernel_rfl)
        (fun u => { tmps := #[.agg #[.slice va hs.length vc], .agg #[.int .i64 kh, .string kp, .int .i64 km], .pointer (some ⟨w.heap.size, 0, none⟩), .pointer (some ⟨w.heap.size + 1, 0, none⟩), .bool false, .int .i64 r2, .bool ok, .pointer (some ⟨w4.heap.size, 0, none⟩), .bool ok, .agg #[.slice va hs.length vc], .int .i64 1048576, .int .i64 r, .int .i64 r, .bool (decide (r < 0)), .agg #[.int .i64 kh, .string kp, .int .i64 km], .int .i64 r, .int .i64 r2, .int .i64 r2, .bool (decide (r2 < 0)), ua 0, ua 1, ua 2, ua 3, .bool ok, .agg #[.slice va hs.length vc], .agg #[.slice (some ⟨g, 0, none⟩) hs.length hs.length], ub 0, ub 1, ub 2, .bool ok, .bool ok, .bool ok, .bool false, u 0, u 1, u 2, u 3, undef], defers := [] })
        (fun _ W => Below w11.heap.size w11 W)
        (RAt [REq (.agg #[.slice (some ⟨g, 0, none⟩) hs.length hs.length]), REq (.agg #[.slice va hs.length vc]), KCf hs, REq (.bool true)])
        (fun w w' => Below w.heap.size w w') (fun _ => undef) (Below.refl _ _).drew
        (fun i v w w' _ hR hle => steady_at (by exact ⟨steady_eq _, steady_eq _, steady_kcf hs, steady_eq _, trivial⟩) v w w' hR hle) ?_ ?_
      · intro i hi u w7 kk hkk hC hd
        obtain ⟨k1, k2, k3, k4, k5, k6, k7⟩ := HXA.out _ (hD11.trans (hC.mono hD11.size))
        obtain ⟨q0, _⟩ := one_fact k7
        obtain ⟨t0, _⟩ := one_fact k4
        obtain ⟨t1, t2, t3, _⟩ := three_facts k5
        match i, hi with
        | 0, _ =>
          refine wpOp_step rfl (fun K hK => ?_)
          clear hd
          go_simp
          exact hK _ _ ⟨_, rfl, rfl, Below.refl _ _, hC⟩
        | 1, _ =>
          refine wpOp_step rfl (fun K hK => ?_)
          clear hd
          go_simp
          exact hK _ _ ⟨_, rfl, rfl, Below.refl _ _, hC⟩
        | 2, _ =>
          have e1 : u 1 = .agg #[.slice va hs.length vc] := hd 1 (dep_of (by kernel_rfl))
          have hT := to_cfg _ hs w7 k2 hn HM.out
          refine wpOp_step rfl (fun K hK => ?_)
          clear hd
          go_simp
          refine hT.mono ?_
          rintro e w8 ⟨g2, G2, rfl, ho8, hb8⟩
          exact hK _ _ ⟨_, by simp [upd, e1], ⟨_, _, rfl, ho8.row hn HM.out⟩, hb8, hC.trans (hb8.mono hC.size)⟩
        | 3, _ =>
          have e0 : u 0 = .agg #[.slice (some ⟨g, 0, none⟩) hs.length hs.length] := hd 0 (dep_of (by kernel_rfl))
          obtain ⟨a2, c2, e2, hr2⟩ : KCf hs (u 2) w7 := hd 2 (dep_of (by kernel_rfl))
          have hT := eq_cfg _ _ hs w7 k6 hr2
          refine wpOp_step rfl (fun K hK => ?_)
          clear hd
          go_simp
          refine hT.mono ?_
          rintro e w8 ⟨rfl, hb8⟩
          exact hK _ _ ⟨_, by simp [upd, e0, e2], rfl, hb8, hC.trans (hb8.mono hC.size)⟩
      · intro uc w7 kk hkk hC hd
        have e3 : uc 3 = .bool true := hd 3 (by decide)
        refine wpOp_step rfl (fun K hK => ?_)
        clear hd
        go_simp
        refine hK _ _ ?_
        clear hK K e3
        have HB := Lib.hid (HXA.out _ (hD11.trans (hC.mono hD11.size))).2.2.1
        clear hC
        go_wp2
        go_ret
        exact ⟨rfl, HB.out⟩
namespace Lw
theorem fnExactKeyOk (w : World) (hL : laidMetH Tryd.prog Rows.fnExactKeyOkRow.laid w) (v : Value) (hs : List Hs) (hH : HRow w v hs) (hN : HOks hs maxLen) (k : Ky) (hp : k.place.size ≤ maxLen) (_hh : (Lit.int .i64 k.house).wf = true) (_hm : (Lit.int .i64 k.mask).wf = true) :
    Calls Tryd.prog 3 #[.agg #[v], keyV k] w fun e w' => e = .returned (.bool true) ∧ Below w.heap.size w w' :=
  law_keyok hs v k w hH hN hp (cls_of_head hL)
end Lw
end Go.Proofs.YtiepobifbkleaaaDoor
