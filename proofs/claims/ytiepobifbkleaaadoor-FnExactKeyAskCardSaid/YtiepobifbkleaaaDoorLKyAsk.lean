/- The law on asking for a key, exact. -/
import Derived.Test.YtiepobifbkleaaaDoorKyL1
import Derived.Test.YtiepobifbkleaaaDoorGKyA
import Derived.Test.YtiepobifbkleaaaDoorKyFr
namespace Go.Proofs.YtiepobifbkleaaaDoor
open Go.RowKit Go.Maps

theorem ask_len (hs : List Hs) (k : Ky) (tag : ByteArray) : (keyAsk hs k tag).fs.length ≤ 2 := by
  unfold keyAsk
  split
  · show (askFs k tag).length ≤ 2
    unfold askFs
    split <;> simp
  · exact Nat.zero_le _
set_option maxRecDepth 100000 in
set_option maxHeartbeats 12800000 in
theorem law_keyask (hs : List Hs) (v : Value) (k : Ky) (tag : ByteArray) (w : World) (hH : HRow w v hs) (hN : HOks hs maxLen) (hp : k.place.size ≤ maxLen) (ht : tag.size ≤ maxLen) (hcls : Cls w) (hcds : Cds w) :
    Calls Tryd.prog 5 #[.agg #[v], keyV k, .string tag] w fun e w' => e = .returned (.bool true) ∧ Below w.heap.size w w' := by
  obtain ⟨hz2, hb2, hA0, hA1⟩ := box2_new w (.cells #[v] 24) (.cells #[.int .i64 k.house, .string k.place, .int .i64 k.mask] 26)
  obtain ⟨wA, hwA⟩ : ∃ wA, wA = (w.alloc (.cells #[v] 24)).alloc (.cells #[.int .i64 k.house, .string k.place, .int .i64 k.mask] 26) := ⟨_, rfl⟩
  rw [← hwA] at hz2 hb2 hA0 hA1
  have HX : Hid (∀ W, Below wA.heap.size wA W → (Cls W ∧ Cds W) ∧ HRow W v hs ∧ Below w.heap.size w W ∧ W.heap[w.heap.size]? = some (.cells #[v] 24 (0, 0)) ∧ W.heap[w.heap.size + 1]? = some (.cells #[.int .i64 k.house, .string k.place, .int .i64 k.mask] 26 (0, 0))) := Lib.hid fun W hW => by
    have hb := hb2.trans (hW.mono (by omega))
    exact ⟨⟨hcls.below hb (Nat.le_refl _), hcds.below hb (Nat.le_refl _)⟩, hH.below (Nat.le_refl _) hb, hb, (hW.block _ (by omega)).trans hA0, (hW.block _ (by omega)).trans hA1⟩
  have hb0 : Below wA.heap.size wA wA := Below.refl _ _
  have hSz := szt_cfg v hs wA (HX.out _ hb0).2.1 hN
  have HSK : Hid (∀ L W, 0 ≤ L → L ≤ 1048576 → Calls Tryd.prog 7 #[keyV k, .int .i64 L] W fun e w' => (∃ r : Int, e = .returned (.int .i64 r) ∧ (r < 0 ∨ (0 ≤ r ∧ r ≤ 1048576 ∧ k.place.size ≤ 1048576))) ∧ Below W.heap.size W w') := Lib.hid fun L W h0 h1 => sz_key k L h0 h1 hp W
  have HTK := Lib.hid fun W => to_key k W
  have HS1 : Hid (HOks hs 1048576 → k.place.size ≤ 1048576 → tag.size ≤ 1048576 → ∀ x W, HRow W x hs → Calls Tryd.prog 15 #[.agg #[x], keyV k, .string tag] W fun e w' => HRet W.heap.size (keyAsk hs k tag) e w' ∧ Below W.heap.size W w') := Lib.hid fun a b c x W hx => spec_keyask hs x k tag W hx a b c
  have HI1 : Hid (HOks hs 1048576 → k.place.size ≤ 1048576 → tag.size ≤ 1048576 → ∀ x W, HRow W x hs → Cls W → Cds W → Calls Tryd.prog 16 #[.agg #[x], keyV k, .string tag] W fun e w' => HRet W.heap.size (keyAsk hs k tag) e w' ∧ Below W.heap.size W w') := Lib.hid fun a b c x W hx h1 h2 => impl_keyask hs x k tag W hx a b c h1 h2
  have hq := ask_len hs k tag
  generalize keyAsk hs k tag = q at *
  obtain ⟨qv, qt, qh, qf, qb⟩ := q
  have HEH : Hid (∀ y1 y2 W, FRow W y1 qf → FRow W y2 qf → Calls Tryd.prog 17 #[.agg #[.string qv, .string qt, .string qh, y1, .string qb], .agg #[.string qv, .string qt, .string qh, y2, .string qb]] W fun e w' => e = .returned (.bool true) ∧ Below W.heap.size W w') := Lib.hid fun y1 y2 W h1 h2 => eq_head ⟨qv, qt, qh, qf, qb⟩ y1 y2 W h1 h2 (by dsimp only at hq ⊢; omega)
  obtain ⟨m, hm⟩ : ∃ m : Int, m = 1 + 2 * (qf.length : Int) := ⟨_, rfl⟩
  have HMA : Hid (∀ y B W, W.ownsRow B 63 2 y qf.length (fcells qf) → Calls Tryd.prog 19 #[.agg #[.string qv, .string qt, .string qh, y, .string qb], .int .i64 1] W fun e w' => e = .returned (.int .i64 m) ∧ MkS w' y qf.length ∧ W.grownBy w' y.ownBlock) := Lib.hid fun y B W h => by rw [hm]; exact mark_any ⟨qv, qt, qh, qf, qb⟩ y B _ qf W h (by dsimp only at hq ⊢; omega)
  have HHA : Hid (∀ y W, MkS W y qf.length → Calls Tryd.prog 20 #[.agg #[.string qv, .string qt, .string qh, y, .string qb], .int .i64 1] W fun e w' => e = .returned (.int .i64 m) ∧ Below W.heap.size W w') := Lib.hid fun y W h => by rw [hm]; exact held_any ⟨qv, qt, qh, qf, qb⟩ y qf.length W h (by dsimp only at hq ⊢; omega)
  have HM0 : Hid (¬ m < 0) := Lib.hid (by omega)
  obtain ⟨va, vc, rfl, _⟩ := hH
  obtain ⟨kh, kp, km⟩ := k
  unfold keyV at HSK HTK HS1 HI1 ⊢
  unfold HRet headV at HS1 HI1
  dsimp only at *
  obtain ⟨t0, _⟩ := one_fact hA0
  obtain ⟨t1, t2, t3, _⟩ := three_facts hA1
  rw [hwA] at t0 t1 t2 t3
  have HW := Lib.hid hwA
  have HTb := Lib.hid ht
  by_cases hbig : (1048576 : Int) < (tag.size : Int)
  · unfold maxLen at ht
    have HBA := Lib.hid (HX.out _ hb0).2.2.1
    clear hwA hb2 hA0 hA1 hN hcls hcds hp hq hm hSz hb0
    go_enter Tryd.func5, Tryd.ntmps5
    go_wp2_with fail
    go_ret
    exact ⟨rfl, by rw [← HW.out]; exact HBA.out⟩
  have htz : tag.size ≤ 1048576 := by omega
  have HTz := Lib.hid htz
  unfold maxLen at ht
  clear hwA hb2 hA0 hA1 hN hcls hcds hp hq hm htz
  go_enter Tryd.func5, Tryd.ntmps5
  go_wp2_with fail
  rw [← HW.out]
  refine hSz.mono ?_
  rintro e w1 ⟨⟨r, rfl, hr⟩, hb1⟩
  clear hSz hb0 t0 t1 t2 t3
  rcases hr with hr | ⟨hr, hz, hn, hm, htot⟩
  · have HB := Lib.hid (HX.out _ hb1).2.2.1
    clear hb1
    go_wp2
    go_ret
    exact ⟨rfl, HB.out⟩
  have i1 : ¬ r < 0 := by omega
  have HZ := Lib.hid hz
  have HM := Lib.hid hm
  have hkx : kAt 1 (hget hs) hs.length < 10000000 := by
    rw [kAt_names 1 hs hs.length (Nat.le_refl _), List.take_length]; omega
  have HKx := Lib.hid hkx
  obtain ⟨_, _, _, _, k5⟩ := HX.out _ hb1
  obtain ⟨t1, t2, t3, _⟩ := three_facts k5
  have hS2 := HSK.out r w1 hr (by omega)
  clear hz hm htot k5 hkx
  go_wp2_with fail
  refine hS2.mono ?_
  rintro e w2 ⟨⟨r2, rfl, hr2⟩, hb2⟩
  have hb02 := hb1.trans (hb2.mono hb1.size)
  clear hS2 hb1 hb2 t1 t2 t3
  rcases hr2 with hr2 | ⟨hr2, _, hps⟩
  · have HB := Lib.hid (HX.out _ hb02).2.2.1
    clear hb02
    go_wp2
    go_ret
    exact ⟨rfl, HB.out⟩
  have i2 : ¬ r2 < 0 := by omega
  have HSp := Lib.hid (HS1.out HZ.out hps HTz.out)
  have HIm := Lib.hid (HI1.out HZ.out hps HTz.out)
  clear HS1 HI1
  go_wp2_with fail
  refine wp_region_last (by kernel_rfl) 7 (by kernel_rfl) (by kernel_rfl) (by kernel_rfl)
    (fun u => { tmps := #[.agg #[.slice va hs.length vc], .agg #[.int .i64 kh, .string kp, .int .i64 km], .string tag, .pointer (some ⟨w.heap.size, 0, none⟩), .pointer (some ⟨w.heap.size + 1, 0, none⟩), undef, .bool false, .int .i64 r2, u 6, undef, undef, undef, undef, undef, undef, .string tag, .int .i64 (tag.size : Int), .bool false, .agg #[.slice va hs.length vc], .int .i64 1048576, .int .i64 r, .int .i64 r, .bool (decide (r < 0)), .agg #[.int .i64 kh, .string kp, .int .i64 km], .int .i64 r, .int .i64 r2, .int .i64 r2, .bool (decide (r2 < 0)), u 0, u 1, u 2, u 3, u 4, u 5, undef, undef, undef, undef, undef, undef, undef, undef, undef, undef, undef, undef, undef, undef, undef, undef, undef, undef, undef, undef, undef, undef, undef, undef, undef, undef, undef, undef, undef, undef, undef, undef, undef, undef, undef, undef, undef, undef, undef, undef, undef, undef, undef, undef, undef, undef, undef, undef, undef, undef, undef, undef, undef, undef, undef, undef], defers := [] })
    (fun _ W => Below w2.heap.size w2 W)
    (RAt [REq (.agg #[.slice va hs.length vc]), KCf hs, REq (.agg #[.int .i64 kh, .string kp, .int .i64 km]), REq (.agg #[.int .i64 kh, .string kp, .int .i64 km]), REq (.string tag), RHp w2.heap.size qv qt qh qf qb, RBx w2.heap.size #[.string ⟨#[]⟩, .string ⟨#[]⟩, .string ⟨#[]⟩, .slice none 0 0, .string ⟨#[]⟩] 42])
    (fun w w' => Below w.heap.size w w') (fun _ => undef) (Below.refl _ _).drew
    (fun i v w w' _ hR hle => steady_at (by exact ⟨steady_eq _, steady_kcf hs, steady_eq _, steady_eq _, steady_eq _, steady_hp, steady_bx, trivial⟩) v w w' hR hle) ?_ ?_
  · intro i hi u w7 kk hkk hC hd
    obtain ⟨k1, k2, _, k4, k5⟩ := HX.out _ (hb02.trans (hC.mono hb02.size))
    obtain ⟨t0, _⟩ := one_fact k4
    obtain ⟨t1, t2, t3, _⟩ := three_facts k5
    match i, hi with
    | 0, _ =>
      refine wpOp_step rfl (fun K hK => ?_)
      clear hd
      go_simp
      exact hK _ _ ⟨_, rfl, rfl, Below.refl _ _, hC⟩
    | 1, _ =>
      have e0 : u 0 = .agg #[.slice va hs.length vc] := hd 0 (dep_of (by kernel_rfl))
      have hT := to_cfg _ hs w7 k2 hn HM.out
      refine wpOp_step rfl (fun K hK => ?_)
      clear hd
      go_simp
      refine hT.mono ?_
      rintro e w8 ⟨g2, G2, rfl, ho8, hb8⟩
      exact hK _ _ ⟨_, by simp [upd, e0], ⟨_, _, rfl, ho8.row hn HM.out⟩, hb8, hC.trans (hb8.mono hC.size)⟩
    | 2, _ =>
      refine wpOp_step rfl (fun K hK => ?_)
      clear hd
      go_simp
      exact hK _ _ ⟨_, rfl, rfl, Below.refl _ _, hC⟩
    | 3, _ =>
      have e2 : u 2 = .agg #[.int .i64 kh, .string kp, .int .i64 km] := hd 2 (dep_of (by kernel_rfl))
      have hT := HTK.out w7
      refine wpOp_step rfl (fun K hK => ?_)
      clear hd
      go_simp
      refine hT.mono ?_
      rintro e w8 ⟨rfl, hb8⟩
      exact hK _ _ ⟨_, by simp [upd, e2], rfl, hb8, hC.trans (hb8.mono hC.size)⟩
    | 4, _ =>
      refine wpOp_step rfl (fun K hK => ?_)
      clear hd
      go_simp
      exact hK _ _ ⟨_, rfl, rfl, Below.refl _ _, hC⟩
    | 5, _ =>
      obtain ⟨a1, c1, e1, hr1⟩ : KCf hs (u 1) w7 := hd 1 (dep_of (by kernel_rfl))
      have e3 : u 3 = .agg #[.int .i64 kh, .string kp, .int .i64 km] := hd 3 (dep_of (by kernel_rfl))
      have e4 : u 4 = .string tag := hd 4 (dep_of (by kernel_rfl))
      have hT := HSp.out _ w7 hr1
      refine wpOp_step rfl (fun K hK => ?_)
      clear hd
      go_simp
      refine hT.mono ?_
      rintro e w8 ⟨⟨vr8, rfl, ho8⟩, hb8⟩
      exact hK _ _ ⟨_, by simp [upd, e1, e3, e4], ⟨vr8, rfl, own_base ho8 hC.size⟩, hb8, hC.trans (hb8.mono hC.size)⟩
    | 6, _ =>
      refine wpOp_step rfl (fun K hK => ?_)
      clear hd
      go_simp
      exact hK _ _ ⟨_, rfl, ⟨_, rfl, Nat.le_trans hC.size (Nat.le_refl _), heap_alloc_new w7 _⟩, (Below.refl _ _).alloc (Nat.le_refl _) _, hC.alloc hC.size _⟩
  · intro ua w7 kk hkk hC hd
    obtain ⟨vrN, e5, hoN⟩ : RHp w2.heap.size qv qt qh qf qb (ua 5) w7 := hd 5 (by decide)
    obtain ⟨cb8, e6, hB6, hc6⟩ : RBx w2.heap.size #[.string ⟨#[]⟩, .string ⟨#[]⟩, .string ⟨#[]⟩, .slice none 0 0, .string ⟨#[]⟩] 42 (ua 6) w7 := hd 6 (by decide)
    obtain ⟨a8, c8, hvN⟩ := own_len2 hoN
    subst hvN
    obtain ⟨hD8, hY8, ho8, hne8, hcl8⟩ := told_box (w0 := w2) (qv := qv) (qt := qt) (qh := qh) (qb := qb) hC hc6 hB6 hoN ⟨_, _, _, _, _, rfl⟩
    obtain ⟨y0, y1, y2, y3, y4, f0, f1, f2, f3, f4⟩ := five_facts hc6
    obtain ⟨W8, hW8⟩ : ∃ W, W = set5 w7 cb8 (.string qv) (.string qt) (.string qh) (.slice a8 qf.length c8) (.string qb) := ⟨_, rfl⟩
    have hlo8 := hB6
    rw [← hW8] at hD8 hY8 ho8 hcl8
    unfold set5 at hW8
    have HW8 := Lib.hid hW8
    have HQ8 := Lib.hid (And.intro hD8 (And.intro hY8 (And.intro ho8 (And.intro hne8 (And.intro hcl8 hlo8)))))
    clear hW8 hC hc6 hB6 hoN hD8 hY8 ho8 hne8 hcl8 hlo8
    refine wpOp_step rfl (fun K hK => ?_)
    clear hd
    go_simp
    refine hK _ _ ?_
    clear hK K e5 e6 y0 y1 y2 y3 y4 f0 f1 f2 f3 f4
    rw [← HW8.out]
    obtain ⟨hD8, hY8, ho8, hne8, hcl8, hlo8⟩ := HQ8.out
    have hb08 := hb02.trans (hD8.mono hb02.size)
    obtain ⟨_, k2, _, k4, _⟩ := HX.out _ hb08
    obtain ⟨t0, _⟩ := one_fact k4
    have hT := to_cfg _ hs W8 k2 hn HM.out
    clear hb02 k2 k4 hD8 hne8 hlo8
    go_wp2_with fail
    refine hT.mono ?_
    rintro e w9 ⟨gx, Gx, rfl, ho9, hb9⟩
    have hz9 := hb9.size
    have hfx9 := hf_of_own ho9 HM.out
    have hr9' := ho9.row hn HM.out
    obtain ⟨usx, husx⟩ : ∃ usx : Nat → Value, usx = fun i => .slice (some ⟨Gx i, 0, none⟩) (hget hs i).names.length (hget hs i).names.length := ⟨_, rfl⟩
    rw [← husx] at hfx9
    have HGx := Lib.hid hfx9.lt
    have HUx : Hid (∀ i b, i < hs.length → (usx i).ownBlock = some b → b < w9.heap.size) := Lib.hid fun i b hi hb => ((hfx9.2.2.1 i hi).1.lt b hb).2
    obtain ⟨w9b, hw9b⟩ : ∃ x, x = w9.alloc (.cells #[.slice (some ⟨gx, 0, none⟩) hs.length hs.length] 32) := ⟨_, rfl⟩
    have hs9b : w9b.heap.size = w9.heap.size + 1 := by rw [hw9b]; simp
    have hb9b : Below w9.heap.size w9 w9b := by rw [hw9b]; exact (Below.refl _ _).alloc (Nat.le_refl _) _
    have hY9 : w9b.heap[w9.heap.size]? = some (.cells #[.slice (some ⟨gx, 0, none⟩) hs.length hs.length] 32 (0, 0)) := by rw [hw9b]; exact heap_alloc_new w9 _
    have hr9 := hr9'.below (Nat.le_refl _) hb9b
    have hD9 := hb9.trans (hb9b.mono hb9.size)
    have hb09b := hb08.trans (hD9.mono hb08.size)
    have HXA : Hid (∀ W, Below w9b.heap.size w9b W → (Cls W ∧ Cds W) ∧ HRow W (.slice va hs.length vc) hs ∧ Below w.heap.size w W ∧ W.heap[w.heap.size]? = some (.cells #[.slice va hs.length vc] 24 (0, 0)) ∧ W.heap[w.heap.size + 1]? = some (.cells #[.int .i64 kh, .string kp, .int .i64 km] 26 (0, 0)) ∧ HRow W (.slice (some ⟨gx, 0, none⟩) hs.length hs.length) hs ∧ W.heap[w9.heap.size]? = some (.cells #[.slice (some ⟨gx, 0, none⟩) hs.length hs.length] 32 (0, 0))) := Lib.hid fun W hW => by
      obtain ⟨a1, a2, a3, a4, a5⟩ := HX.out _ (hb09b.trans (hW.mono hb09b.size))
      exact ⟨a1, a2, a3, a4, a5, hr9.below (Nat.le_refl _) hW, heap_keep hW (Nat.le_refl _) _ _ hY9⟩
    have HW9 := Lib.hid hw9b
    clear hT t0 ho9 hb9 hw9b hr9' husx hb09b
    go_wp2_with fail
    rw [← HW9.out]
    refine wp_region_last (by kernel_rfl) 6 (by kernel_rfl) (by kernel_rfl) (by kernel_rfl)
      (fun u => { tmps := #[.agg #[.slice va hs.length vc], .agg #[.int .i64 kh, .string kp, .int .i64 km], .string tag, .pointer (some ⟨w.heap.size, 0, none⟩), .pointer (some ⟨w.heap.size + 1, 0, none⟩), undef, .bool false, .int .i64 r2, .pointer (some ⟨cb8, 0, none⟩), .pointer (some ⟨w9.heap.size, 0, none⟩), u 5, undef, undef, undef, undef, .string tag, .int .i64 (tag.size : Int), .bool false, .agg #[.slice va hs.length vc], .int .i64 1048576, .int .i64 r, .int .i64 r, .bool (decide (r < 0)), .agg #[.int .i64 kh, .string kp, .int .i64 km], .int .i64 r, .int .i64 r2, .int .i64 r2, .bool (decide (r2 < 0)), ua 0, ua 1, ua 2, ua 3, ua 4, .agg #[.string qv, .string qt, .string qh, .slice a8 qf.length c8, .string qb], .agg #[.slice va hs.length vc], .agg #[.slice (some ⟨gx, 0, none⟩) hs.length hs.length], u 0, u 1, u 2, u 3, u 4, undef, undef, undef, undef, undef, undef, undef, undef, undef, undef, undef, undef, undef, undef, undef, undef, undef, undef, undef, undef, undef, undef, undef, undef, undef, undef, undef, undef, undef, undef, undef, undef, undef, undef, undef, undef, undef, undef, undef, undef, undef, undef, undef, undef, undef, undef, undef, undef, undef], defers := [] })
      (fun _ W => Below w9b.heap.size w9b W)
      (RAt [REq (.agg #[.slice (some ⟨gx, 0, none⟩) hs.length hs.length]), REq (.agg #[.int .i64 kh, .string kp, .int .i64 km]), REq (.agg #[.int .i64 kh, .string kp, .int .i64 km]), REq (.string tag), RHp w9b.heap.size qv qt qh qf qb, RBx w9b.heap.size #[.string ⟨#[]⟩, .string ⟨#[]⟩, .string ⟨#[]⟩, .slice none 0 0, .string ⟨#[]⟩] 42])
      (fun w w' => Below w.heap.size w w') (fun _ => undef) (Below.refl _ _).drew
      (fun i v w w' _ hR hle => steady_at (by exact ⟨steady_eq _, steady_eq _, steady_eq _, steady_eq _, steady_hp, steady_bx, trivial⟩) v w w' hR hle) ?_ ?_
    · intro i hi u w7 kk hkk hC hd
      obtain ⟨k1, k2, k3, k4, k5, k6, k7⟩ := HXA.out _ hC
      obtain ⟨q0, _⟩ := one_fact k7
      obtain ⟨t0, _⟩ := one_fact k4
      obtain ⟨t1, t2, t3, _⟩ := three_facts k5
      match i, hi with
      | 0, _ =>
        refine wpOp_step rfl (fun K hK => ?_)
        clear hd
        go_simp
        exact hK _ _ ⟨_, rfl, rfl, Below.refl _ _, hC⟩
      | 1, _ =>
        refine wpOp_step rfl (fun K hK => ?_)
        clear hd
        go_simp
        exact hK _ _ ⟨_, rfl, rfl, Below.refl _ _, hC⟩
      | 2, _ =>
        have e1 : u 1 = .agg #[.int .i64 kh, .string kp, .int .i64 km] := hd 1 (dep_of (by kernel_rfl))
        have hT := HTK.out w7
        refine wpOp_step rfl (fun K hK => ?_)
        clear hd
        go_simp
        refine hT.mono ?_
        rintro e w8 ⟨rfl, hb8⟩
        exact hK _ _ ⟨_, by simp [upd, e1], rfl, hb8, hC.trans (hb8.mono hC.size)⟩
      | 3, _ =>
        refine wpOp_step rfl (fun K hK => ?_)
        clear hd
        go_simp
        exact hK _ _ ⟨_, rfl, rfl, Below.refl _ _, hC⟩
      | 4, _ =>
        have e0 : u 0 = .agg #[.slice (some ⟨gx, 0, none⟩) hs.length hs.length] := hd 0 (dep_of (by kernel_rfl))
        have e2 : u 2 = .agg #[.int .i64 kh, .string kp, .int .i64 km] := hd 2 (dep_of (by kernel_rfl))
        have e3 : u 3 = .string tag := hd 3 (dep_of (by kernel_rfl))
        have hT := HIm.out _ w7 k6 k1.1 k1.2
        refine wpOp_step rfl (fun K hK => ?_)
        clear hd
        go_simp
        refine hT.mono ?_
        rintro e w8 ⟨⟨vr8, rfl, ho8⟩, hb8⟩
        exact hK _ _ ⟨_, by simp [upd, e0, e2, e3], ⟨vr8, rfl, own_base ho8 hC.size⟩, hb8, hC.trans (hb8.mono hC.size)⟩
      | 5, _ =>
        refine wpOp_step rfl (fun K hK => ?_)
        clear hd
        go_simp
        exact hK _ _ ⟨_, rfl, ⟨_, rfl, Nat.le_trans hC.size (Nat.le_refl _), heap_alloc_new w7 _⟩, (Below.refl _ _).alloc (Nat.le_refl _) _, hC.alloc hC.size _⟩
    · intro ub w7 kk hkk hC hd
      obtain ⟨vrN, e4, hoN⟩ : RHp w9b.heap.size qv qt qh qf qb (ub 4) w7 := hd 4 (by decide)
      obtain ⟨cb12, e5, hB5, hc5⟩ : RBx w9b.heap.size #[.string ⟨#[]⟩, .string ⟨#[]⟩, .string ⟨#[]⟩, .slice none 0 0, .string ⟨#[]⟩] 42 (ub 5) w7 := hd 5 (by decide)
      obtain ⟨a12, c12, hvN⟩ := own_len2 hoN
      subst hvN
      obtain ⟨hD12, hY12, ho12, hne12, hcl12⟩ := told_box (w0 := w9b) (qv := qv) (qt := qt) (qh := qh) (qb := qb) hC hc5 hB5 hoN ⟨_, _, _, _, _, rfl⟩
      obtain ⟨y0, y1, y2, y3, y4, f0, f1, f2, f3, f4⟩ := five_facts hc5
      obtain ⟨W12, hW12⟩ : ∃ W, W = set5 w7 cb12 (.string qv) (.string qt) (.string qh) (.slice a12 qf.length c12) (.string qb) := ⟨_, rfl⟩
      have hlo12 := hB5
      rw [← hW12] at hD12 hY12 ho12 hcl12
      unfold set5 at hW12
      have HW12 := Lib.hid hW12
      have HQ12 := Lib.hid (And.intro hD12 (And.intro hY12 (And.intro ho12 (And.intro hne12 (And.intro hcl12 hlo12)))))
      clear hW12 hC hc5 hB5 hoN hD12 hY12 ho12 hne12 hcl12 hlo12
      refine wpOp_step rfl (fun K hK => ?_)
      clear hd
      go_simp
      refine hK _ _ ?_
      clear hK K e4 e5 y0 y1 y2 y3 y4 f0 f1 f2 f3 f4
      rw [← HW12.out]
      obtain ⟨hD12, hY12, ho12, hne12, hcl12, hlo12⟩ := HQ12.out
      have hbW := hD9.trans (hD12.mono hD9.size)
      have hb012 := hb08.trans (hbW.mono hb08.size)
      have hb912 := hb9b.trans (hD12.mono hb9b.size)
      obtain ⟨X1, hX1⟩ : ∃ X : Nat → Prop, X = fun b => W8.heap.size ≤ b ∧ b < w9.heap.size := ⟨_, rfl⟩
      obtain ⟨X2, hX2⟩ : ∃ X : Nat → Prop, X = fun b => X1 b ∨ some b = (Value.slice a12 qf.length c12).ownBlock := ⟨_, rfl⟩
      have hX8 : ∀ b, X2 b → W8.heap.size ≤ b := fun b hb => by
        rw [hX2, hX1] at hb
        rcases hb with h | h
        · exact h.1
        · have := (ho12.lt b h.symm).1; omega
      have hXx : ¬ X2 w9.heap.size := fun hb => by
        rw [hX2, hX1] at hb
        rcases hb with h | h
        · exact absurd h.2 (Nat.lt_irrefl _)
        · have := (ho12.lt _ h.symm).1; omega
      have hXc : ¬ X2 cb12 := fun hb => by
        rw [hX2, hX1] at hb
        rcases hb with h | h
        · have := h.2; omega
        · exact hne12 h.symm
      have HXB : Hid (∀ W, Kp X2 W12 W → Below w.heap.size w W ∧ (Cls W ∧ Cds W) ∧ HRow W (.slice va hs.length vc) hs ∧ W.heap[w.heap.size]? = some (.cells #[.slice va hs.length vc] 24 (0, 0)) ∧ W.heap[w.heap.size + 1]? = some (.cells #[.int .i64 kh, .string kp, .int .i64 km] 26 (0, 0)) ∧ W.heap[cb8]? = some (.cells #[.string qv, .string qt, .string qh, .slice a8 qf.length c8, .string qb] 42 (0, 0)) ∧ W.ownsRow w2.heap.size 63 2 (.slice a8 qf.length c8) qf.length (fcells qf) ∧ W.heap[w9.heap.size]? = some (.cells #[.slice (some ⟨gx, 0, none⟩) hs.length hs.length] 32 (0, 0)) ∧ W.heap[cb12]? = some (.cells #[.string qv, .string qt, .string qh, .slice a12 qf.length c12, .string qb] 42 (0, 0))) := Lib.hid fun W hK => by
        have hbW8 := hbW.trans (hK.below hbW.size hX8)
        obtain ⟨a1, a2, a3, a4, a5⟩ := HX.out _ (hb08.trans (hbW8.mono hb08.size))
        exact ⟨a3, a1, a2, a4, a5, (hbW8.block _ hcl8).trans hY8, own_below ho8 hbW8, (hK.block (by have := hD12.size; omega) hXx).trans ((hD12.block _ (by omega)).trans hY9), (hK.block hcl12 hXc).trans hY12⟩
      have HRx : Hid (∀ W, Below W12.heap.size W12 W → HRow W (.slice (some ⟨gx, 0, none⟩) hs.length hs.length) hs) := Lib.hid fun W hW => hr9.below (Nat.le_refl _) (hD12.trans (hW.mono hD12.size))
      have HFx := Lib.hid (hfx9.below hb912)
      have HO12 := Lib.hid ho12
      have HNx : Hid (∀ b, (Value.slice a12 qf.length c12).ownBlock = some b → ¬ X1 b) := Lib.hid fun b hb hx => by
        rw [hX1] at hx
        have := (ho12.lt b hb).1
        omega
      have HX12 : Hid (∀ b, X1 b → X2 b) := Lib.hid fun b hb => by rw [hX2]; exact .inl hb
      have HX22 : Hid (∀ b, some b = (Value.slice a12 qf.length c12).ownBlock → X2 b) := Lib.hid fun b hb => by rw [hX2]; exact .inr hb
      obtain ⟨_, _, _, _, _, k6, k8, _, k9⟩ := HXB.out W12 (kp_below (Below.refl _ _))
      obtain ⟨p0, p1, p2, p3, p4, _⟩ := five_facts k9
      obtain ⟨s0, s1, s2, s3, s4, _⟩ := five_facts k6
      have hE12 := HEH.out _ _ W12 (frow_own' ho12) (frow_own' k8)
      clear hbW hb012 hb912 hX2 hX8 hXx hXc k6 k8 k9 hD12 hY12 ho12 hne12 hcl12 hlo12 hb08 hD9 hb9b hY9 hr9 hfx9 hcl8 hY8 ho8
      go_wp2_with fail
      refine hE12.mono ?_
      rintro e w13 ⟨rfl, hb13⟩
      clear hE12 p0 p1 p2 p3 p4 s0 s1 s2 s3 s4
      go_wp2_with fail
      refine wp_region_last (by kernel_rfl) 4 (by kernel_rfl) (by kernel_rfl) (by kernel_rfl)
        (fun u => { tmps := #[.agg #[.slice va hs.length vc], .agg #[.int .i64 kh, .string kp, .int .i64 km], .string tag, .pointer (some ⟨w.heap.size, 0, none⟩), .pointer (some ⟨w.heap.size + 1, 0, none⟩), undef, .bool false, .int .i64 r2, .pointer (some ⟨cb8, 0, none⟩), .pointer (some ⟨w9.heap.size, 0, none⟩), .pointer (some ⟨cb12, 0, none⟩), undef, undef, undef, undef, .string tag, .int .i64 (tag.size : Int), .bool false, .agg #[.slice va hs.length vc], .int .i64 1048576, .int .i64 r, .int .i64 r, .bool (decide (r < 0)), .agg #[.int .i64 kh, .string kp, .int .i64 km], .int .i64 r, .int .i64 r2, .int .i64 r2, .bool (decide (r2 < 0)), ua 0, ua 1, ua 2, ua 3, ua 4, .agg #[.string qv, .string qt, .string qh, .slice a8 qf.length c8, .string qb], .agg #[.slice va hs.length vc], .agg #[.slice (some ⟨gx, 0, none⟩) hs.length hs.length], ub 0, ub 1, ub 2, ub 3, .agg #[.string qv, .string qt, .string qh, .slice a12 qf.length c12, .string qb], .agg #[.string qv, .string qt, .string qh, .slice a12 qf.length c12, .string qb], .agg #[.string qv, .string qt, .string qh, .slice a8 qf.length c8, .string qb], .bool true, .bool false, u 0, u 1, u 2, u 3, undef, undef, undef, undef, undef, undef, undef, undef, undef, undef, undef, undef, undef, undef, undef, undef, undef, undef, undef, undef, undef, undef, undef, undef, undef, undef, undef, undef, undef, undef, undef, undef, undef, undef, undef, undef, undef, undef, undef, undef, undef], defers := [] })
        (fun _ W => Below w13.heap.size w13 W)
        (RAt [REq (.agg #[.slice (some ⟨gx, 0, none⟩) hs.length hs.length]), REq (.agg #[.slice va hs.length vc]), KCf hs, REq (.bool true)])
        (fun w w' => Below w.heap.size w w') (fun _ => undef) (Below.refl _ _).drew
        (fun i v w w' _ hR hle => steady_at (by exact ⟨steady_eq _, steady_eq _, steady_kcf hs, steady_eq _, trivial⟩) v w w' hR hle) ?_ ?_
      · intro i hi u w7 kk hkk hC hd
        obtain ⟨k0, k1, k2, k4, k5, _, _, k7, _⟩ := HXB.out _ ((kp_below hb13).trans (kp_below hC))
        have kx := HRx.out _ (hb13.trans (hC.mono hb13.size))
        obtain ⟨q0, _⟩ := one_fact k7
        obtain ⟨t0, _⟩ := one_fact k4
        obtain ⟨t1, t2, t3, _⟩ := three_facts k5
        match i, hi with
        | 0, _ =>
          refine wpOp_step rfl (fun K hK => ?_)
          clear hd
          go_simp
          exact hK _ _ ⟨_, rfl, rfl, Below.refl _ _, hC⟩
        | 1, _ =>
          refine wpOp_step rfl (fun K hK => ?_)
          clear hd
          go_simp
          exact hK _ _ ⟨_, rfl, rfl, Below.refl _ _, hC⟩
        | 2, _ =>
          have e1 : u 1 = .agg #[.slice va hs.length vc] := hd 1 (dep_of (by kernel_rfl))
          have hT := to_cfg _ hs w7 k2 hn HM.out
          refine wpOp_step rfl (fun K hK => ?_)
          clear hd
          go_simp
          refine hT.mono ?_
          rintro e w8 ⟨g2, G2, rfl, ho8, hb8⟩
          exact hK _ _ ⟨_, by simp [upd, e1], ⟨_, _, rfl, ho8.row hn HM.out⟩, hb8, hC.trans (hb8.mono hC.size)⟩
        | 3, _ =>
          have e0 : u 0 = .agg #[.slice (some ⟨gx, 0, none⟩) hs.length hs.length] := hd 0 (dep_of (by kernel_rfl))
          obtain ⟨a2, c2, e2, hr2⟩ : KCf hs (u 2) w7 := hd 2 (dep_of (by kernel_rfl))
          have hT := eq_cfg _ _ hs w7 kx hr2
          refine wpOp_step rfl (fun K hK => ?_)
          clear hd
          go_simp
          refine hT.mono ?_
          rintro e w8 ⟨rfl, hb8⟩
          exact hK _ _ ⟨_, by simp [upd, e0, e2], rfl, hb8, hC.trans (hb8.mono hC.size)⟩
      · intro uc w7 kk hkk hC hd
        have e3 : uc 3 = .bool true := hd 3 (by decide)
        refine wpOp_step rfl (fun K hK => ?_)
        clear hd
        go_simp
        refine hK _ _ ?_
        clear hK K e3
        have hK15 := (kp_below (X := X1) hb13).trans (kp_below hC)
        have hb15 := hb13.trans (hC.mono hb13.size)
        have hfx15 := HFx.out.below hb15
        have hMk := mark_cfg gx hs.length hs.length W8.heap.size (hget hs) usx w7 hfx15 HKx.out
        obtain ⟨_, _, _, _, _, _, _, k7, _⟩ := HXB.out _ (hK15.wide HX12.out)
        obtain ⟨q0, _⟩ := one_fact k7
        have HF15 := Lib.hid hfx15
        obtain ⟨km0, hkm⟩ : ∃ x : Int, x = ((kAt 1 (hget hs) hs.length : Nat) : Int) := ⟨_, rfl⟩
        rw [← hkm] at hMk
        have i3 : ¬ km0 < 0 := by omega
        clear hkm hb13 hC hb15 hfx15 k7
        obtain ⟨w15, hw15⟩ : ∃ x, x = w7 := ⟨_, rfl⟩
        rw [← hw15] at hK15 hMk q0 HF15 ⊢
        clear hw15
        go_wp2_with fail
        refine hMk.mono ?_
        rintro e w16 ⟨rfl, _, hfr⟩
        have hK16 := hK15.trans (by rw [hX1]; exact kp_frm hfr HF15.out HGx.out HUx.out)
        have ho16 := hK16.own HO12.out HNx.out
        obtain ⟨_, _, _, _, _, k6, k8, _, k9⟩ := HXB.out _ (hK16.wide HX12.out)
        obtain ⟨p0, p1, p2, p3, p4, _⟩ := five_facts k9
        obtain ⟨s0, s1, s2, s3, s4, _⟩ := five_facts k6
        have hE16 := HEH.out _ _ w16 (frow_own' ho16) (frow_own' k8)
        clear hMk hfr hK15 k6 k8 k9 q0
        go_wp2_with fail
        refine hE16.mono ?_
        rintro e w17 ⟨rfl, hb17⟩
        have hK17 := hK16.trans (kp_below hb17)
        have ho17 := own_below ho16 hb17
        have hM17 := HMA.out _ _ w17 ho17
        obtain ⟨_, _, _, _, _, _, _, _, k9⟩ := HXB.out _ (hK17.wide HX12.out)
        clear hE16 hK16 hb17 ho16 p0 p1 p2 p3 p4 s0 s1 s2 s3 s4
        obtain ⟨p0, p1, p2, p3, p4, _⟩ := five_facts k9
        clear k9
        go_wp2_with fail
        refine hM17.mono ?_
        rintro e w18 ⟨rfl, hm18, hg18⟩
        have hK18 := (hK17.wide HX12.out).trans ((kp_grown hg18).wide HX22.out)
        have hD18 := HHA.out _ w18 hm18
        obtain ⟨_, _, _, _, _, _, _, _, k9⟩ := HXB.out _ hK18
        clear hM17 hK17 hg18 ho17 p0 p1 p2 p3 p4
        obtain ⟨p0, p1, p2, p3, p4, _⟩ := five_facts k9
        clear k9
        have i4 := HM0.out
        go_wp2_with fail
        refine hD18.mono ?_
        rintro e w19 ⟨rfl, hb19⟩
        have hK19 := hK18.trans (kp_below hb19)
        have hm19 := hm18.keep hb19
        clear hD18 hK18 hb19 hm18 p0 p1 p2 p3 p4
        go_wp2_with fail
        refine wp_region_last (by kernel_rfl) 7 (by kernel_rfl) (by kernel_rfl) (by kernel_rfl)
          (fun u => { tmps := #[.agg #[.slice va hs.length vc], .agg #[.int .i64 kh, .string kp, .int .i64 km], .string tag, .pointer (some ⟨w.heap.size, 0, none⟩), .pointer (some ⟨w.heap.size + 1, 0, none⟩), undef, .bool false, .int .i64 r2, .pointer (some ⟨cb8, 0, none⟩), .pointer (some ⟨w9.heap.size, 0, none⟩), .pointer (some ⟨cb12, 0, none⟩), .int .i64 km0, .int .i64 m, .int .i64 m, u 6, .string tag, .int .i64 (tag.size : Int), .bool false, .agg #[.slice va hs.length vc], .int .i64 1048576, .int .i64 r, .int .i64 r, .bool (decide (r < 0)), .agg #[.int .i64 kh, .string kp, .int .i64 km], .int .i64 r, .int .i64 r2, .int .i64 r2, .bool (decide (r2 < 0)), ua 0, ua 1, ua 2, ua 3, ua 4, .agg #[.string qv, .string qt, .string qh, .slice a8 qf.length c8, .string qb], .agg #[.slice va hs.length vc], .agg #[.slice (some ⟨gx, 0, none⟩) hs.length hs.length], ub 0, ub 1, ub 2, ub 3, .agg #[.string qv, .string qt, .string qh, .slice a12 qf.length c12, .string qb], .agg #[.string qv, .string qt, .string qh, .slice a12 qf.length c12, .string qb], .agg #[.string qv, .string qt, .string qh, .slice a8 qf.length c8, .string qb], .bool true, .bool false, uc 0, uc 1, uc 2, .bool true, .bool false, .agg #[.slice (some ⟨gx, 0, none⟩) hs.length hs.length], .int .i64 1, .int .i64 km0, .int .i64 km0, .bool (decide (km0 < 0)), .bool (decide (km0 < 0)), .agg #[.string qv, .string qt, .string qh, .slice a12 qf.length c12, .string qb], .agg #[.string qv, .string qt, .string qh, .slice a8 qf.length c8, .string qb], .bool true, .bool false, .bool (decide (km0 < 0)), .agg #[.string qv, .string qt, .string qh, .slice a12 qf.length c12, .string qb], .int .i64 1, .int .i64 m, .agg #[.string qv, .string qt, .string qh, .slice a12 qf.length c12, .string qb], .int .i64 1, .int .i64 m, .int .i64 m, .bool (decide (m < 0)), .int .i64 m, .int .i64 m, .bool false, u 0, u 1, u 2, u 3, u 4, u 5, undef, undef, undef, undef, undef, undef, undef, undef, undef, undef, undef, undef], defers := [] })
          (fun _ W => Below w19.heap.size w19 W)
          (RAt [REq (.agg #[.slice va hs.length vc]), KCf hs, REq (.agg #[.int .i64 kh, .string kp, .int .i64 km]), REq (.agg #[.int .i64 kh, .string kp, .int .i64 km]), REq (.string tag), RHp w19.heap.size qv qt qh qf qb, RBx w19.heap.size #[.string ⟨#[]⟩, .string ⟨#[]⟩, .string ⟨#[]⟩, .slice none 0 0, .string ⟨#[]⟩] 42])
          (fun w w' => Below w.heap.size w w') (fun _ => undef) (Below.refl _ _).drew
          (fun i v w w' _ hR hle => steady_at (by exact ⟨steady_eq _, steady_kcf hs, steady_eq _, steady_eq _, steady_eq _, steady_hp, steady_bx, trivial⟩) v w w' hR hle) ?_ ?_
        · intro i hi u w7 kk hkk hC hd
          obtain ⟨k0, k1, k2, k4, k5, _, _, k7, _⟩ := HXB.out _ (hK19.trans (kp_below hC))
          obtain ⟨t0, _⟩ := one_fact k4
          obtain ⟨t1, t2, t3, _⟩ := three_facts k5
          match i, hi with
          | 0, _ =>
            refine wpOp_step rfl (fun K hK => ?_)
            clear hd
            go_simp
            exact hK _ _ ⟨_, rfl, rfl, Below.refl _ _, hC⟩
          | 1, _ =>
            have e0 : u 0 = .agg #[.slice va hs.length vc] := hd 0 (dep_of (by kernel_rfl))
            have hT := to_cfg _ hs w7 k2 hn HM.out
            refine wpOp_step rfl (fun K hK => ?_)
            clear hd
            go_simp
            refine hT.mono ?_
            rintro e w8 ⟨g2, G2, rfl, ho8, hb8⟩
            exact hK _ _ ⟨_, by simp [upd, e0], ⟨_, _, rfl, ho8.row hn HM.out⟩, hb8, hC.trans (hb8.mono hC.size)⟩
          | 2, _ =>
            refine wpOp_step rfl (fun K hK => ?_)
            clear hd
            go_simp
            exact hK _ _ ⟨_, rfl, rfl, Below.refl _ _, hC⟩
          | 3, _ =>
            have e2 : u 2 = .agg #[.int .i64 kh, .string kp, .int .i64 km] := hd 2 (dep_of (by kernel_rfl))
            have hT := HTK.out w7
            refine wpOp_step rfl (fun K hK => ?_)
            clear hd
            go_simp
            refine hT.mono ?_
            rintro e w8 ⟨rfl, hb8⟩
            exact hK _ _ ⟨_, by simp [upd, e2], rfl, hb8, hC.trans (hb8.mono hC.size)⟩
          | 4, _ =>
            refine wpOp_step rfl (fun K hK => ?_)
            clear hd
            go_simp
            exact hK _ _ ⟨_, rfl, rfl, Below.refl _ _, hC⟩
          | 5, _ =>
            obtain ⟨a1, c1, e1, hr1⟩ : KCf hs (u 1) w7 := hd 1 (dep_of (by kernel_rfl))
            have e3 : u 3 = .agg #[.int .i64 kh, .string kp, .int .i64 km] := hd 3 (dep_of (by kernel_rfl))
            have e4 : u 4 = .string tag := hd 4 (dep_of (by kernel_rfl))
            have hT := HIm.out _ w7 hr1 k1.1 k1.2
            refine wpOp_step rfl (fun K hK => ?_)
            clear hd
            go_simp
            refine hT.mono ?_
            rintro e w8 ⟨⟨vr8, rfl, ho8⟩, hb8⟩
            exact hK _ _ ⟨_, by simp [upd, e1, e3, e4], ⟨vr8, rfl, own_base ho8 hC.size⟩, hb8, hC.trans (hb8.mono hC.size)⟩
          | 6, _ =>
            refine wpOp_step rfl (fun K hK => ?_)
            clear hd
            go_simp
            exact hK _ _ ⟨_, rfl, ⟨_, rfl, Nat.le_trans hC.size (Nat.le_refl _), heap_alloc_new w7 _⟩, (Below.refl _ _).alloc (Nat.le_refl _) _, hC.alloc hC.size _⟩
        · intro ud w7 kk hkk hC hd
          obtain ⟨vrN, e5, hoN⟩ : RHp w19.heap.size qv qt qh qf qb (ud 5) w7 := hd 5 (by decide)
          obtain ⟨cb20, e6, hB6, hc6⟩ : RBx w19.heap.size #[.string ⟨#[]⟩, .string ⟨#[]⟩, .string ⟨#[]⟩, .slice none 0 0, .string ⟨#[]⟩] 42 (ud 6) w7 := hd 6 (by decide)
          obtain ⟨a20, c20, hvN⟩ := own_len2 hoN
          subst hvN
          obtain ⟨hD20, hY20, ho20, hne20, hcl20⟩ := told_box (w0 := w19) (qv := qv) (qt := qt) (qh := qh) (qb := qb) hC hc6 hB6 hoN ⟨_, _, _, _, _, rfl⟩
          obtain ⟨y0, y1, y2, y3, y4, f0, f1, f2, f3, f4⟩ := five_facts hc6
          obtain ⟨W20, hW20⟩ : ∃ W, W = set5 w7 cb20 (.string qv) (.string qt) (.string qh) (.slice a20 qf.length c20) (.string qb) := ⟨_, rfl⟩
          have hlo20 := hB6
          rw [← hW20] at hD20 hY20 ho20 hcl20
          unfold set5 at hW20
          have HW20 := Lib.hid hW20
          have HQ20 := Lib.hid (And.intro hD20 (And.intro hY20 (And.intro ho20 (And.intro hne20 (And.intro hcl20 hlo20)))))
          clear hW20 hC hc6 hB6 hoN hD20 hY20 ho20 hne20 hcl20 hlo20
          refine wpOp_step rfl (fun K hK => ?_)
          clear hd
          go_simp
          refine hK _ _ ?_
          clear hK K e5 e6 y0 y1 y2 y3 y4 f0 f1 f2 f3 f4
          rw [← HW20.out]
          obtain ⟨hD20, hY20, ho20, hne20, hcl20, hlo20⟩ := HQ20.out
          have hK20 := hK19.trans (kp_below hD20)
          obtain ⟨_, _, _, _, _, k6, k8, _, k9⟩ := HXB.out _ hK20
          obtain ⟨p0, p1, p2, p3, p4, _⟩ := five_facts hY20
          obtain ⟨s0, s1, s2, s3, s4, _⟩ := five_facts k6
          have hE20 := HEH.out _ _ W20 (frow_own' ho20) (frow_own' k8)
          have hm20 := hm19.keep hD20
          clear hm19 hK19 hD20 hY20 ho20 hne20 hcl20 hlo20 k6 k8 k9
          go_wp2_with fail
          refine hE20.mono ?_
          rintro e w21 ⟨rfl, hb21⟩
          have hK21 := hK20.trans (kp_below hb21)
          have hD21 := HHA.out _ w21 (hm20.keep hb21)
          obtain ⟨_, _, _, _, _, _, _, _, k9⟩ := HXB.out _ hK21
          obtain ⟨z0, z1, z2, z3, z4, _⟩ := five_facts k9
          clear hK20 hb21 hE20 hm20 p0 p1 p2 p3 p4 s0 s1 s2 s3 s4 k9
          go_wp2_with fail
          refine hD21.mono ?_
          rintro e w22 ⟨rfl, hb22⟩
          have HB := Lib.hid (HXB.out _ (hK21.trans (kp_below hb22))).1
          clear hK21 hD21 hb22 z0 z1 z2 z3 z4
          go_wp2_with fail
          go_ret
          exact ⟨rfl, HB.out⟩
namespace Lw
theorem fnExactKeyAsk (w : World) (hL : laidMetH Tryd.prog Rows.fnExactKeyAskRow.laid w) (v : Value) (hs : List Hs) (hH : HRow w v hs) (hN : HOks hs maxLen) (k : Ky) (hp : k.place.size ≤ maxLen) (_hh : (Lit.int .i64 k.house).wf = true) (_hm : (Lit.int .i64 k.mask).wf = true) (tag : ByteArray) (ht : tag.size ≤ maxLen) :
    Calls Tryd.prog 5 #[.agg #[v], keyV k, .string tag] w fun e w' => e = .returned (.bool true) ∧ Below w.heap.size w w' := by
  have hL' : laidMet Tryd.prog Rows.fnExactKeyAskRow.laid w := hL
  exact law_keyask hs v k tag w hH hN hp ht (cls_of_head hL') (cds_of_head hL'.tail)
end Lw
end Go.Proofs.YtiepobifbkleaaaDoor
