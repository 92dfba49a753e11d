/- The law on storage, exact: drop. -/
import Derived.Test.YtdjbcjmkmkljnabStSt
import Derived.Test.YtdjbcjmkmkljnabStOp
import Derived.Test.YtdjbcjmkmkljnabStL
import Derived.Test.YtdjbcjmkmkljnabStX
namespace Go.Proofs.Ytdjbcjmkmkljnab
open Go.RowKit Go.Maps

set_option maxRecDepth 100000 in
set_option maxHeartbeats 6400000 in
theorem law_stodrop (L : List En) (v : Value) (p : ByteArray) (un : Bool) (w : World) (hR : ERow w v L) (hN : EnsOk maxLen L) :
    Calls Try.prog 5 #[.agg #[v], .string p, .bool un] w fun e w' => e = .returned (.bool true) ∧ Below w.heap.size w w' := by
  by_cases hbigz : 1048576 < p.size
  · go_enter Try.func5, Try.ntmps5
    go_wp2
    go_ret
    exact ⟨rfl, (Below.refl _ _).alloc (Nat.le_refl _) _⟩
  have hbig : p.size ≤ 1048576 := by omega
  obtain ⟨wA, hwA⟩ : ∃ wA, wA = w.alloc (.cells #[v] 24) := ⟨_, rfl⟩
  have hsA : wA.heap.size = w.heap.size + 1 := by rw [hwA]; simp
  have hbA : Below w.heap.size w wA := by rw [hwA]; exact (Below.refl _ _).alloc (Nat.le_refl _) _
  have hX0 : wA.heap[w.heap.size]? = some (.cells #[v] 24 (0, 0)) := by rw [hwA]; exact heap_alloc_new w _
  have HX : Hid (∀ W, Below wA.heap.size wA W → ERow W v L ∧ Below w.heap.size w W ∧ W.heap[w.heap.size]? = some (.cells #[v] 24 (0, 0))) := Lib.hid fun W hW => by
    have hb := hbA.trans (hW.mono (by omega))
    exact ⟨hR.below (Nat.le_refl _) hb, hb, (hW.block w.heap.size (by omega)).trans hX0⟩
  have hb0 : Below wA.heap.size wA wA := Below.refl _ _
  have hSz := sz_store v L wA (HX.out _ hb0).1 hN
  obtain ⟨va, vc, rfl, _⟩ := hR
  obtain ⟨t0, _⟩ := one_factE hX0
  rw [hwA] at t0
  have HW := Lib.hid hwA
  clear hwA hbA hX0 hN
  go_enter Try.func5, Try.ntmps5
  go_wp2_with fail
  rw [← HW.out]
  refine hSz.mono ?_
  rintro e w1 ⟨⟨r, rfl, hr⟩, hb1⟩
  clear hSz hb0 t0
  rcases hr with hr | ⟨hr, hz, hn⟩
  · have HB := Lib.hid (HX.out _ hb1).2.1
    clear hb1
    go_wp2
    go_ret
    exact ⟨rfl, HB.out⟩
  have i1 : ¬ r < 0 := by omega
  have HZ := Lib.hid hz
  clear hz
  have hn2 : L.length ≤ 2000000 := by omega
  obtain ⟨k2, k3, k4⟩ := HX.out _ hb1
  obtain ⟨q0, _⟩ := one_factE k4
  have hT1 := to_store _ L w1 k2 hn
  clear k2 k3 k4
  go_wp2_with fail
  refine hT1.mono ?_
  rintro e w2 ⟨g1, rfl, hg1, ho1, hb2⟩
  have hb02 := hb1.trans (hb2.mono hb1.size)
  have hS2 := spec_stodrop _ L p un w2 (ho1.row (Nat.le_refl _) (by unfold maxLen; omega)) HZ.out hn2 hbig
  clear hb1 hb2 hT1 ho1 q0
  obtain ⟨Lr, hL⟩ : ∃ Lr, Lr = dropE L p.data.toList un := ⟨_, rfl⟩
  rw [← hL] at hS2
  have HL := Lib.hid hL
  clear hL
  have hlr : Lr.length ≤ L.length := by rw [HL.out]; unfold dropE; exact List.length_filter_le _ _
  go_wp2_with fail
  refine hS2.mono ?_
  rintro e w3 ⟨u0, rfl, hr0, hb3⟩
  have hb03 := hb02.trans (hb3.mono hb02.size)
  have hrw0 := erow_of_own hr0
  have HR0 := hrw0
  obtain ⟨a0, c0, rfl, _⟩ := hrw0
  obtain ⟨w3b, hw3b⟩ : ∃ x, x = w3.alloc (.cells #[.slice a0 Lr.length c0] 28) := ⟨_, rfl⟩
  have hs3b : w3b.heap.size = w3.heap.size + 1 := by rw [hw3b]; simp
  have hb3b : Below w3.heap.size w3 w3b := by rw [hw3b]; exact (Below.refl _ _).alloc (Nat.le_refl _) _
  have hX6 : w3b.heap[w3.heap.size]? = some (.cells #[.slice a0 Lr.length c0] 28 (0, 0)) := by rw [hw3b]; exact heap_alloc_new w3 _
  have hb03b := hb03.trans (hb3b.mono hb03.size)
  have hr0b := HR0.below (Nat.le_refl _) hb3b
  have hz3 := hb03.size
  have HD : Hid (∀ W, Below w3b.heap.size w3b W → ERow W (.slice va L.length vc) L ∧ Below w.heap.size w W ∧ W.heap[w.heap.size]? = some (.cells #[.slice va L.length vc] 24 (0, 0)) ∧ ERow W (.slice a0 Lr.length c0) Lr ∧ W.heap[w3.heap.size]? = some (.cells #[.slice a0 Lr.length c0] 28 (0, 0))) := Lib.hid fun W hW => by
    obtain ⟨k2, k3, k4⟩ := HX.out W (hb03b.trans (hW.mono hb03b.size))
    exact ⟨k2, k3, k4, hr0b.below (Nat.le_refl _) hW, (hW.block _ (by omega)).trans hX6⟩
  obtain ⟨k2, k3, k4, _, _⟩ := HD.out w3b (Below.refl _ _)
  obtain ⟨q0, _⟩ := one_factE k4
  have hT3 := to_store _ L w3b k2 hn
  rw [hw3b] at q0
  have HW3 := Lib.hid hw3b
  clear hw3b hb3 hS2 hb02 HR0 hb3b hX6 hb03b hr0b hb03 k2 k3 k4 hr0
  go_wp2_with fail
  rw [← HW3.out]
  refine hT3.mono ?_
  rintro e w4 ⟨gx, rfl, hgx, ho4, hb4⟩
  have hz4 := hb4.size
  obtain ⟨w4b, hw4b⟩ : ∃ x, x = w4.alloc (.cells #[.slice (some ⟨gx, 0, none⟩) L.length L.length] 28) := ⟨_, rfl⟩
  have hs4b : w4b.heap.size = w4.heap.size + 1 := by rw [hw4b]; simp
  have hb4b : Below w4.heap.size w4 w4b := by rw [hw4b]; exact (Below.refl _ _).alloc (Nat.le_refl _) _
  have hX7 : w4b.heap[w4.heap.size]? = some (.cells #[.slice (some ⟨gx, 0, none⟩) L.length L.length] 28 (0, 0)) := by rw [hw4b]; exact heap_alloc_new w4 _
  have hD4b := hb4.trans (hb4b.mono hz4)
  have hfx4 : MV w4 w3b.heap.size w4.heap.size (.slice (some ⟨gx, 0, none⟩) L.length L.length) L.length (fun i j => cE (eget L i) j) := .inr ⟨gx, L.length, rfl, hgx, ho4.lt, ⟨Nat.le_refl _, by unfold maxLen; omega⟩, ho4⟩
  have hfx4b := hfx4.same (w' := w4b) (fun b _ hb => hb4b.block b hb)
  have hI4 := impl_stodrop _ L p un w4b hfx4b.row HZ.out (by omega) hbig
  rw [← HL.out] at hI4
  obtain ⟨q0, _⟩ := one_factE hX7
  rw [hw4b] at q0
  have HW4 := Lib.hid hw4b
  clear hw4b hb4 ho4 hT3 hfx4 hb4b
  go_wp2_with fail
  rw [← HW4.out]
  refine hI4.mono ?_
  rintro e w5 ⟨u8, rfl, hal, hb5⟩
  have hz5 := hb5.size
  have hah := mv_of_own hal
  have hrow8 := hah.row
  obtain ⟨a8, c8, rfl, _⟩ := hrow8
  obtain ⟨w5b, hw5b⟩ : ∃ x, x = w5.alloc (.cells #[.slice a8 Lr.length c8] 28) := ⟨_, rfl⟩
  have hs5b : w5b.heap.size = w5.heap.size + 1 := by rw [hw5b]; simp
  have hb5b : Below w5.heap.size w5 w5b := by rw [hw5b]; exact (Below.refl _ _).alloc (Nat.le_refl _) _
  have hX8 : w5b.heap[w5.heap.size]? = some (.cells #[.slice a8 Lr.length c8] 28 (0, 0)) := by rw [hw5b]; exact heap_alloc_new w5 _
  have hb45 := hb5.trans (hb5b.mono hz5)
  have hD5 := hD4b.trans (hb45.mono hD4b.size)
  have hX7b := (hb45.block w4.heap.size (by omega)).trans hX7
  have hfx5 := hfx4b.same (w' := w5b) (fun b _ hb => hb45.block b (by omega))
  have hah5 := hah.same (w' := w5b) (fun b _ hb => hb5b.block b hb)
  obtain ⟨k2, k3, k4, k5, k6⟩ := HD.out w5b hD5
  have hE5 := eq_store _ _ Lr w5b hah5.row k5 (by omega)
  obtain ⟨q8, _⟩ := one_factE hX8
  obtain ⟨q6, _⟩ := one_factE k6
  rw [hw5b] at q8 q6
  have HW5 := Lib.hid hw5b
  clear hw5b hX7 hI4 hal hah hfx4b hb5 hb45 hD4b q0 k2 k3 k4 k5 k6 hb5b
  go_wp2_with fail
  rw [← HW5.out]
  refine hE5.mono ?_
  rintro e w6 ⟨rfl, hb6⟩
  have hz6 := hb6.size
  have hD6 := hD5.trans (hb6.mono hD5.size)
  have hX76 := (hb6.block w4.heap.size (by omega)).trans hX7b
  have hX86 := (hb6.block w5.heap.size (by omega)).trans hX8
  have hfx6 := hfx5.same (w' := w6) (fun b _ hb => hb6.block b (by omega))
  have hah6 := hah5.same (w' := w6) (fun b _ hb => hb6.block b (by omega))
  clear hE5 hD5 hX7b hX8 hfx5 hah5 hb6 q8 q6
  go_wp2_with fail
  have hF6 := hfx6.row
  have HC6 : Hid (∀ W, Below w6.heap.size w6 W → ERow W (.slice (some ⟨gx, 0, none⟩) L.length L.length) L ∧ ERow W (.slice va L.length vc) L ∧ W.heap[w.heap.size]? = some (.cells #[.slice va L.length vc] 24 (0, 0)) ∧ W.heap[w4.heap.size]? = some (.cells #[.slice (some ⟨gx, 0, none⟩) L.length L.length] 28 (0, 0))) := Lib.hid fun W hW => by
    obtain ⟨k2, _, k4, _⟩ := HD.out W (hD6.trans (hW.mono hD6.size))
    exact ⟨hF6.below (Nat.le_refl _) hW, k2, k4, (hW.block w4.heap.size (by omega)).trans hX76⟩
  clear hF6
  refine wp_region_last (by kernel_rfl) 4 (by kernel_rfl) (by kernel_rfl) (by kernel_rfl)
    (fun u => { tmps := #[Value.agg #[Value.slice va L.length vc], Value.string p, .bool un, .pointer (some ⟨w.heap.size, 0, none⟩), undef, undef, .bool false, Value.int IntKind.i64 r, .pointer (some ⟨w3.heap.size, 0, none⟩), Value.int IntKind.i64 ↑(goneN L p.data.toList un), .pointer (some ⟨w4.heap.size, 0, none⟩), .pointer (some ⟨w5.heap.size, 0, none⟩), Value.int IntKind.i64 ↑(goneN L p.data.toList un), undef, undef, undef, undef, undef, Value.string p, Value.int IntKind.i64 (p.size : Int), .bool (decide ((1048576 : Int) < (p.size : Int))), Value.agg #[Value.slice va L.length vc], Value.int IntKind.i64 1048576, Value.int IntKind.i64 r, Value.int IntKind.i64 r, .bool (decide (r < 0)), Value.tuple #[Value.agg #[Value.slice a0 Lr.length c0], Value.int IntKind.i64 ↑(goneN L p.data.toList un)], Value.agg #[Value.slice va L.length vc], Value.agg #[Value.slice (some { block := g1, off := 0 }) L.length L.length], Value.string p, .bool un, Value.tuple #[Value.agg #[Value.slice a0 Lr.length c0], Value.int IntKind.i64 ↑(goneN L p.data.toList un)], Value.agg #[Value.slice a0 Lr.length c0], Value.int IntKind.i64 ↑(goneN L p.data.toList un), Value.agg #[Value.slice va L.length vc], Value.agg #[Value.slice (some { block := gx, off := 0 }) L.length L.length], Value.tuple #[Value.agg #[Value.slice a8 Lr.length c8], Value.int IntKind.i64 ↑(goneN L p.data.toList un)], Value.agg #[Value.slice (some { block := gx, off := 0 }) L.length L.length], Value.string p, .bool un, Value.tuple #[Value.agg #[Value.slice a8 Lr.length c8], Value.int IntKind.i64 ↑(goneN L p.data.toList un)], Value.agg #[Value.slice a8 Lr.length c8], Value.int IntKind.i64 ↑(goneN L p.data.toList un), Value.agg #[Value.slice a8 Lr.length c8], Value.agg #[Value.slice a0 Lr.length c0], .bool true, .bool false, .bool false, Value.int IntKind.i64 ↑(goneN L p.data.toList un), Value.int IntKind.i64 ↑(goneN L p.data.toList un), .bool false, .bool false, u 0, u 1, u 2, u 3, undef, undef, undef, undef, undef, undef, undef, undef, undef, undef, undef, undef, undef, undef, undef, undef, undef, undef, undef, undef, undef, undef, undef, undef, undef, undef, undef, undef, undef, undef, undef, undef, undef, undef, undef, undef, undef, undef, undef, undef, undef, undef, undef, undef, undef, undef, undef, undef, undef, undef, undef, undef, undef], defers := [] })
    (fun _ w7 => Below w6.heap.size w6 w7)
    (fun i z w7 => match i with
      | 0 => z = .agg #[.slice (some ⟨gx, 0, none⟩) L.length L.length]
      | 1 => z = .agg #[.slice va L.length vc]
      | 2 => ∃ a2 c2, z = .agg #[.slice a2 L.length c2] ∧ ERow w7 (.slice a2 L.length c2) L
      | 3 => z = .bool true
      | _ => True)
    (fun w7 w8 => Below w7.heap.size w7 w8) (fun _ => undef) (Below.refl _ _).drew ?_ ?_ ?_
  · intro i z w7 w8 hi hR hle
    match i, hi with
    | 0, _ =>
      exact hR
    | 1, _ =>
      exact hR
    | 2, _ =>
      obtain ⟨a2, c2, h1, h2⟩ := hR
      exact ⟨a2, c2, h1, h2.below (Nat.le_refl _) hle⟩
    | 3, _ =>
      exact hR
    | n + 4, hn => exact absurd hn (by omega)
  · intro i hi u w7 kk hkk hC hdp
    match i, hi with
    | 0, _ =>
      obtain ⟨k1, k2, k4, k5⟩ := HC6.out w7 hC
      obtain ⟨q0, _⟩ := one_factE k4
      obtain ⟨t0, _⟩ := one_factE k5
      refine wpOp_step rfl (fun K hK => ?_)
      clear hdp
      go_simp
      exact hK _ _ ⟨.agg #[.slice (some ⟨gx, 0, none⟩) L.length L.length], rfl, rfl, Below.refl _ _, hC⟩
    | 1, _ =>
      obtain ⟨k1, k2, k4, k5⟩ := HC6.out w7 hC
      obtain ⟨q0, _⟩ := one_factE k4
      obtain ⟨t0, _⟩ := one_factE k5
      refine wpOp_step rfl (fun K hK => ?_)
      clear hdp
      go_simp
      exact hK _ _ ⟨.agg #[.slice va L.length vc], rfl, rfl, Below.refl _ _, hC⟩
    | 2, _ =>
      obtain ⟨k1, k2, k4, k5⟩ := HC6.out w7 hC
      obtain ⟨q0, _⟩ := one_factE k4
      obtain ⟨t0, _⟩ := one_factE k5
      have e1 : u 1 = .agg #[.slice va L.length vc] := hdp 1 (dep_of (by kernel_rfl))
      have hT := to_store _ L w7 k2 hn
      refine wpOp_step rfl (fun K hK => ?_)
      clear hdp
      go_simp
      refine hT.mono ?_
      rintro e w8 ⟨g2, rfl, hg2, ho2, hb8⟩
      exact hK _ _ ⟨_, by simp [upd, e1], ⟨_, _, rfl, ho2.row (Nat.le_refl _) (by unfold maxLen; omega)⟩, hb8, hC.trans (hb8.mono hC.size)⟩
    | 3, _ =>
      have e0 : u 0 = .agg #[.slice (some ⟨gx, 0, none⟩) L.length L.length] := hdp 0 (dep_of (by kernel_rfl))
      have r2 : ∃ a2 c2, (u 2) = .agg #[.slice a2 L.length c2] ∧ ERow w7 (.slice a2 L.length c2) L := hdp 2 (dep_of (by kernel_rfl))
      obtain ⟨a2, c2, e2, hr2⟩ := r2
      obtain ⟨k1, k2, k4, k5⟩ := HC6.out w7 hC
      have hE := eq_store _ _ L w7 k1 hr2 (by omega)
      refine wpOp_step rfl (fun K hK => ?_)
      clear hdp
      go_simp
      refine hE.mono ?_
      rintro e w8 ⟨rfl, hb8⟩
      exact hK _ _ ⟨_, by simp [upd, e0, e2], rfl, hb8, hC.trans (hb8.mono hC.size)⟩
    | n + 4, hn => exact absurd hn (by omega)
  · intro u w7 kk hkk hC hdp
    have e3 : u 3 = .bool true := hdp 3 (by decide)
    refine wpOp_step rfl (fun K hK => ?_)
    clear hdp
    go_simp
    refine hK _ _ ?_
    clear hK K e3 HC6
    have hD7 := hD6.trans (hC.mono hD6.size)
    have hX77 := (hC.block w4.heap.size (by omega)).trans hX76
    have hX87 := (hC.block w5.heap.size (by omega)).trans hX86
    have hfx7 := hfx6.same (fun b _ hb => hC.block b (by omega))
    have hah7 := hah6.same (fun b _ hb => hC.block b (by omega))
    have hz7 := hC.size
    have hMk := mark_store hfx7 (by omega)
    obtain ⟨t7, _⟩ := one_factE hX77
    have HFx7 := Lib.hid hfx7
    have i2 : ¬ ((1 : Int) + 9 * (L.length : Int) < 0) := by omega
    clear hD6 hX76 hX86 hfx6 hah6 hC hfx7
    go_wp2_with fail
    refine hMk.mono ?_
    rintro e w8 ⟨rfl, _, hfr8⟩
    have hmid := mv_mid HFx7.out hfr8
    have hz8 := hmid.2.2.2.1
    have hD8 := hD7.trans (hmid.below (by omega))
    have hX78 := (hmid.2.2.2.2 w4.heap.size (by omega) (.inr (Nat.le_refl _))).trans hX77
    have hX88 := (hmid.2.2.2.2 w5.heap.size (by omega) (.inr (by omega))).trans hX87
    have hah8 := hah7.same (fun b hb hb2 => hmid.2.2.2.2 b (by omega) (.inr (by omega)))
    obtain ⟨k2, k3, k4, k5, k6⟩ := HD.out w8 hD8
    have hE8 := eq_store _ _ Lr w8 hah8.row k5 (by omega)
    obtain ⟨q6, _⟩ := one_factE k6
    obtain ⟨q8, _⟩ := one_factE hX88
    clear hMk hfr8 hmid hD7 hX77 hX87 hah7 k2 k3 k4 k5 k6 t7
    go_wp2_with fail
    refine hE8.mono ?_
    rintro e w9 ⟨rfl, hb9⟩
    have hz9 := hb9.size
    have hD9 := hD8.trans (hb9.mono hD8.size)
    have hX89 := (hb9.block w5.heap.size (by omega)).trans hX88
    have hah9 := hah8.same (fun b _ hb => hb9.block b (by omega))
    have hMr := mark_store hah9 (by omega)
    have HAh9 := Lib.hid hah9
    clear hE8 hD8 hX78 hX88 hah8 hb9 q6 q8 i2 hah9
    obtain ⟨q8, _⟩ := one_factE hX89
    go_wp2_with fail
    refine hMr.mono ?_
    rintro e w10 ⟨rfl, hmk10, hfr10⟩
    have hmid := mv_mid HAh9.out hfr10
    have hz10 := hmid.2.2.2.1
    have hD10 := hD9.trans ((hmid.below (by omega)).mono (show w3b.heap.size ≤ w4b.heap.size by omega))
    have hX810 := (hmid.2.2.2.2 w5.heap.size (by omega) (.inr (Nat.le_refl _))).trans hX89
    have hHl := held_store hmk10 (by omega)
    clear hMr hmid hfr10 hD9 hX89 q8
    obtain ⟨q8, _⟩ := one_factE hX810
    go_wp2_with fail
    refine hHl.mono ?_
    rintro e w11 ⟨rfl, hb11⟩
    have hz11 := hb11.size
    have hD11 := hD10.trans (hb11.mono hD10.size)
    have hX811 := (hb11.block w5.heap.size (by omega)).trans hX810
    have hmk11 := hmk10.same (fun b _ hb => hb11.block b (by omega))
    have i3 : ¬ ((1 : Int) + 9 * (Lr.length : Int) < 0) := by omega
    obtain ⟨k2, k3, k4, k5, k6⟩ := HD.out w11 hD11
    obtain ⟨q0, _⟩ := one_factE k4
    have hT11 := to_store _ L w11 k2 hn
    clear hHl hb11 hD10 hX810 hmk10 k2 k3 k4 k5 k6 q8
    go_wp2_with fail
    refine hT11.mono ?_
    rintro e w12 ⟨g12, rfl, hg12, ho12, hb12⟩
    have hz12 := hb12.size
    have hD12 := hD11.trans (hb12.mono hD11.size)
    have hX812 := (hb12.block w5.heap.size (by omega)).trans hX811
    have hmk12 := hmk11.same (fun b _ hb => hb12.block b (by omega))
    have hI12 := impl_stodrop _ L p un w12 (ho12.row (Nat.le_refl _) (by unfold maxLen; omega)) HZ.out (by omega) hbig
    rw [← HL.out] at hI12
    clear hT11 hb12 hD11 hX811 hmk11 ho12 q0
    go_wp2_with fail
    refine hI12.mono ?_
    rintro e w13 ⟨uh, rfl, halh, hb13⟩
    have hz13 := hb13.size
    have hrowh := erow_of_own halh
    have hrowh2 := hrowh
    obtain ⟨ah, ch, rfl, _⟩ := hrowh2
    obtain ⟨w14, hw14⟩ : ∃ x, x = w13.alloc (.cells #[.slice ah Lr.length ch] 28) := ⟨_, rfl⟩
    have hs14 : w14.heap.size = w13.heap.size + 1 := by rw [hw14]; simp
    have hb14 : Below w13.heap.size w13 w14 := by rw [hw14]; exact (Below.refl _ _).alloc (Nat.le_refl _) _
    have hX14 : w14.heap[w13.heap.size]? = some (.cells #[.slice ah Lr.length ch] 28 (0, 0)) := by rw [hw14]; exact heap_alloc_new w13 _
    have hb1214 := hb13.trans (hb14.mono hz13)
    have hD14 := hD12.trans (hb1214.mono hD12.size)
    have hX814 := (hb1214.block w5.heap.size (by omega)).trans hX812
    have hmk14 := hmk12.same (fun b _ hb => hb1214.block b (by omega))
    obtain ⟨k2, k3, k4, k5, k6⟩ := HD.out w14 hD14
    have hE14 := eq_store _ _ Lr w14 (hrowh.below (Nat.le_refl _) hb14) k5 (by omega)
    obtain ⟨q6, _⟩ := one_factE k6
    obtain ⟨q14, _⟩ := one_factE hX14
    rw [hw14] at q6 q14
    have HW14 := Lib.hid hw14
    clear hw14 hI12 hb13 hb14 hb1214 hD12 hX812 hmk12 halh hrowh k2 k3 k4 k5 k6
    go_wp2_with fail
    rw [← HW14.out]
    refine hE14.mono ?_
    rintro e w15 ⟨rfl, hb15⟩
    have hz15 := hb15.size
    have hD15 := hD14.trans (hb15.mono hD14.size)
    have hX815 := (hb15.block w5.heap.size (by omega)).trans hX814
    have hmk15 := hmk14.same (fun b _ hb => hb15.block b (by omega))
    have hHl := held_store hmk15 (by omega)
    clear hE14 hb15 hD14 hX814 hmk14 hX14 q6 q14
    obtain ⟨q8, _⟩ := one_factE hX815
    go_wp2_with fail
    refine hHl.mono ?_
    rintro e w16 ⟨rfl, hb16⟩
    have hfin := (HD.out w16 (hD15.trans (hb16.mono hD15.size))).2.1
    clear hHl hb16 hD15 hX815 hmk15 q8
    go_wp2
    go_ret
    exact ⟨rfl, hfin⟩
namespace Lw
theorem fnExactStoDrop (w : World) (v : Value) (L : List En) (hR : ERow w v L) (hN : EnsOk maxLen L) (p : ByteArray) (_hp : p.size ≤ maxLen) (un : Bool) :
    Calls Try.prog 5 #[.agg #[v], .string p, .bool un] w fun e w' => e = .returned (.bool true) ∧ Below w.heap.size w w' := law_stodrop L v p un w hR hN
end Lw
end Go.Proofs.Ytdjbcjmkmkljnab
