/- The law on whether storage is ok, exact. -/
import Derived.Test.YtbhnjnoblkfckaaGreatDoorStO3
import Derived.Test.YtbhnjnoblkfckaaGreatDoorStSz2
import Derived.Test.YtbhnjnoblkfckaaGreatDoorGCe
import Derived.Test.YtbhnjnoblkfckaaGreatDoorGZ21
import Derived.Test.YtbhnjnoblkfckaaGreatDoorGZ10
namespace Go.Proofs.YtbhnjnoblkfckaaGreatDoor
open Go.RowKit Go.Maps

set_option maxRecDepth 100000 in
set_option maxHeartbeats 6400000 in
theorem law_stook (h : Hs) (u v : Value) (L : List En) (w : World) (hS : NRow w u h.names) (hN : NOk h.names maxLen) (hR : ERow w v L) (hE : EnsOk maxLen L) (hcls : Cls w) :
    Calls Tryz.prog 3 #[.agg #[u, .int .i64 h.key, .int .i64 h.maxN, .int .i64 h.maxB], .agg #[v]] w fun e w' => e = .returned (.bool true) ∧ Below w.heap.size w w' := by
  obtain ⟨wA, hwA⟩ : ∃ wA, wA = (w.alloc (.cells #[u, .int .i64 h.key, .int .i64 h.maxN, .int .i64 h.maxB] 24)).alloc (.cells #[v] 27) := ⟨_, rfl⟩
  have hsA : wA.heap.size = w.heap.size + 2 := by rw [hwA]; simp
  have hbA : Below w.heap.size w wA := by rw [hwA]; exact ((Below.refl _ _).alloc (Nat.le_refl _) _).alloc (by simp) _
  have hH0 : wA.heap[w.heap.size]? = some (.cells #[u, .int .i64 h.key, .int .i64 h.maxN, .int .i64 h.maxB] 24 (0, 0)) := by
    rw [hwA]; exact (Below.heap_alloc _ _ _ (by simp)).trans (heap_alloc_new w _)
  have hH1 : wA.heap[w.heap.size + 1]? = some (.cells #[v] 27 (0, 0)) := by
    rw [hwA]
    have := heap_alloc_new (w.alloc (.cells #[u, .int .i64 h.key, .int .i64 h.maxN, .int .i64 h.maxB] 24)) (.cells #[v] 27)
    rwa [World.size_alloc] at this
  have HX : Hid (∀ W, Below wA.heap.size wA W → Cls W ∧ NRow W u h.names ∧ ERow W v L ∧ W.heap[w.heap.size]? = some (.cells #[u, .int .i64 h.key, .int .i64 h.maxN, .int .i64 h.maxB] 24 (0, 0)) ∧ W.heap[w.heap.size + 1]? = some (.cells #[v] 27 (0, 0)) ∧ Below w.heap.size w W) := Lib.hid fun W hW => by
    have hb := hbA.trans (hW.mono (by omega))
    exact ⟨hcls.below hb (Nat.le_refl _), hS.below (Nat.le_refl _) hb, hR.below (Nat.le_refl _) hb, (hW.block _ (by omega)).trans hH0, (hW.block _ (by omega)).trans hH1, hb⟩
  have hb0 : Below wA.heap.size wA wA := Below.refl _ _
  have hZ1 := sz_house h u 1048576 (by decide) (by decide) wA (HX.out _ hb0).2.1 hN
  have hZ2 := fun r (h0 : 0 ≤ r) (h1 : r ≤ 1048576) W (hW : Below wA.heap.size wA W) => sz_storeL v L r h0 h1 W (HX.out W hW).2.2.1 hE
  obtain ⟨ua, uc, rfl, _⟩ := nrow_get hS
  obtain ⟨va, vc, rfl, _⟩ := hR
  obtain ⟨q0, q1, q2, q3, -⟩ := four_facts hH0
  obtain ⟨p0, -⟩ := one_factE hH1
  rw [hwA] at q0 q1 q2 q3 p0
  have HW := Lib.hid hwA
  have HZ2 := Lib.hid hZ2
  clear hwA hbA hH0 hH1 hE hN hcls hS hZ2
  go_enter Tryz.func3, Tryz.ntmps3
  go_wp2_with fail
  rw [← HW.out]
  refine hZ1.mono ?_
  rintro e w1 ⟨⟨q, rfl, hq⟩, hb1⟩
  clear hZ1 hb0 q0 q1 q2 q3 p0
  rcases hq with hq | ⟨hq0, hq1, hnk, hnl⟩
  · have HB := Lib.hid (HX.out _ hb1).2.2.2.2.2
    clear hb1
    go_wp2
    go_ret
    exact ⟨rfl, HB.out⟩
  have i1 : ¬ q < 0 := by omega
  have HNk := Lib.hid hnk
  have hC2 := HZ2.out q hq0 hq1 w1 hb1
  obtain ⟨k0, k1, k2, k3, k4, k5⟩ := HX.out _ hb1
  obtain ⟨p0, -⟩ := one_factE k4
  clear hnk k0 k1 k2 k3 k4 k5
  go_wp2_with fail
  refine hC2.mono ?_
  rintro e w2 ⟨⟨r, rfl, hr⟩, hb2⟩
  have hb02 := hb1.trans (hb2.mono hb1.size)
  clear hC2 hb1 hb2 p0 HZ2
  rcases hr with hr | ⟨hr0, hek, hel⟩
  · have HB := Lib.hid (HX.out _ hb02).2.2.2.2.2
    clear hb02
    go_wp2
    go_ret
    exact ⟨rfl, HB.out⟩
  have i2 : ¬ r < 0 := by omega
  have HEk := Lib.hid hek
  have hn2 : L.length ≤ 2000000 := by omega
  have HTh : Hid (∀ W, NRow W (.slice ua h.names.length uc) h.names → Calls Tryz.prog 13 #[.agg #[.slice ua h.names.length uc, .int .i64 h.key, .int .i64 h.maxN, .int .i64 h.maxB]] W fun e w' => ∃ g, e = .returned (.agg #[.slice (some ⟨g, 0, none⟩) h.names.length h.names.length, .int .i64 h.key, .int .i64 h.maxN, .int .i64 h.maxB]) ∧ W.heap.size ≤ g ∧ SC w' g h.names.length (sget h.names) ∧ Below W.heap.size W w') := Lib.hid fun W hW => to_house h _ W hW hnl
  have HSp : Hid (∀ x y W, NRow W x h.names → ERow W y L → Calls Tryz.prog 12 #[.agg #[x, .int .i64 h.key, .int .i64 h.maxN, .int .i64 h.maxB], .agg #[y]] W fun e w' => e = .returned (.bool (okE h L)) ∧ Below W.heap.size W w') := Lib.hid fun x y W h1 h2 => spec_stook h x y L W h1 HNk.out h2 HEk.out hn2
  have HIm : Hid (∀ x y W, NRow W x h.names → ERow W y L → Cls W → Calls Tryz.prog 15 #[.agg #[x, .int .i64 h.key, .int .i64 h.maxN, .int .i64 h.maxB], .agg #[y]] W fun e w' => e = .returned (.bool (okE h L)) ∧ Below W.heap.size W w') := Lib.hid fun x y W h1 h2 hc => impl_stook h x y L W h1 HNk.out h2 HEk.out hn2 hc
  have HEh := Lib.hid fun (u1 u2 : Value) (W : World) (h1 : NRow W u1 h.names) (h2 : NRow W u2 h.names) => eq_house h u1 u2 W h1 h2
  generalize okE h L = OK at *
  have eX : (OK != OK) = false := by simp
  have eY : (OK == OK) = true := by simp
  have HB02 := Lib.hid hb02
  clear hek hb02 HNk
  go_wp2_with fail
  refine wp_region_last (by kernel_rfl) 5 (by kernel_rfl) (by kernel_rfl) (by kernel_rfl)
    (fun y8 => { tmps := #[Value.agg #[Value.slice ua h.names.length uc, Value.int IntKind.i64 h.key, Value.int IntKind.i64 h.maxN, Value.int IntKind.i64 h.maxB], Value.agg #[Value.slice va L.length vc], .pointer (some ⟨w.heap.size, 0, none⟩), .pointer (some ⟨w.heap.size + 1, 0, none⟩), .bool false, Value.int IntKind.i64 r, undef, undef, undef, undef, Value.agg #[Value.slice ua h.names.length uc, Value.int IntKind.i64 h.key, Value.int IntKind.i64 h.maxN, Value.int IntKind.i64 h.maxB], Value.int IntKind.i64 1048576, Value.int IntKind.i64 q, Value.int IntKind.i64 q, .bool (decide (q < 0)), Value.agg #[Value.slice va L.length vc], Value.int IntKind.i64 q, Value.int IntKind.i64 r, Value.int IntKind.i64 r, .bool (decide (r < 0)), y8 0, y8 1, y8 2, y8 3, y8 4, undef, undef, undef, undef, undef, undef, undef, undef, undef, undef, undef, undef, undef, undef, undef, undef, undef, undef, undef, undef], defers := [] })
    (fun _ w7 => Below w2.heap.size w2 w7)
    (fun i z w7 => match i with
      | 0 => z = .agg #[.slice ua h.names.length uc, .int .i64 h.key, .int .i64 h.maxN, .int .i64 h.maxB]
      | 1 => ∃ a2 c2, z = .agg #[.slice a2 h.names.length c2, .int .i64 h.key, .int .i64 h.maxN, .int .i64 h.maxB] ∧ NRow w7 (.slice a2 h.names.length c2) h.names
      | 2 => z = .agg #[.slice va L.length vc]
      | 3 => ∃ a2 c2, z = .agg #[.slice a2 L.length c2] ∧ ERow w7 (.slice a2 L.length c2) L
      | 4 => z = .bool OK
      | _ => True)
    (fun w7 w8 => Below w7.heap.size w7 w8) (fun _ => undef) (Below.refl _ _).drew ?_ ?_ ?_
  · intro i z w7 w8 hi hR hle
    match i, hi with
    | 0, _ =>
      exact hR
    | 1, _ =>
      obtain ⟨a2, c2, h1, h2⟩ := hR
      exact ⟨a2, c2, h1, h2.below (Nat.le_refl _) hle⟩
    | 2, _ =>
      exact hR
    | 3, _ =>
      obtain ⟨a2, c2, h1, h2⟩ := hR
      exact ⟨a2, c2, h1, h2.below (Nat.le_refl _) hle⟩
    | 4, _ =>
      exact hR
    | n + 5, hn => exact absurd hn (by omega)
  · intro i hi y8 w7 kk hkk hC hdp
    match i, hi with
    | 0, _ =>
      obtain ⟨k0, k1, k2, k3, k4, k5⟩ := HX.out w7 (HB02.out.trans (hC.mono HB02.out.size))
      obtain ⟨q0, q1, q2, q3, -⟩ := four_facts k3
      obtain ⟨p0, -⟩ := one_factE k4
      refine wpOp_step rfl (fun K hK => ?_)
      clear hdp
      go_simp
      exact hK _ _ ⟨.agg #[.slice ua h.names.length uc, .int .i64 h.key, .int .i64 h.maxN, .int .i64 h.maxB], rfl, rfl, Below.refl _ _, hC⟩
    | 1, _ =>
      obtain ⟨k0, k1, k2, k3, k4, k5⟩ := HX.out w7 (HB02.out.trans (hC.mono HB02.out.size))
      obtain ⟨q0, q1, q2, q3, -⟩ := four_facts k3
      obtain ⟨p0, -⟩ := one_factE k4
      have e0 : y8 0 = .agg #[.slice ua h.names.length uc, .int .i64 h.key, .int .i64 h.maxN, .int .i64 h.maxB] := hdp 0 (dep_of (by kernel_rfl))
      have hT := HTh.out w7 k1
      refine wpOp_step rfl (fun K hK => ?_)
      clear hdp
      go_simp
      refine hT.mono ?_
      rintro e w8 ⟨g2, rfl, hg2, ho2, hb8⟩
      exact hK _ _ ⟨_, by simp [upd, e0], ⟨_, _, rfl, ho2.row (by unfold maxLen; omega)⟩, hb8, hC.trans (hb8.mono hC.size)⟩
    | 2, _ =>
      obtain ⟨k0, k1, k2, k3, k4, k5⟩ := HX.out w7 (HB02.out.trans (hC.mono HB02.out.size))
      obtain ⟨q0, q1, q2, q3, -⟩ := four_facts k3
      obtain ⟨p0, -⟩ := one_factE k4
      refine wpOp_step rfl (fun K hK => ?_)
      clear hdp
      go_simp
      exact hK _ _ ⟨.agg #[.slice va L.length vc], rfl, rfl, Below.refl _ _, hC⟩
    | 3, _ =>
      obtain ⟨k0, k1, k2, k3, k4, k5⟩ := HX.out w7 (HB02.out.trans (hC.mono HB02.out.size))
      obtain ⟨q0, q1, q2, q3, -⟩ := four_facts k3
      obtain ⟨p0, -⟩ := one_factE k4
      have e2 : y8 2 = .agg #[.slice va L.length vc] := hdp 2 (dep_of (by kernel_rfl))
      have hT := to_store _ L w7 k2 hel
      refine wpOp_step rfl (fun K hK => ?_)
      clear hdp
      go_simp
      refine hT.mono ?_
      rintro e w8 ⟨g2, rfl, hg2, ho2, hb8⟩
      exact hK _ _ ⟨_, by simp [upd, e2], ⟨_, _, rfl, ho2.row (Nat.le_refl _) (by unfold maxLen; omega)⟩, hb8, hC.trans (hb8.mono hC.size)⟩
    | 4, _ =>
      have r1 : ∃ a2 c2, (y8 1) = .agg #[.slice a2 h.names.length c2, .int .i64 h.key, .int .i64 h.maxN, .int .i64 h.maxB] ∧ NRow w7 (.slice a2 h.names.length c2) h.names := hdp 1 (dep_of (by kernel_rfl))
      have r3 : ∃ a2 c2, (y8 3) = .agg #[.slice a2 L.length c2] ∧ ERow w7 (.slice a2 L.length c2) L := hdp 3 (dep_of (by kernel_rfl))
      obtain ⟨a1, c1, e1, hr1⟩ := r1
      obtain ⟨a3, c3, e3, hr3⟩ := r3
      have hT := HSp.out _ _ w7 hr1 hr3
      refine wpOp_step rfl (fun K hK => ?_)
      clear hdp
      go_simp
      refine hT.mono ?_
      rintro e w8 ⟨rfl, hb8⟩
      exact hK _ _ ⟨.bool OK, by simp [upd, e1, e3], rfl, hb8, hC.trans (hb8.mono hC.size)⟩
    | n + 5, hn => exact absurd hn (by omega)
  · intro y8 w7 kk hkk hC hdp
    have e4 : y8 4 = .bool OK := hdp 4 (by decide)
    refine wpOp_step rfl (fun K hK => ?_)
    clear hdp
    go_simp
    refine hK _ _ ?_
    have hb03 := HB02.out.trans (hC.mono HB02.out.size)
    clear hK K e4 hC HB02
    obtain ⟨k0, k1, k2, k3, k4, k5⟩ := HX.out _ hb03
    obtain ⟨q0, q1, q2, q3, -⟩ := four_facts k3
    obtain ⟨p0, -⟩ := one_factE k4
    have hT3 := HTh.out w7 k1
    clear k0 k1 k2 k3 k4 k5
    go_wp2_with fail
    refine hT3.mono ?_
    rintro e w4 ⟨gh, rfl, hgh, hoh, hb4⟩
    have hb04 := hb03.trans (hb4.mono hb03.size)
    obtain ⟨w4b, hw4b⟩ : ∃ x, x = w4.alloc (.cells #[.slice (some ⟨gh, 0, none⟩) h.names.length h.names.length, .int .i64 h.key, .int .i64 h.maxN, .int .i64 h.maxB] 31) := ⟨_, rfl⟩
    have hs4b : w4b.heap.size = w4.heap.size + 1 := by rw [hw4b]; simp
    have hb4b : Below w4.heap.size w4 w4b := by rw [hw4b]; exact (Below.refl _ _).alloc (Nat.le_refl _) _
    have hXh : w4b.heap[w4.heap.size]? = some (.cells #[.slice (some ⟨gh, 0, none⟩) h.names.length h.names.length, .int .i64 h.key, .int .i64 h.maxN, .int .i64 h.maxB] 31 (0, 0)) := by rw [hw4b]; exact heap_alloc_new w4 _
    have hrh := (hoh.row (by unfold maxLen; omega) : NRow w4 (.slice (some ⟨gh, 0, none⟩) h.names.length h.names.length) h.names)
    have hrh4 := hrh.below (Nat.le_refl _) hb4b
    have hb04b := hb04.trans (hb4b.mono hb04.size)
    have hz4 := hb4.size
    clear hT3 q0 q1 q2 q3 p0 hoh hb4 hrh
    obtain ⟨k0, k1, k2, k3, k4, k5⟩ := HX.out _ hb04b
    obtain ⟨p0, -⟩ := one_factE k4
    have hT5 := to_store _ L w4b k2 hel
    clear k0 k1 k2 k3 k4 k5
    rw [hw4b] at p0
    have HW4 := Lib.hid hw4b
    clear hw4b
    go_wp2_with fail
    rw [← HW4.out]
    refine hT5.mono ?_
    rintro e w5 ⟨gs, rfl, hgs, hos, hb5⟩
    have hb05 := hb04b.trans (hb5.mono hb04b.size)
    obtain ⟨w5b, hw5b⟩ : ∃ x, x = w5.alloc (.cells #[.slice (some ⟨gs, 0, none⟩) L.length L.length] 35) := ⟨_, rfl⟩
    have hs5b : w5b.heap.size = w5.heap.size + 1 := by rw [hw5b]; simp
    have hb5b : Below w5.heap.size w5 w5b := by rw [hw5b]; exact (Below.refl _ _).alloc (Nat.le_refl _) _
    have hXs : w5b.heap[w5.heap.size]? = some (.cells #[.slice (some ⟨gs, 0, none⟩) L.length L.length] 35 (0, 0)) := by rw [hw5b]; exact heap_alloc_new w5 _
    have hrs := (hos.row (Nat.le_refl _) (by unfold maxLen; omega) : ERow w5 (.slice (some ⟨gs, 0, none⟩) L.length L.length) L)
    have hrs5 := hrs.below (Nat.le_refl _) hb5b
    have hb45 := hb5.trans (hb5b.mono hb5.size)
    have hb05b := hb05.trans (hb5b.mono hb05.size)
    have hrh5 := hrh4.below (Nat.le_refl _) hb45
    have hXh5 := (hb45.block w4.heap.size (by omega)).trans hXh
    have hz5 := hb5.size
    clear hT5 p0 hos hb5 hrs hrh4 hXh hb04b
    obtain ⟨y0, y1, y2, y3, -⟩ := four_facts hXh5
    obtain ⟨x0, -⟩ := one_factE hXs
    have hI := HIm.out _ _ w5b hrh5 hrs5 (HX.out _ hb05b).1
    rw [hw5b] at y0 y1 y2 y3 x0
    have HW5 := Lib.hid hw5b
    clear hw5b HIm
    go_wp2_with fail
    rw [← HW5.out]
    refine hI.mono ?_
    rintro e w6 ⟨rfl, hb6⟩
    have hb06 := hb05b.trans (hb6.mono hb05b.size)
    have HC6 : Hid (∀ W, Below w6.heap.size w6 W → NRow W (.slice (some ⟨gh, 0, none⟩) h.names.length h.names.length) h.names ∧ ERow W (.slice (some ⟨gs, 0, none⟩) L.length L.length) L ∧ W.heap[w4.heap.size]? = some (.cells #[.slice (some ⟨gh, 0, none⟩) h.names.length h.names.length, .int .i64 h.key, .int .i64 h.maxN, .int .i64 h.maxB] 31 (0, 0)) ∧ W.heap[w5.heap.size]? = some (.cells #[.slice (some ⟨gs, 0, none⟩) L.length L.length] 35 (0, 0)) ∧ Below wA.heap.size wA W) := Lib.hid fun W hW => by
      have hbw := hb6.trans (hW.mono hb6.size)
      exact ⟨hrh5.below (Nat.le_refl _) hbw, hrs5.below (Nat.le_refl _) hbw, (hbw.block _ (by omega)).trans hXh5, (hbw.block _ (by omega)).trans hXs, hb06.trans (hW.mono hb06.size)⟩
    clear hI y0 y1 y2 y3 x0 hb6 hb05b hrh5 hrs5 hXh5 hXs hb06 hb05 hb5b hb45 hb4b hb04 hb03
    go_wp2_with fail
    refine wp_region_last (by kernel_rfl) 4 (by kernel_rfl) (by kernel_rfl) (by kernel_rfl)
      (fun y14 => { tmps := #[Value.agg #[Value.slice ua h.names.length uc, Value.int IntKind.i64 h.key, Value.int IntKind.i64 h.maxN, Value.int IntKind.i64 h.maxB], Value.agg #[Value.slice va L.length vc], .pointer (some ⟨w.heap.size, 0, none⟩), .pointer (some ⟨w.heap.size + 1, 0, none⟩), .bool false, Value.int IntKind.i64 r, .bool OK, .pointer (some ⟨w4.heap.size, 0, none⟩), .pointer (some ⟨w5.heap.size, 0, none⟩), .bool OK, Value.agg #[Value.slice ua h.names.length uc, Value.int IntKind.i64 h.key, Value.int IntKind.i64 h.maxN, Value.int IntKind.i64 h.maxB], Value.int IntKind.i64 1048576, Value.int IntKind.i64 q, Value.int IntKind.i64 q, .bool (decide (q < 0)), Value.agg #[Value.slice va L.length vc], Value.int IntKind.i64 q, Value.int IntKind.i64 r, Value.int IntKind.i64 r, .bool (decide (r < 0)), y8 0, y8 1, y8 2, y8 3, .bool OK, Value.agg #[Value.slice ua h.names.length uc, Value.int IntKind.i64 h.key, Value.int IntKind.i64 h.maxN, Value.int IntKind.i64 h.maxB], Value.agg #[Value.slice (some { block := gh, off := 0 }) h.names.length h.names.length, Value.int IntKind.i64 h.key, Value.int IntKind.i64 h.maxN, Value.int IntKind.i64 h.maxB], Value.agg #[Value.slice va L.length vc], Value.agg #[Value.slice (some { block := gs, off := 0 }) L.length L.length], Value.agg #[Value.slice (some { block := gh, off := 0 }) h.names.length h.names.length, Value.int IntKind.i64 h.key, Value.int IntKind.i64 h.maxN, Value.int IntKind.i64 h.maxB], Value.agg #[Value.slice (some { block := gs, off := 0 }) L.length L.length], .bool OK, .bool OK, .bool OK, .bool false, y14 0, y14 1, y14 2, y14 3, undef, undef, undef, undef, undef, undef], defers := [] })
      (fun _ w7 => Below w6.heap.size w6 w7)
      (fun i z w7 => match i with
        | 0 => z = .agg #[.slice (some ⟨gh, 0, none⟩) h.names.length h.names.length, .int .i64 h.key, .int .i64 h.maxN, .int .i64 h.maxB]
        | 1 => z = .agg #[.slice ua h.names.length uc, .int .i64 h.key, .int .i64 h.maxN, .int .i64 h.maxB]
        | 2 => ∃ a2 c2, z = .agg #[.slice a2 h.names.length c2, .int .i64 h.key, .int .i64 h.maxN, .int .i64 h.maxB] ∧ NRow w7 (.slice a2 h.names.length c2) h.names
        | 3 => z = .bool true
        | _ => True)
      (fun w7 w8 => Below w7.heap.size w7 w8) (fun _ => undef) (Below.refl _ _).drew ?_ ?_ ?_
    · intro i z w7 w8 hi hR hle
      match i, hi with
      | 0, _ =>
        exact hR
      | 1, _ =>
        exact hR
      | 2, _ =>
        obtain ⟨a2, c2, h1, h2⟩ := hR
        exact ⟨a2, c2, h1, h2.below (Nat.le_refl _) hle⟩
      | 3, _ =>
        exact hR
      | n + 4, hn => exact absurd hn (by omega)
    · intro i hi y14 w7 kk hkk hC hdp
      match i, hi with
      | 0, _ =>
        obtain ⟨j0, j1, j2, j3, j4⟩ := HC6.out w7 hC
        obtain ⟨y0, y1, y2, y3, -⟩ := four_facts j2
        obtain ⟨x0, -⟩ := one_factE j3
        obtain ⟨k0, k1, k2, k3, k4, k5⟩ := HX.out w7 j4
        obtain ⟨q0, q1, q2, q3, -⟩ := four_facts k3
        obtain ⟨p0, -⟩ := one_factE k4
        refine wpOp_step rfl (fun K hK => ?_)
        clear hdp
        go_simp
        exact hK _ _ ⟨.agg #[.slice (some ⟨gh, 0, none⟩) h.names.length h.names.length, .int .i64 h.key, .int .i64 h.maxN, .int .i64 h.maxB], rfl, rfl, Below.refl _ _, hC⟩
      | 1, _ =>
        obtain ⟨j0, j1, j2, j3, j4⟩ := HC6.out w7 hC
        obtain ⟨y0, y1, y2, y3, -⟩ := four_facts j2
        obtain ⟨x0, -⟩ := one_factE j3
        obtain ⟨k0, k1, k2, k3, k4, k5⟩ := HX.out w7 j4
        obtain ⟨q0, q1, q2, q3, -⟩ := four_facts k3
        obtain ⟨p0, -⟩ := one_factE k4
        refine wpOp_step rfl (fun K hK => ?_)
        clear hdp
        go_simp
        exact hK _ _ ⟨.agg #[.slice ua h.names.length uc, .int .i64 h.key, .int .i64 h.maxN, .int .i64 h.maxB], rfl, rfl, Below.refl _ _, hC⟩
      | 2, _ =>
        obtain ⟨j0, j1, j2, j3, j4⟩ := HC6.out w7 hC
        obtain ⟨y0, y1, y2, y3, -⟩ := four_facts j2
        obtain ⟨x0, -⟩ := one_factE j3
        obtain ⟨k0, k1, k2, k3, k4, k5⟩ := HX.out w7 j4
        obtain ⟨q0, q1, q2, q3, -⟩ := four_facts k3
        obtain ⟨p0, -⟩ := one_factE k4
        have e1 : y14 1 = .agg #[.slice ua h.names.length uc, .int .i64 h.key, .int .i64 h.maxN, .int .i64 h.maxB] := hdp 1 (dep_of (by kernel_rfl))
        have hT := HTh.out w7 k1
        refine wpOp_step rfl (fun K hK => ?_)
        clear hdp
        go_simp
        refine hT.mono ?_
        rintro e w8 ⟨g2, rfl, hg2, ho2, hb8⟩
        exact hK _ _ ⟨_, by simp [upd, e1], ⟨_, _, rfl, ho2.row (by unfold maxLen; omega)⟩, hb8, hC.trans (hb8.mono hC.size)⟩
      | 3, _ =>
        have e0 : y14 0 = .agg #[.slice (some ⟨gh, 0, none⟩) h.names.length h.names.length, .int .i64 h.key, .int .i64 h.maxN, .int .i64 h.maxB] := hdp 0 (dep_of (by kernel_rfl))
        have r2 : ∃ a2 c2, (y14 2) = .agg #[.slice a2 h.names.length c2, .int .i64 h.key, .int .i64 h.maxN, .int .i64 h.maxB] ∧ NRow w7 (.slice a2 h.names.length c2) h.names := hdp 2 (dep_of (by kernel_rfl))
        obtain ⟨a2, c2, e2, hr2⟩ := r2
        obtain ⟨j0, j1, j2, j3, j4⟩ := HC6.out w7 hC
        have hT := HEh.out _ _ w7 j0 hr2
        refine wpOp_step rfl (fun K hK => ?_)
        clear hdp
        go_simp
        refine hT.mono ?_
        rintro e w8 ⟨rfl, hb8⟩
        exact hK _ _ ⟨.bool true, by simp [upd, e0, e2], rfl, hb8, hC.trans (hb8.mono hC.size)⟩
      | n + 4, hn => exact absurd hn (by omega)
    · intro y14 w7 kk hkk hC hdp
      have e3 : y14 3 = .bool true := hdp 3 (by decide)
      refine wpOp_step rfl (fun K hK => ?_)
      clear hdp
      go_simp
      refine hK _ _ ?_
      have HC7 : Hid (Below w6.heap.size w6 w7) := Lib.hid hC
      clear hK K e3 hC
      go_wp2_with fail
      obtain ⟨w6b, hw6b⟩ : ∃ x, x = w7 := ⟨_, rfl⟩
      rw [← hw6b] at HC7 ⊢
      clear hw6b
      refine wp_region_last (by kernel_rfl) 4 (by kernel_rfl) (by kernel_rfl) (by kernel_rfl)
        (fun y16 => { tmps := #[Value.agg #[Value.slice ua h.names.length uc, Value.int IntKind.i64 h.key, Value.int IntKind.i64 h.maxN, Value.int IntKind.i64 h.maxB], Value.agg #[Value.slice va L.length vc], .pointer (some ⟨w.heap.size, 0, none⟩), .pointer (some ⟨w.heap.size + 1, 0, none⟩), .bool false, Value.int IntKind.i64 r, .bool OK, .pointer (some ⟨w4.heap.size, 0, none⟩), .pointer (some ⟨w5.heap.size, 0, none⟩), .bool OK, Value.agg #[Value.slice ua h.names.length uc, Value.int IntKind.i64 h.key, Value.int IntKind.i64 h.maxN, Value.int IntKind.i64 h.maxB], Value.int IntKind.i64 1048576, Value.int IntKind.i64 q, Value.int IntKind.i64 q, .bool (decide (q < 0)), Value.agg #[Value.slice va L.length vc], Value.int IntKind.i64 q, Value.int IntKind.i64 r, Value.int IntKind.i64 r, .bool (decide (r < 0)), y8 0, y8 1, y8 2, y8 3, .bool OK, Value.agg #[Value.slice ua h.names.length uc, Value.int IntKind.i64 h.key, Value.int IntKind.i64 h.maxN, Value.int IntKind.i64 h.maxB], Value.agg #[Value.slice (some { block := gh, off := 0 }) h.names.length h.names.length, Value.int IntKind.i64 h.key, Value.int IntKind.i64 h.maxN, Value.int IntKind.i64 h.maxB], Value.agg #[Value.slice va L.length vc], Value.agg #[Value.slice (some { block := gs, off := 0 }) L.length L.length], Value.agg #[Value.slice (some { block := gh, off := 0 }) h.names.length h.names.length, Value.int IntKind.i64 h.key, Value.int IntKind.i64 h.maxN, Value.int IntKind.i64 h.maxB], Value.agg #[Value.slice (some { block := gs, off := 0 }) L.length L.length], .bool OK, .bool OK, .bool OK, .bool false, y14 0, y14 1, y14 2, .bool true, .bool false, y16 0, y16 1, y16 2, y16 3, undef], defers := [] })
        (fun _ w7 => Below w6b.heap.size w6b w7)
        (fun i z w7 => match i with
          | 0 => z = .agg #[.slice (some ⟨gs, 0, none⟩) L.length L.length]
          | 1 => z = .agg #[.slice va L.length vc]
          | 2 => ∃ a2 c2, z = .agg #[.slice a2 L.length c2] ∧ ERow w7 (.slice a2 L.length c2) L
          | 3 => z = .bool true
          | _ => True)
        (fun w7 w8 => Below w7.heap.size w7 w8) (fun _ => undef) (Below.refl _ _).drew ?_ ?_ ?_
      · intro i z w7 w8 hi hR hle
        match i, hi with
        | 0, _ =>
          exact hR
        | 1, _ =>
          exact hR
        | 2, _ =>
          obtain ⟨a2, c2, h1, h2⟩ := hR
          exact ⟨a2, c2, h1, h2.below (Nat.le_refl _) hle⟩
        | 3, _ =>
          exact hR
        | n + 4, hn => exact absurd hn (by omega)
      · intro i hi y16 w7 kk hkk hC hdp
        match i, hi with
        | 0, _ =>
          obtain ⟨j0, j1, j2, j3, j4⟩ := HC6.out w7 (HC7.out.trans (hC.mono HC7.out.size))
          obtain ⟨y0, y1, y2, y3, -⟩ := four_facts j2
          obtain ⟨x0, -⟩ := one_factE j3
          obtain ⟨k0, k1, k2, k3, k4, k5⟩ := HX.out w7 j4
          obtain ⟨q0, q1, q2, q3, -⟩ := four_facts k3
          obtain ⟨p0, -⟩ := one_factE k4
          refine wpOp_step rfl (fun K hK => ?_)
          clear hdp
          go_simp
          exact hK _ _ ⟨.agg #[.slice (some ⟨gs, 0, none⟩) L.length L.length], rfl, rfl, Below.refl _ _, hC⟩
        | 1, _ =>
          obtain ⟨j0, j1, j2, j3, j4⟩ := HC6.out w7 (HC7.out.trans (hC.mono HC7.out.size))
          obtain ⟨y0, y1, y2, y3, -⟩ := four_facts j2
          obtain ⟨x0, -⟩ := one_factE j3
          obtain ⟨k0, k1, k2, k3, k4, k5⟩ := HX.out w7 j4
          obtain ⟨q0, q1, q2, q3, -⟩ := four_facts k3
          obtain ⟨p0, -⟩ := one_factE k4
          refine wpOp_step rfl (fun K hK => ?_)
          clear hdp
          go_simp
          exact hK _ _ ⟨.agg #[.slice va L.length vc], rfl, rfl, Below.refl _ _, hC⟩
        | 2, _ =>
          obtain ⟨j0, j1, j2, j3, j4⟩ := HC6.out w7 (HC7.out.trans (hC.mono HC7.out.size))
          obtain ⟨y0, y1, y2, y3, -⟩ := four_facts j2
          obtain ⟨x0, -⟩ := one_factE j3
          obtain ⟨k0, k1, k2, k3, k4, k5⟩ := HX.out w7 j4
          obtain ⟨q0, q1, q2, q3, -⟩ := four_facts k3
          obtain ⟨p0, -⟩ := one_factE k4
          have e1 : y16 1 = .agg #[.slice va L.length vc] := hdp 1 (dep_of (by kernel_rfl))
          have hT := to_store _ L w7 k2 hel
          refine wpOp_step rfl (fun K hK => ?_)
          clear hdp
          go_simp
          refine hT.mono ?_
          rintro e w8 ⟨g2, rfl, hg2, ho2, hb8⟩
          exact hK _ _ ⟨_, by simp [upd, e1], ⟨_, _, rfl, ho2.row (Nat.le_refl _) (by unfold maxLen; omega)⟩, hb8, hC.trans (hb8.mono hC.size)⟩
        | 3, _ =>
          have e0 : y16 0 = .agg #[.slice (some ⟨gs, 0, none⟩) L.length L.length] := hdp 0 (dep_of (by kernel_rfl))
          have r2 : ∃ a2 c2, (y16 2) = .agg #[.slice a2 L.length c2] ∧ ERow w7 (.slice a2 L.length c2) L := hdp 2 (dep_of (by kernel_rfl))
          obtain ⟨a2, c2, e2, hr2⟩ := r2
          obtain ⟨j0, j1, j2, j3, j4⟩ := HC6.out w7 (HC7.out.trans (hC.mono HC7.out.size))
          have hT := eq_store _ _ L w7 j1 hr2 (by omega)
          refine wpOp_step rfl (fun K hK => ?_)
          clear hdp
          go_simp
          refine hT.mono ?_
          rintro e w8 ⟨rfl, hb8⟩
          exact hK _ _ ⟨.bool true, by simp [upd, e0, e2], rfl, hb8, hC.trans (hb8.mono hC.size)⟩
        | n + 4, hn => exact absurd hn (by omega)
      · intro y16 w7 kk hkk hC hdp
        have e3 : y16 3 = .bool true := hdp 3 (by decide)
        refine wpOp_step rfl (fun K hK => ?_)
        clear hdp
        go_simp
        refine hK _ _ ?_
        have hfin := (HX.out _ (HC6.out w7 (HC7.out.trans (hC.mono HC7.out.size))).2.2.2.2).2.2.2.2.2
        clear hK K e3 hC HC6 HC7
        go_wp2
        go_ret
        exact ⟨rfl, hfin⟩

namespace Lw
theorem fnExactStoOk (w : World) (hL : laidMetH Tryz.prog Rows.fnExactStoOkRow.laid w) (u0 : Value) (h : Hs) (hS : NRow w u0 h.names) (hN : NOk h.names maxLen) (v : Value) (L : List En) (hR : ERow w v L) (hE : EnsOk maxLen L) :
    Calls Tryz.prog 3 #[.agg #[u0, .int .i64 h.key, .int .i64 h.maxN, .int .i64 h.maxB], .agg #[v]] w fun e w' => e = .returned (.bool true) ∧ Below w.heap.size w w' := law_stook h u0 v L w hS hN hR hE (cls_of_head hL)
end Lw
end Go.Proofs.YtbhnjnoblkfckaaGreatDoor
