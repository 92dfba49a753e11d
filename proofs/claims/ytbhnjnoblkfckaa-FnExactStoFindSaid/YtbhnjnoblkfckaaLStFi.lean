/- The law on what is found in storage, exact. -/
import Derived.Test.YtbhnjnoblkfckaaStSt
import Derived.Test.YtbhnjnoblkfckaaStOp
import Derived.Test.YtbhnjnoblkfckaaStFi
import Derived.Test.YtbhnjnoblkfckaaReg
import Derived.Deep.RegionLawGrows
namespace Go.Proofs.Ytbhnjnoblkfckaa
open Go.RowKit Go.Maps

set_option maxRecDepth 100000 in
set_option maxHeartbeats 6400000 in
theorem law_stofind (L : List En) (v : Value) (p : ByteArray) (m : Int) (w : World) (hR : ERow w v L) (hN : EnsOk maxLen L) (hp : p.size ≤ maxLen) (hm : (Lit.int .i64 m).wf = true) :
    Calls Try.prog 3 #[.agg #[v], .string p, .int .i64 m] w fun e w' => e = .returned (.bool true) ∧ Below w.heap.size w w' := by
  obtain ⟨wA, hwA⟩ : ∃ wA, wA = w.alloc (.cells #[v] 24) := ⟨_, rfl⟩
  have hsA : wA.heap.size = w.heap.size + 1 := by rw [hwA]; simp
  have hbA : Below w.heap.size w wA := by rw [hwA]; exact (Below.refl _ _).alloc (Nat.le_refl _) _
  have hX0 : wA.heap[w.heap.size]? = some (.cells #[v] 24 (0, 0)) := by rw [hwA]; exact heap_alloc_new w _
  have HX : Hid (∀ W, Below wA.heap.size wA W → ERow W v L ∧ Below w.heap.size w W ∧ W.heap[w.heap.size]? = some (.cells #[v] 24 (0, 0))) := Lib.hid fun W hW => by
    have hb := hbA.trans (hW.mono (by omega))
    exact ⟨hR.below (Nat.le_refl _) hb, hb, (hW.block w.heap.size (by omega)).trans hX0⟩
  have hb0 : Below wA.heap.size wA wA := Below.refl _ _
  have hSz := sz_store v L wA (HX.out _ hb0).1 hN
  obtain ⟨va, vc, rfl, _⟩ := hR
  obtain ⟨t0, _⟩ := one_factE hX0
  rw [hwA] at t0
  have HW := Lib.hid hwA
  clear hwA hbA hX0 hN
  have HP := Lib.hid hp
  unfold maxLen at hp
  by_cases hps : (1048576 : Int) < (p.size : Int)
  · have HB := Lib.hid (HX.out _ hb0).2.1
    clear hSz hb0 HX HP
    go_enter Try.func3, Try.ntmps3
    go_wp2
    go_ret
    rw [← HW.out]
    exact ⟨rfl, HB.out⟩
  go_enter Try.func3, Try.ntmps3
  go_wp2_with fail
  rw [← HW.out]
  refine hSz.mono ?_
  rintro e w1 ⟨⟨r, rfl, hr⟩, hb1⟩
  clear hSz hb0 t0
  rcases hr with hr | ⟨hr, hz, hn⟩
  · have HB := Lib.hid (HX.out _ hb1).2.1
    clear hb1
    go_wp2
    go_ret
    exact ⟨rfl, HB.out⟩
  have i1 : ¬ r < 0 := by omega
  have HZ := Lib.hid hz
  clear hz
  have hn2 : L.length ≤ 2000000 := by omega
  obtain ⟨k2, k3, k4⟩ := HX.out _ hb1
  obtain ⟨q0, _⟩ := one_factE k4
  have hT1 := to_store _ L w1 k2 hn
  clear k2 k3 k4
  go_wp2_with fail
  refine hT1.mono ?_
  rintro e w2 ⟨g1, rfl, hg1, ho1, hb2⟩
  have hb02 := hb1.trans (hb2.mono hb1.size)
  have hS2 := spec_stofind _ L p m w2 (ho1.row (Nat.le_refl _) (by unfold maxLen; omega))
  clear hb1 hb2 hT1 ho1 q0
  obtain ⟨n, hnn⟩ : ∃ n : Int, n = foundI L p m := ⟨_, rfl⟩
  rw [← hnn] at hS2
  have HL := Lib.hid hnn
  clear hnn
  go_wp2_with fail
  refine hS2.mono ?_
  rintro e w3 ⟨rfl, hb3⟩
  have hb03 := hb02.trans (hb3.mono hb02.size)
  have hz3 := hb03.size
  obtain ⟨k2, k3, k4⟩ := HX.out _ hb03
  obtain ⟨q0, _⟩ := one_factE k4
  have hT3 := to_store _ L w3 k2 hn
  clear hS2 hb3 hb02 k2 k3 k4
  go_wp2_with fail
  refine hT3.mono ?_
  rintro e w4 ⟨gx, rfl, hgx, ho4, hb4⟩
  have hz4 := hb4.size
  obtain ⟨w4b, hw4b⟩ : ∃ x, x = w4.alloc (.cells #[.slice (some ⟨gx, 0, none⟩) L.length L.length] 29) := ⟨_, rfl⟩
  have hs4b : w4b.heap.size = w4.heap.size + 1 := by rw [hw4b]; simp
  have hb4b : Below w4.heap.size w4 w4b := by rw [hw4b]; exact (Below.refl _ _).alloc (Nat.le_refl _) _
  have hX7 : w4b.heap[w4.heap.size]? = some (.cells #[.slice (some ⟨gx, 0, none⟩) L.length L.length] 29 (0, 0)) := by rw [hw4b]; exact heap_alloc_new w4 _
  have hD4 := hb03.trans ((hb4.trans (hb4b.mono hz4)).mono hz3)
  have hrx := (ho4.row (Nat.le_refl _) (by unfold maxLen; omega) : ERow w4 (.slice (some ⟨gx, 0, none⟩) L.length L.length) L)
  have hrx4 := hrx.below (Nat.le_refl _) hb4b
  have hI4 := impl_stofind _ L p m w4b hrx4 HZ.out hn2 HP.out hm
  rw [← HL.out] at hI4
  obtain ⟨q1, _⟩ := one_factE hX7
  rw [hw4b] at q1
  have HW4 := Lib.hid hw4b
  clear hw4b hb4 ho4 hT3 hrx hb4b hb03 q0
  go_wp2_with fail
  rw [← HW4.out]
  refine hI4.mono ?_
  rintro e w6 ⟨rfl, hb6⟩
  have hz6 := hb6.size
  have hD6 := hD4.trans (hb6.mono hD4.size)
  have hX76 := (hb6.block w4.heap.size (by omega)).trans hX7
  have hF6 := hrx4.below (Nat.le_refl _) hb6
  have HC6 : Hid (∀ W, Below w6.heap.size w6 W → ERow W (.slice (some ⟨gx, 0, none⟩) L.length L.length) L ∧ ERow W (.slice va L.length vc) L ∧ W.heap[w.heap.size]? = some (.cells #[.slice va L.length vc] 24 (0, 0)) ∧ W.heap[w4.heap.size]? = some (.cells #[.slice (some ⟨gx, 0, none⟩) L.length L.length] 29 (0, 0))) := Lib.hid fun W hW => by
    obtain ⟨k2, _, k4⟩ := HX.out W (hD6.trans (hW.mono hD6.size))
    exact ⟨hF6.below (Nat.le_refl _) hW, k2, k4, (hW.block w4.heap.size (by omega)).trans hX76⟩
  clear hI4 hrx4 hX7 hD4 hb6 hF6 q1
  go_wp2_with fail
  refine wp_region_last (by kernel_rfl) 4 (by kernel_rfl) (by kernel_rfl) (by kernel_rfl)
    (fun u => { tmps := #[Value.agg #[Value.slice va L.length vc], .string p, .int .i64 m, .pointer (some ⟨w.heap.size, 0, none⟩), undef, undef, .bool false, .int .i64 r, .int .i64 n, .pointer (some ⟨w4.heap.size, 0, none⟩), .int .i64 n, .string p, .int .i64 (p.size : Int), .bool false, Value.agg #[Value.slice va L.length vc], .int .i64 1048576, .int .i64 r, .int .i64 r, .bool (decide (r < 0)), Value.agg #[Value.slice va L.length vc], Value.agg #[Value.slice (some { block := g1, off := 0 }) L.length L.length], .string p, .int .i64 m, .int .i64 n, Value.agg #[Value.slice va L.length vc], Value.agg #[Value.slice (some { block := gx, off := 0 }) L.length L.length], Value.agg #[Value.slice (some { block := gx, off := 0 }) L.length L.length], .string p, .int .i64 m, .int .i64 n, .int .i64 n, .int .i64 n, .bool false, u 0, u 1, u 2, u 3, undef], defers := [] })
    (fun _ w7 => Below w6.heap.size w6 w7)
    (fun i z w7 => match i with
      | 0 => z = .agg #[.slice (some ⟨gx, 0, none⟩) L.length L.length]
      | 1 => z = .agg #[.slice va L.length vc]
      | 2 => ∃ a2 c2, z = .agg #[.slice a2 L.length c2] ∧ ERow w7 (.slice a2 L.length c2) L
      | 3 => z = .bool true
      | _ => True)
    (fun w7 w8 => Below w7.heap.size w7 w8) (fun _ => undef) (Below.refl _ _).drew ?_ ?_ ?_
  · intro i z w7 w8 hi hR hle
    match i, hi with
    | 0, _ =>
      exact hR
    | 1, _ =>
      exact hR
    | 2, _ =>
      obtain ⟨a2, c2, h1, h2⟩ := hR
      exact ⟨a2, c2, h1, h2.below (Nat.le_refl _) hle⟩
    | 3, _ =>
      exact hR
    | n + 4, hn => exact absurd hn (by omega)
  · intro i hi u w7 kk hkk hC hdp
    match i, hi with
    | 0, _ =>
      obtain ⟨k1, k2, k4, k5⟩ := HC6.out w7 hC
      obtain ⟨q0, _⟩ := one_factE k4
      obtain ⟨t0, _⟩ := one_factE k5
      refine wpOp_step rfl (fun K hK => ?_)
      clear hdp
      go_simp
      exact hK _ _ ⟨.agg #[.slice (some ⟨gx, 0, none⟩) L.length L.length], rfl, rfl, Below.refl _ _, hC⟩
    | 1, _ =>
      obtain ⟨k1, k2, k4, k5⟩ := HC6.out w7 hC
      obtain ⟨q0, _⟩ := one_factE k4
      obtain ⟨t0, _⟩ := one_factE k5
      refine wpOp_step rfl (fun K hK => ?_)
      clear hdp
      go_simp
      exact hK _ _ ⟨.agg #[.slice va L.length vc], rfl, rfl, Below.refl _ _, hC⟩
    | 2, _ =>
      obtain ⟨k1, k2, k4, k5⟩ := HC6.out w7 hC
      obtain ⟨q0, _⟩ := one_factE k4
      obtain ⟨t0, _⟩ := one_factE k5
      have e1 : u 1 = .agg #[.slice va L.length vc] := hdp 1 (dep_of (by kernel_rfl))
      have hT := to_store _ L w7 k2 hn
      refine wpOp_step rfl (fun K hK => ?_)
      clear hdp
      go_simp
      refine hT.mono ?_
      rintro e w8 ⟨g2, rfl, hg2, ho2, hb8⟩
      exact hK _ _ ⟨_, by simp [upd, e1], ⟨_, _, rfl, ho2.row (Nat.le_refl _) (by unfold maxLen; omega)⟩, hb8, hC.trans (hb8.mono hC.size)⟩
    | 3, _ =>
      have e0 : u 0 = .agg #[.slice (some ⟨gx, 0, none⟩) L.length L.length] := hdp 0 (dep_of (by kernel_rfl))
      have r2 : ∃ a2 c2, (u 2) = .agg #[.slice a2 L.length c2] ∧ ERow w7 (.slice a2 L.length c2) L := hdp 2 (dep_of (by kernel_rfl))
      obtain ⟨a2, c2, e2, hr2⟩ := r2
      obtain ⟨k1, k2, k4, k5⟩ := HC6.out w7 hC
      have hE := eq_store _ _ L w7 k1 hr2 (by omega)
      refine wpOp_step rfl (fun K hK => ?_)
      clear hdp
      go_simp
      refine hE.mono ?_
      rintro e w8 ⟨rfl, hb8⟩
      exact hK _ _ ⟨_, by simp [upd, e0, e2], rfl, hb8, hC.trans (hb8.mono hC.size)⟩
    | n + 4, hn => exact absurd hn (by omega)
  · intro u w7 kk hkk hC hdp
    have e3 : u 3 = .bool true := hdp 3 (by decide)
    refine wpOp_step rfl (fun K hK => ?_)
    clear hdp
    go_simp
    refine hK _ _ ?_
    have hfin := (HX.out _ (hD6.trans (hC.mono hD6.size))).2.1
    clear hK K e3 HC6 hD6 hX76 hC
    go_wp2
    go_ret
    exact ⟨rfl, hfin⟩

namespace Lw
theorem fnExactStoFind (w : World) (v : Value) (L : List En) (hR : ERow w v L) (hN : EnsOk maxLen L) (p : ByteArray) (hp : p.size ≤ maxLen) (m : Int) (hm : (Lit.int .i64 m).wf = true) :
    Calls Try.prog 3 #[.agg #[v], .string p, .int .i64 m] w fun e w' => e = .returned (.bool true) ∧ Below w.heap.size w w' := law_stofind L v p m w hR hN hp hm
end Lw
end Go.Proofs.Ytbhnjnoblkfckaa
