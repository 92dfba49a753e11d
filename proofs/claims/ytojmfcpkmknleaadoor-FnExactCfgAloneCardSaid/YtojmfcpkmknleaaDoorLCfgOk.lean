/- The laws on houses and where names lead, exact. -/
import Derived.Test.YtojmfcpkmknleaaDoorCfgE4
import Derived.Test.YtojmfcpkmknleaaDoorLaid
namespace Go.Proofs.YtojmfcpkmknleaaDoor
open Go.RowKit Go.Maps

def Steady (R : Value → World → Prop) : Prop := ∀ v w w', R v w → Below w.heap.size w w' → R v w'
theorem steady_eq (x : Value) : Steady (REq x) := fun _ _ _ h _ => h
def SteadyAll : List (Value → World → Prop) → Prop
  | [] => True
  | r :: rs => Steady r ∧ SteadyAll rs
theorem steady_at : ∀ {Rs : List (Value → World → Prop)} {i : Nat}, SteadyAll Rs → Steady (RAt Rs i)
  | [], i, _ => fun _ _ _ _ _ => by simp [RAt]
  | r :: rs, 0, h => by simpa [RAt] using h.1
  | r :: rs, i + 1, h => by simpa [RAt] using steady_at (Rs := rs) (i := i) h.2


/-- A value that holds such houses. -/
def RCf (hs : List Hs) (v : Value) (w : World) : Prop := ∃ a c, v = .agg #[.slice a hs.length c] ∧ HRow w (.slice a hs.length c) hs
theorem steady_cf (hs : List Hs) : ∀ v w w', RCf hs v w → Below w.heap.size w w' → RCf hs v w' := fun _ _ _ ⟨a, c, e, h⟩ hb => ⟨a, c, e, h.below (Nat.le_refl _) hb⟩
theorem HOks.mono {hs : List Hs} {K K' : Nat} (h : HOks hs K) (hK : K ≤ K') : HOks hs K' := fun x hx s hs => Nat.le_trans (h x hx s hs) hK

set_option maxRecDepth 100000 in
set_option maxHeartbeats 3200000 in
theorem law_cfgok (hs : List Hs) (v : Value) (w : World) (hH : HRow w v hs) (hN : HOks hs maxLen) (hcls : Cls w) :
    Calls Tryd.prog 6 #[.agg #[v]] w fun e w' => e = .returned (.bool true) ∧ Below w.heap.size w w' := by
  obtain ⟨wA, hwA⟩ : ∃ wA, wA = w.alloc (.cells #[v] 41) := ⟨_, rfl⟩
  have hsA : wA.heap.size = w.heap.size + 1 := by rw [hwA]; simp
  have hbA : Below w.heap.size w wA := by rw [hwA]; exact (Below.refl _ _).alloc (Nat.le_refl _) _
  have hX0 : wA.heap[w.heap.size]? = some (.cells #[v] 41 (0, 0)) := by rw [hwA]; exact heap_alloc_new w _
  have HX : Hid (∀ W, Below wA.heap.size wA W → Cls W ∧ HRow W v hs ∧ Below w.heap.size w W ∧ W.heap[w.heap.size]? = some (.cells #[v] 41 (0, 0))) := Lib.hid fun W hW => by
    have hb := hbA.trans (hW.mono (by omega))
    exact ⟨hcls.below hb (Nat.le_refl _), hH.below (Nat.le_refl _) hb, hb, (hW.block w.heap.size (by omega)).trans hX0⟩
  have hb0 : Below wA.heap.size wA wA := Below.refl _ _
  have hSz := sz_cfg v hs wA (HX.out _ hb0).2.1 hN
  obtain ⟨va, vc, rfl, _⟩ := hH
  obtain ⟨t0, _⟩ := one_fact hX0
  rw [hwA] at t0
  have HW := Lib.hid hwA
  clear hwA hbA hX0 hN hcls
  go_enter Tryd.func6, Tryd.ntmps6
  go_wp2_with fail
  rw [← HW.out]
  refine hSz.mono ?_
  rintro e w1 ⟨⟨r, rfl, hr⟩, hb1⟩
  clear hSz hb0 t0
  rcases hr with hr | ⟨hr, hz, hn, hm⟩
  · have HB := Lib.hid (HX.out _ hb1).2.2.1
    clear hb1
    go_wp2
    go_ret
    exact ⟨rfl, HB.out⟩
  have i1 : ¬ r < 0 := by omega
  have HZ := Lib.hid hz
  have HM := Lib.hid hm
  clear hz hm
  obtain ⟨k1, k2, k3, k4⟩ := HX.out _ hb1
  obtain ⟨q0, _⟩ := one_fact k4
  have hT1 := to_cfg _ hs w1 k2 hn HM.out
  clear k1 k2 k3 k4
  go_wp2_with fail
  refine hT1.mono ?_
  rintro e w2 ⟨g1, G1, rfl, ho1, hb2⟩
  have hb02 := hb1.trans (hb2.mono hb1.size)
  have hS2 := spec_cfgok hs _ w2 (ho1.row hn HM.out) HZ.out
  clear hb1 hb2 hT1 ho1 q0
  go_wp2_with fail
  refine hS2.mono ?_
  rintro e w3 ⟨rfl, hb3⟩
  have hb03 := hb02.trans (hb3.mono hb02.size)
  clear hb3 hS2 hb02
  obtain ⟨k1, k2, k3, k4⟩ := HX.out _ hb03
  obtain ⟨q0, _⟩ := one_fact k4
  have hT3 := to_cfg _ hs w3 k2 hn HM.out
  clear k1 k2 k3 k4
  go_wp2_with fail
  refine hT3.mono ?_
  rintro e w4 ⟨g, G, rfl, ho4, hb4⟩
  have hb04 := hb03.trans (hb4.mono hb03.size)
  obtain ⟨w5, hw5⟩ : ∃ w5, w5 = w4.alloc (.cells #[.slice (some ⟨g, 0, none⟩) hs.length hs.length] 25) := ⟨_, rfl⟩
  have hs5 : w5.heap.size = w4.heap.size + 1 := by rw [hw5]; simp
  have hb45 : Below w4.heap.size w4 w5 := by rw [hw5]; exact (Below.refl _ _).alloc (Nat.le_refl _) _
  have hX5 : w5.heap[w4.heap.size]? = some (.cells #[.slice (some ⟨g, 0, none⟩) hs.length hs.length] 25 (0, 0)) := by rw [hw5]; exact heap_alloc_new w4 _
  have ho5 := ho4.below (Nat.le_refl _) hb45
  have hb05 := hb04.trans (hb45.mono hb04.size)
  obtain ⟨k1, k2, k3, k4⟩ := HX.out _ hb05
  have hI5 := impl_cfgok hs _ w5 (ho5.row hn HM.out) HZ.out k1
  obtain ⟨p0, _⟩ := one_fact hX5
  rw [hw5] at p0
  have HW5 := Lib.hid hw5
  clear k1 k2 k3 k4 hw5 ho4 hb04 hb45 hb4 hT3 hb03 q0
  go_wp2_with fail
  rw [← HW5.out]
  refine hI5.mono ?_
  rintro e w6 ⟨rfl, hb6⟩
  have hb06 := hb05.trans (hb6.mono hb05.size)
  have hX6 := (hb6.block w4.heap.size (by omega)).trans hX5
  have ho6 := ho5.below (Nat.le_refl _) hb6
  have hs6 := hb6.size
  clear hI5 hb05 hX5 ho5 hb6 p0
  have eX : (cfgB hs != cfgB hs) = false := by cases cfgB hs <;> rfl
  go_wp2_with fail
  have hF6 := ho6.row hn HM.out
  have HC6 : Hid (∀ W, Below w6.heap.size w6 W → HRow W (.slice (some ⟨g, 0, none⟩) hs.length hs.length) hs ∧ HRow W (.slice va hs.length vc) hs ∧ Below w.heap.size w W ∧ W.heap[w.heap.size]? = some (.cells #[.slice va hs.length vc] 41 (0, 0)) ∧ W.heap[w4.heap.size]? = some (.cells #[.slice (some ⟨g, 0, none⟩) hs.length hs.length] 25 (0, 0))) := Lib.hid fun W hW => by
    obtain ⟨k1, k2, k3, k4⟩ := HX.out _ (hb06.trans (hW.mono hb06.size))
    exact ⟨hF6.below (Nat.le_refl _) hW, k2, k3, k4, (hW.block w4.heap.size (by omega)).trans hX6⟩
  clear hF6 hX6 ho6 hb06
  refine wp_region_last (by kernel_rfl) 4 (by kernel_rfl) (by kernel_rfl) (by kernel_rfl)
    (fun u => { tmps := #[.agg #[.slice va hs.length vc], .pointer (some ⟨w.heap.size, 0, none⟩), .bool false, .int .i64 r, .bool (cfgB hs), .pointer (some ⟨w4.heap.size, 0, none⟩), .bool (cfgB hs), .agg #[.slice va hs.length vc], .int .i64 1048576, .int .i64 r, .int .i64 r, .bool (decide (r < 0)), .agg #[.slice va hs.length vc], .agg #[.slice (some ⟨g1, 0, none⟩) hs.length hs.length], .bool (cfgB hs), .agg #[.slice va hs.length vc], .agg #[.slice (some ⟨g, 0, none⟩) hs.length hs.length], .agg #[.slice (some ⟨g, 0, none⟩) hs.length hs.length], .bool (cfgB hs), .bool (cfgB hs), .bool (cfgB hs), .bool false, u 0, u 1, u 2, u 3, undef], defers := [] })
    (fun _ W => Below w6.heap.size w6 W)
    (RAt [REq (.agg #[.slice (some ⟨g, 0, none⟩) hs.length hs.length]), REq (.agg #[.slice va hs.length vc]), RCf hs, REq (.bool true)])
    (fun w w' => Below w.heap.size w w') (fun _ => undef) (Below.refl _ _).drew
    (fun i v w w' _ hR hle => steady_at (by exact ⟨steady_eq _, steady_eq _, steady_cf hs, steady_eq _, trivial⟩) v w w' hR hle) ?_ ?_
  · intro i hi u w7 kk hkk hC hd
    obtain ⟨k1, k2, k3, k4, k5⟩ := HC6.out _ hC
    obtain ⟨q0, _⟩ := one_fact k4
    obtain ⟨t0, _⟩ := one_fact k5
    match i, hi with
    | 0, _ =>
      refine wpOp_step rfl (fun K hK => ?_)
      clear hd
      go_simp
      exact hK _ _ ⟨_, rfl, rfl, Below.refl _ _, hC⟩
    | 1, _ =>
      refine wpOp_step rfl (fun K hK => ?_)
      clear hd
      go_simp
      exact hK _ _ ⟨_, rfl, rfl, Below.refl _ _, hC⟩
    | 2, _ =>
      have e1 : u 1 = .agg #[.slice va hs.length vc] := hd 1 (dep_of (by kernel_rfl))
      have hT := to_cfg _ hs w7 k2 hn HM.out
      refine wpOp_step rfl (fun K hK => ?_)
      clear hd
      go_simp
      refine hT.mono ?_
      rintro e w8 ⟨g2, G2, rfl, ho8, hb8⟩
      exact hK _ _ ⟨_, by simp [upd, e1], ⟨_, _, rfl, ho8.row hn HM.out⟩, hb8, hC.trans (hb8.mono hC.size)⟩
    | 3, _ =>
      have e0 : u 0 = .agg #[.slice (some ⟨g, 0, none⟩) hs.length hs.length] := hd 0 (dep_of (by kernel_rfl))
      obtain ⟨a2, c2, e2, hr2⟩ : RCf hs (u 2) w7 := hd 2 (dep_of (by kernel_rfl))
      have hE := eq_cfg _ _ hs w7 k1 hr2
      refine wpOp_step rfl (fun K hK => ?_)
      clear hd
      go_simp
      refine hE.mono ?_
      rintro e w8 ⟨rfl, hb8⟩
      exact hK _ _ ⟨_, by simp [upd, e0, e2], rfl, hb8, hC.trans (hb8.mono hC.size)⟩
  · intro u w7 kk hkk hC hd
    have e3 : u 3 = .bool true := hd 3 (by decide)
    have HB := Lib.hid (HC6.out _ hC).2.2.1
    refine wpOp_step rfl (fun K hK => ?_)
    clear hd
    go_simp
    refine hK _ _ ?_
    clear hK K hC e3
    go_wp2
    go_ret
    exact ⟨rfl, HB.out⟩

namespace Lw
theorem fnExactCfgOk (w : World) (hL : laidMetH Tryd.prog Rows.fnExactCfgOkRow.laid w) (v : Value) (hs : List Hs) (hH : HRow w v hs) (hN : HOks hs maxLen) :
    Calls Tryd.prog 6 #[.agg #[v]] w fun e w' => e = .returned (.bool true) ∧ Below w.heap.size w w' :=
  law_cfgok hs v w hH hN (cls_of_head hL)
end Lw
end Go.Proofs.YtojmfcpkmknleaaDoor
