/- The laws' own helpers over houses: a copy of all, equality. -/
import Derived.Test.YtojmfcpkmknleaaDoorCfgE3
namespace Go.Proofs.YtojmfcpkmknleaaDoor
open Go.RowKit Go.Maps

set_option maxHeartbeats 1600000 in
theorem to_cfg (v : Value) (hs : List Hs) (w : World) (hH : HRow w v hs) (hn : hs.length ≤ 1048576) (hm : ∀ x ∈ hs, x.names.length ≤ 1048576) :
    Calls Tryd.prog 20 #[.agg #[v]] w fun e w' => ∃ g G, e = .returned (.agg #[.slice (some ⟨g, 0, none⟩) hs.length hs.length]) ∧ HOwn w' w.heap.size g hs.length hs.length hs G ∧ Below w.heap.size w w' := by
  have hH0 := hH
  obtain ⟨a, c, rfl, _⟩ := hH0
  obtain ⟨wA, hwA⟩ : ∃ wA, wA = ((w.alloc (.cells #[.slice a hs.length c] 41)).alloc (.cells #[.slice none 0 0] 25)).alloc (.cells #[.slice none 0 0] 25) := ⟨_, rfl⟩
  have hsA : wA.heap.size = w.heap.size + 3 := by rw [hwA]; simp
  have hbA : Below w.heap.size w wA := by rw [hwA]; exact (((Below.refl _ _).alloc (Nat.le_refl _) _).alloc (by simp) _).alloc (by simp; omega) _
  have hC := to_houses _ hs wA (hH.below (Nat.le_refl _) hbA) hn hm
  obtain ⟨hx0, hx1, hx2⟩ := three_new w (.cells #[.slice a hs.length c] 41) (.cells #[.slice none 0 0] 25) (.cells #[.slice none 0 0] 25)
  rw [← hwA] at hx0 hx1 hx2
  obtain ⟨t0, _⟩ := one_fact hx0
  rw [hwA] at t0
  have HwA := Lib.hid hwA
  have HBA := Lib.hid hbA
  clear hwA hbA hH hm
  go_enter Tryd.func20, Tryd.ntmps20
  go_wp2_with fail
  rw [← HwA.out]
  refine hC.mono ?_
  rintro e w1 ⟨G, rfl, hown, hb1⟩
  rw [hsA] at hown
  have hy1 := (hb1.block (w.heap.size + 1) (by omega)).trans hx1
  have hy2 := (hb1.block (w.heap.size + 1 + 1) (by omega)).trans hx2
  obtain ⟨p0, f0⟩ := one_fact hy1
  obtain ⟨r0, e0⟩ := one_fact hy2
  have hb := HBA.out.trans (hb1.mono (by omega))
  have hz1 := (heap_setCell_other w1 ⟨w.heap.size + 1 + 1, 0, none⟩ (w.heap.size + 1) (.slice (some ⟨w.heap.size + 3, 0, none⟩) hs.length hs.length) (by simp)).trans hy1
  have hz2 := heap_setCell_same _ (w.heap.size + 1) 0 _ _ (.slice (some ⟨w.heap.size + 3, 0, none⟩) hs.length hs.length) hz1
  have hfin : Below w.heap.size w ((w1.setCell ⟨w.heap.size + 1 + 1, 0, none⟩ (.slice (some ⟨w.heap.size + 3, 0, none⟩) hs.length hs.length)).setCell ⟨w.heap.size + 1, 0, none⟩ (.slice (some ⟨w.heap.size + 3, 0, none⟩) hs.length hs.length)) :=
    (hb.setCell (p := ⟨w.heap.size + 1 + 1, 0, none⟩) (by simp; omega) _).setCell (p := ⟨w.heap.size + 1, 0, none⟩) (by simp) _
  have hown2 : HOwn ((w1.setCell ⟨w.heap.size + 1 + 1, 0, none⟩ (.slice (some ⟨w.heap.size + 3, 0, none⟩) hs.length hs.length)).setCell ⟨w.heap.size + 1, 0, none⟩ (.slice (some ⟨w.heap.size + 3, 0, none⟩) hs.length hs.length)) (w.heap.size + 3) (w.heap.size + 3) hs.length hs.length hs G := by
    refine hown.keep fun b hlt hB => ?_
    rw [heap_setCell_other _ ⟨w.heap.size + 1, 0, none⟩ b _ (by simp; omega), heap_setCell_other _ ⟨w.heap.size + 1 + 1, 0, none⟩ b _ (by simp; omega)]
  have HF := Lib.hid (And.intro hz2 (And.intro hfin hown2))
  clear hy1 hy2 hz1 hz2 hfin hown2 hown hb hb1 t0 hx0 hx1 hx2 hC
  go_wp2
  obtain ⟨hz2, hfin, hown2⟩ := HF.out
  obtain ⟨k0, _⟩ := one_fact hz2
  refine bodyPost_ret (v := .agg #[.slice (some ⟨w.heap.size + 3, 0, none⟩) hs.length hs.length]) (by simp [results, Tryd.results20, go_sem, k0]) rfl ⟨w.heap.size + 3, G, rfl, ?_, hfin⟩
  obtain ⟨q1, q2, q3, q4⟩ := hown2
  exact ⟨by omega, q2, fun i x hi hx => ⟨by have := (q3 i x hi hx).1; omega, (q3 i x hi hx).2⟩, q4⟩

set_option maxHeartbeats 1600000 in
theorem eq_house (h : Hs) (u1 u2 : Value) (w : World) (h1 : SRow w u1 h.names) (h2 : SRow w u2 h.names) :
    Calls Tryd.prog 54 #[.agg #[u1, .int .i64 h.key, .int .i64 h.maxN, .int .i64 h.maxB], .agg #[u2, .int .i64 h.key, .int .i64 h.maxN, .int .i64 h.maxB]] w fun e w' => e = .returned (.bool true) ∧ Below w.heap.size w w' := by
  obtain ⟨wA, hwA⟩ : ∃ wA, wA = (w.alloc (.cells #[u1, .int .i64 h.key, .int .i64 h.maxN, .int .i64 h.maxB] 33)).alloc (.cells #[u2, .int .i64 h.key, .int .i64 h.maxN, .int .i64 h.maxB] 33) := ⟨_, rfl⟩
  have hsA : wA.heap.size = w.heap.size + 2 := by rw [hwA]; simp
  have hbA : Below w.heap.size w wA := by rw [hwA]; exact ((Below.refl _ _).alloc (Nat.le_refl _) _).alloc (by simp) _
  have hC := eq_strs _ _ h.names wA (h1.below (Nat.le_refl _) hbA) (h2.below (Nat.le_refl _) hbA)
  have hx0 : wA.heap[w.heap.size]? = some (.cells #[u1, .int .i64 h.key, .int .i64 h.maxN, .int .i64 h.maxB] 33 (0, 0)) := by rw [hwA]; exact (Below.heap_alloc _ _ _ (by simp)).trans (World.alloc_heap_new w _)
  have hx1 : wA.heap[w.heap.size + 1]? = some (.cells #[u2, .int .i64 h.key, .int .i64 h.maxN, .int .i64 h.maxB] 33 (0, 0)) := by
    rw [hwA]
    have := World.alloc_heap_new (w.alloc (.cells #[u1, .int .i64 h.key, .int .i64 h.maxN, .int .i64 h.maxB] 33)) (.cells #[u2, .int .i64 h.key, .int .i64 h.maxN, .int .i64 h.maxB] 33)
    rw [World.size_alloc] at this
    exact this
  obtain ⟨a1, c1, rfl, _⟩ := srow_get h1
  obtain ⟨a2, c2, rfl, _⟩ := srow_get h2
  obtain ⟨t0, t1, t2, t3, _⟩ := four_facts hx0
  obtain ⟨s0, s1, s2, s3, _⟩ := four_facts hx1
  rw [hwA] at t0 t1 t2 t3 s0 s1 s2 s3
  have HwA := Lib.hid hwA
  have HBA := Lib.hid hbA
  clear hwA hbA h1 h2
  go_enter Tryd.func54, Tryd.ntmps54
  go_wp2_with fail
  rw [← HwA.out]
  refine hC.mono ?_
  rintro e w1 ⟨rfl, hb1⟩
  clear t0 t1 t2 t3 s0 s1 s2 s3
  obtain ⟨t0, t1, t2, t3, _⟩ := four_facts ((hb1.block w.heap.size (by omega)).trans hx0)
  obtain ⟨s0, s1, s2, s3, _⟩ := four_facts ((hb1.block (w.heap.size + 1) (by omega)).trans hx1)
  have HB := Lib.hid (HBA.out.trans (hb1.mono (by omega)))
  clear hb1 hC hx0 hx1
  go_wp2
  go_ret
  exact ⟨rfl, HB.out⟩

set_option maxHeartbeats 1600000 in
theorem eq_houses (v1 v2 : Value) (hs : List Hs) (w : World) (hH1 : HRow w v1 hs) (hH2 : HRow w v2 hs) :
    Calls Tryd.prog 39 #[v1, v2] w fun e w' => e = .returned (.bool true) ∧ Below w.heap.size w w' := by
  have g1 := hH1
  have g2 := hH2
  obtain ⟨a1, c1, rfl, hl1, hl2, h1⟩ := g1
  obtain ⟨a2, c2, rfl, hl3, hl4, h2⟩ := g2
  unfold maxLen at hl2 hl4
  have H1 := Lib.hid h1; have H2 := Lib.hid h2
  clear h1 h2 hH1 hH2
  go_enter Tryd.func39, Tryd.ntmps39
  go_wp2
  go_loopw [5] (fun i wr => ∃ k : Nat, k ≤ hs.length ∧ i = .int .i64 k ∧ Below w.heap.size w wr) (fun i _ => hs.length - (intOf i).toNat)
  case atStart => exact ⟨0, Nat.zero_le _, rfl, Below.refl _ _⟩
  case round =>
    obtain ⟨k, hk, rfl, hnx⟩ := hrel
    by_cases hlt : k < hs.length
    · obtain ⟨h, hg⟩ : ∃ h, hs[k]? = some h := ⟨_, List.getElem?_eq_getElem hlt⟩
      obtain ⟨b1, o1, u1, ea1, hb1, x0, xS, x1, x2, x3⟩ := H1.out k h hg
      obtain ⟨b2, o2, u2, ea2, hb2, y0, yS, y1, y2, y3⟩ := H2.out k h hg
      subst ea1 ea2
      have hE : ∀ W, Below w.heap.size w W → Calls Tryd.prog 54 #[.agg #[u1, .int .i64 h.key, .int .i64 h.maxN, .int .i64 h.maxB], .agg #[u2, .int .i64 h.key, .int .i64 h.maxN, .int .i64 h.maxB]] W fun e w' => e = .returned (.bool true) ∧ Below w.heap.size w w' :=
        fun W hW => (eq_house h u1 u2 W (xS.below (Nat.le_refl _) hW) (yS.below (Nat.le_refl _) hW)).mono fun e w' q => ⟨q.1, hW.trans (q.2.mono hW.size)⟩
      have k0 := (hnx.cell (p := ⟨b1, o1 + k * 4, none⟩) hb1).trans x0
      have k1 := (hnx.cell (p := ⟨b1, o1 + k * 4 + 1, none⟩) hb1).trans x1
      have k2 := (hnx.cell (p := ⟨b1, o1 + k * 4 + 2, none⟩) hb1).trans x2
      have k3 := (hnx.cell (p := ⟨b1, o1 + k * 4 + 3, none⟩) hb1).trans x3
      have m0 := (hnx.cell (p := ⟨b2, o2 + k * 4, none⟩) hb2).trans y0
      have m1 := (hnx.cell (p := ⟨b2, o2 + k * 4 + 1, none⟩) hb2).trans y1
      have m2 := (hnx.cell (p := ⟨b2, o2 + k * 4 + 2, none⟩) hb2).trans y2
      have m3 := (hnx.cell (p := ⟨b2, o2 + k * 4 + 3, none⟩) hb2).trans y3
      have HE := Lib.hid hE
      clear x0 x1 x2 x3 y0 y1 y2 y3 hE xS yS hg
      have i1 : (k : Int) < (hs.length : Int) := by omega
      have HN := Lib.hid hnx; clear hnx
      go_wp2_with fail
      go_region_with (go_at_call 54; refine (HE.out _ HN.out.drew).mono ?_; rintro e w1 ⟨rfl, hbx⟩; have hbz := hbx)
      all_goals go_wp2
      all_goals go_roundw
      all_goals first
        | (case rel => exact ⟨k + 1, by omega, by go_num, hbz⟩)
        | (simp [intOf]; omega)
    · have hkn : k = hs.length := by omega
      subst hkn
      go_wp2
      go_ret
      exact ⟨rfl, hnx⟩

set_option maxHeartbeats 1600000 in
theorem eq_cfg (v1 v2 : Value) (hs : List Hs) (w : World) (hH1 : HRow w v1 hs) (hH2 : HRow w v2 hs) :
    Calls Tryd.prog 21 #[.agg #[v1], .agg #[v2]] w fun e w' => e = .returned (.bool true) ∧ Below w.heap.size w w' := by
  have hbA : Below w.heap.size w ((w.alloc (.cells #[v1] 25)).alloc (.cells #[v2] 25)) := ((Below.refl _ _).alloc (Nat.le_refl _) _).alloc (by simp) _
  have hC := eq_houses v1 v2 hs _ (hH1.below (Nat.le_refl _) hbA) (hH2.below (Nat.le_refl _) hbA)
  obtain ⟨a1, c1, rfl, _⟩ := hH1
  obtain ⟨a2, c2, rfl, _⟩ := hH2
  have HB := Lib.hid hbA
  clear hbA
  go_enter Tryd.func21, Tryd.ntmps21
  go_wp2_with fail
  refine hC.mono ?_
  rintro e w1 ⟨rfl, hb1⟩
  have HB1 := Lib.hid (HB.out.trans (hb1.mono HB.out.size))
  clear hC hb1
  go_wp2
  go_ret
  exact ⟨rfl, HB1.out⟩
end Go.Proofs.YtojmfcpkmknleaaDoor
