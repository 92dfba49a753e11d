/- Walks: one house by itself, by the specification; houses marked and held. -/
import Derived.Test.YtojmfcpkmknleaaDoorCfgB2
namespace Go.Proofs.YtojmfcpkmknleaaDoor
open Go.RowKit Go.Maps

theorem alone_no {hs : List Hs} {k : Int} (h : ¬ (cfgB hs = true ∧ 0 ≤ k ∧ k < hs.length)) : aloneL hs k = [] := if_neg h
theorem alone_yes {hs : List Hs} {k : Nat} {h : Hs} (hok : cfgB hs = true) (hg : hs[k]? = some h) : aloneL hs (k : Int) = [h] := by
  have hlt := (List.getElem?_eq_some_iff.1 hg).1
  unfold aloneL
  rw [if_pos ⟨hok, by omega, by omega⟩, Int.toNat_natCast, hget_at hg]

set_option maxRecDepth 100000 in
set_option maxHeartbeats 3200000 in
theorem spec_alone (hs : List Hs) (v : Value) (k : Int) (w : World) (hH : HRow w v hs) (hN : HOks hs 1048576) :
    Calls Tryd.prog 18 #[.agg #[v], .int .i64 k] w fun e w' => ∃ u, e = .returned (.agg #[u]) ∧ HRow w' u (aloneL hs k) ∧ Below w.heap.size w w' := by
  obtain ⟨i0, hi, hz0, hz1, hz2⟩ := info_parts Tryd.infoStrC
  have hH0 := hH
  obtain ⟨a, c, rfl, hl1, hl2, _⟩ := hH0
  unfold maxLen at hl2
  obtain ⟨wA, hwA⟩ : ∃ wA, wA = (w.alloc (.cells #[.slice a hs.length c] 25)).alloc (.cells #[.slice none 0 0] 25) := ⟨_, rfl⟩
  have hsA : wA.heap.size = w.heap.size + 2 := by rw [hwA]; simp
  have hbA : Below w.heap.size w wA := by rw [hwA]; exact ((Below.refl _ _).alloc (Nat.le_refl _) _).alloc (by simp) _
  have hx0 : wA.heap[w.heap.size]? = some (.cells #[.slice a hs.length c] 25 (0, 0)) := by rw [hwA]; exact (Below.heap_alloc _ _ _ (by simp)).trans (World.alloc_heap_new w _)
  have hx1 : wA.heap[w.heap.size + 1]? = some (.cells #[.slice none 0 0] 25 (0, 0)) := by
    rw [hwA]
    have := World.alloc_heap_new (w.alloc (.cells #[.slice a hs.length c] 25)) (.cells #[.slice none 0 0] 25)
    rw [World.size_alloc] at this
    exact this
  have hC := spec_cfgok hs _ wA (hH.below (Nat.le_refl _) hbA) hN
  obtain ⟨t0, _⟩ := one_fact hx0
  rw [hwA] at t0 hC
  have HwA := Lib.hid hwA
  have HBA := Lib.hid hbA
  have HH := Lib.hid hH
  have HN := Lib.hid hN
  clear hwA hbA hH hN
  go_enter Tryd.func18, Tryd.ntmps18
  go_wp2_with fail
  refine hC.mono ?_
  rw [← HwA.out]
  rintro e w1 ⟨rfl, hb1⟩
  have hy0 := (hb1.block w.heap.size (by omega)).trans hx0
  have hy1 := (hb1.block (w.heap.size + 1) (by omega)).trans hx1
  have hb01 := HBA.out.trans (hb1.mono (by omega))
  obtain ⟨s0, _⟩ := one_fact hy0
  obtain ⟨s1, f1⟩ := one_fact hy1
  have hw1 := hb1.size
  have hset := (heap_setCell_same w1 (w.heap.size + 1) 0 _ _ (.slice none 0 0) hy1)
  have HB01 := Lib.hid hb01
  have HY := Lib.hid (And.intro hy0 (And.intro hy1 hset))
  clear hC t0 hx0 hx1 hb1 hb01 hy0 hy1 hset
  have hno : ¬ (cfgB hs = true ∧ 0 ≤ k ∧ k < hs.length) → (∀ W, W = w1.setCell ⟨w.heap.size + 1, 0, none⟩ (.slice none 0 0) → W.cell? ⟨w.heap.size + 1, 0, none⟩ = some (.slice none 0 0) ∧ HRow W (.slice none 0 0) (aloneL hs k) ∧ Below w.heap.size w W) := fun h W hW => by
    subst hW
    refine ⟨(one_fact HY.out.2.2).1, ?_, HB01.out.setCell (p := ⟨w.heap.size + 1, 0, none⟩) (Nat.le_succ _) _⟩
    rw [alone_no h]
    exact ⟨none, 0, rfl, Nat.le_refl _, Nat.zero_le _, fun j f hj => by simp at hj⟩
  have HNo := Lib.hid hno
  clear hno
  rcases Bool.eq_false_or_eq_true (cfgB hs) with hok | hok
  · by_cases hk : 0 ≤ k ∧ k < hs.length
    · obtain ⟨kn, rfl⟩ : ∃ kn : Nat, k = (kn : Int) := ⟨k.toNat, by omega⟩
      have hkl : kn < hs.length := by omega
      obtain ⟨h, hg⟩ : ∃ h, hs[kn]? = some h := ⟨_, List.getElem?_eq_getElem hkl⟩
      obtain ⟨_, _, e1, _, _, hh⟩ := HH.out.below (Nat.le_refl _) HB01.out
      obtain ⟨b, o, u, ea, hb, c1, hS, c2, c3, c4⟩ := hh kn h hg
      have ha : a = some ⟨b, o, none⟩ := by injection e1 with e1 _ _; rw [e1, ea]
      subst ha
      have hgood := (houseB_iff.1 ((cfgB_iff.1 hok).2.1 h (List.mem_of_getElem? hg))).1
      obtain ⟨b1, o1, cc, rfl, m1, m2, hb1l, hcs⟩ := srow_cells hS hgood.1
      have HAl := Lib.hid (alone_yes hok hg)
      clear HNo hh e1 ea hg hS
      have i1 : ¬ ((kn : Int) < 0) := by omega
      have i2 : ¬ ((hs.length : Int) ≤ (kn : Int)) := by omega
      have hlen3 : (h.names.map Value.string).length = h.names.length * 1 := by simp
      have hone : ∀ y ∈ h.names.map Value.string, y.oneCell' = true := fun y hy => by
        obtain ⟨s, _, rfl⟩ := List.mem_map.1 hy; rfl
      obtain ⟨w3, hw3⟩ : ∃ w3, w3 = (w1.alloc (.cells #[.slice (some ⟨b1, o1, none⟩) h.names.length cc, .int .i64 h.key, .int .i64 h.maxN, .int .i64 h.maxB] 33)).alloc (.cells #[] 9) := ⟨_, rfl⟩
      have hs3 : w3.heap.size = w1.heap.size + 2 := by rw [hw3]; simp
      have hb13 : Below w1.heap.size w1 w3 := by rw [hw3]; exact ((Below.refl _ _).alloc (Nat.le_refl _) _).alloc (by simp) _
      have hbox3 : w3.heap[w1.heap.size]? = some (.cells #[.slice (some ⟨b1, o1, none⟩) h.names.length cc, .int .i64 h.key, .int .i64 h.maxN, .int .i64 h.maxB] 33 (0, 0)) := by rw [hw3]; exact (Below.heap_alloc _ _ _ (by simp)).trans (World.alloc_heap_new w1 _)
      have hown3 : w3.ownsRow (w1.heap.size + 1) 9 1 (.slice (some ⟨w1.heap.size + 1, 0, none⟩) 0 0) 0 [] := by
        have := World.ownsRow_made (w := w1.alloc (.cells #[.slice (some ⟨b1, o1, none⟩) h.names.length cc, .int .i64 h.key, .int .i64 h.maxN, .int .i64 h.maxB] 33)) (base := w1.heap.size + 1) (e := 9) (size := 1) #[] 0 (by simp) (by decide) rfl
        rw [World.size_alloc] at this
        rw [hw3]; exact this
      have hcs3 : ∀ j x, (h.names.map Value.string)[j]? = some x → w3.cell? ((⟨b1, o1, none⟩ : Addr).add j) = some x := fun j x hx => by
        have e := hcs j x hx
        have ea : (⟨b1, o1, none⟩ : Addr).add j = ⟨b1, o1 + j, none⟩ := by unfold Addr.add; split <;> simp_all
        rw [ea] at e ⊢
        exact (hb13.cell (p := ⟨b1, o1 + j, none⟩) hb1l).trans e
      have hy03 := (hb13.block w.heap.size (by omega)).trans HY.out.1
      have hy13 := (hb13.block (w.heap.size + 1) (by omega)).trans HY.out.2.1
      obtain ⟨news, hnews⟩ : ∃ news, news = h.names.map Value.string := ⟨_, rfl⟩
      rw [← hnews] at hlen3 hone hcs3
      have HNews := Lib.hid hnews
      obtain ⟨p0, p1, p2, p3, g0, _⟩ := four_facts hbox3
      have HB3 := Lib.hid (HB01.out.trans (hb13.mono (by omega)))
      have HBox := Lib.hid hbox3
      have HY13 := Lib.hid hy13
      rw [hw3] at p0 p1 p2 p3 g0 hown3 hcs3
      have HW3 := Lib.hid hw3
      clear hnews hcs hb13 hbox3 hy03 hy13 hw3
      go_wp2_with (at_builtin; go_must (refine wpList_append_own _ rfl _ _ 31 rfl (w1.heap.size + 1) 9 i0 _ 1 16 Tryd.underlying31 hi hz0 hz1 hz2 rfl (by decide) _ _ _ (by rfl) hown3 ⟨b1, o1, none⟩ h.names.length cc news rfl hlen3 hcs3 hone (by unfold maxLen; omega) (by omega) (by simp) ?_); intro v' w4 ho4 hg4 hnil4; rw [← HW3.out] at hg4; rw [Nat.zero_add, List.nil_append] at ho4; obtain ⟨g, cap, rfl⟩ := own_form ho4 (by omega); have hbox4 := (hg4.block w1.heap.size (by omega) (by simp [Value.ownBlock])).trans HBox.out; have hy14 := (hg4.block (w.heap.size + 1) (by omega) (by simp [Value.ownBlock]; omega)).trans HY13.out; obtain ⟨q0, q1, q2, q3, f0, _⟩ := four_facts hbox4; have bY : Boxed w4 (w.heap.size + 1) 25 (.slice none 0 0) := hy14; have bY2 := (bY.other (B' := w1.heap.size) (by omega) (.slice (some ⟨g, 0, none⟩) h.names.length cap)).alloc (.cells #[.slice (some ⟨g, 0, none⟩) h.names.length cap, .int .i64 h.key, .int .i64 h.maxN, .int .i64 h.maxB] 33); have r1 := bY2.cell; have e1 := bY2.frozen)
      have hrow : ∀ r, (Value.slice (some ⟨w1.heap.size + 1, 0, none⟩) 0 0).ownBlock = some r → w.heap.size ≤ r := fun r e => by
        have : r = w1.heap.size + 1 := by simpa [Value.ownBlock] using e.symm
        omega
      have hb34 : Below w.heap.size w w4 := HB3.out.grown hg4 HB3.out.size hrow
      have hgl := ho4.lt g rfl
      have hw4 := hg4.size
      have hz := (bY2.set (.slice (some ⟨w4.heap.size, 0, none⟩) 1 1)).cell
      have hfb : Below w.heap.size w (((w4.setCell ⟨w1.heap.size, 0, none⟩ (.slice (some ⟨g, 0, none⟩) h.names.length cap)).alloc (.cells #[.slice (some ⟨g, 0, none⟩) h.names.length cap, .int .i64 h.key, .int .i64 h.maxN, .int .i64 h.maxB] 33)).setCell ⟨w.heap.size + 1, 0, none⟩ (.slice (some ⟨w4.heap.size, 0, none⟩) 1 1)) :=
        ((hb34.setCell (p := ⟨w1.heap.size, 0, none⟩) (by simp; omega) _).alloc (by simp; have := hb34.size; omega) _).setCell (p := ⟨w.heap.size + 1, 0, none⟩) (by simp) _
      refine bodyPost_ret (v := .agg #[.slice (some ⟨w4.heap.size, 0, none⟩) 1 1]) (by simp [results, Tryd.results18, go_sem, hz]) rfl ⟨_, rfl, ?_, hfb⟩
      rw [HAl.out]
      refine HF.row (B := w.heap.size) (hs := [h]) (us := fun _ => .slice (some ⟨g, 0, none⟩) h.names.length cap) (hf_one (T := 33) (by omega) ?_ ?_ (by omega)) (Nat.le_refl _) (by decide)
      · rw [heap_setCell_other _ ⟨w.heap.size + 1, 0, none⟩ w4.heap.size _ (by simp; omega)]
        have := World.alloc_heap_new (w4.setCell ⟨w1.heap.size, 0, none⟩ (.slice (some ⟨g, 0, none⟩) h.names.length cap)) (.cells #[.slice (some ⟨g, 0, none⟩) h.names.length cap, .int .i64 h.key, .int .i64 h.maxN, .int .i64 h.maxB] 33)
        rw [World.size_setCell] at this
        exact this
      · rw [HNews.out] at ho4
        refine own_same (own_lowC ho4 (show w.heap.size ≤ w1.heap.size + 1 by omega)) (fun b' hb' => ?_)
        have : b' = g := by simpa [Value.ownBlock] using hb'.symm
        subst this
        rw [heap_setCell_other _ ⟨w.heap.size + 1, 0, none⟩ b' _ (by simp; omega), Below.heap_alloc _ _ _ (by simp; omega), heap_setCell_other _ ⟨w1.heap.size, 0, none⟩ b' _ (by simp; omega)]
    · have hno2 := HNo.out (fun e => hk e.2)
      have HNo2 := Lib.hid hno2
      clear hno2
      have hk' : k < 0 ∨ (0 ≤ k ∧ (hs.length : Int) ≤ k) := by omega
      rcases hk' with hk' | ⟨hk1, hk2⟩
      · go_wp2
        obtain ⟨q1, q2, q3⟩ := HNo2.out _ rfl
        exact bodyPost_ret (v := .agg #[.slice none 0 0]) (by simp [results, Tryd.results18, go_sem, q1]) rfl ⟨_, rfl, q2, q3⟩
      · go_wp2
        obtain ⟨q1, q2, q3⟩ := HNo2.out _ rfl
        exact bodyPost_ret (v := .agg #[.slice none 0 0]) (by simp [results, Tryd.results18, go_sem, q1]) rfl ⟨_, rfl, q2, q3⟩
  · have hno2 := HNo.out (fun e => by rw [hok] at e; cases e.1)
    have HNo2 := Lib.hid hno2
    clear hno2
    go_wp2
    obtain ⟨q1, q2, q3⟩ := HNo2.out _ rfl
    exact bodyPost_ret (v := .agg #[.slice none 0 0]) (by simp [results, Tryd.results18, go_sem, q1]) rfl ⟨_, rfl, q2, q3⟩
end Go.Proofs.YtojmfcpkmknleaaDoor
