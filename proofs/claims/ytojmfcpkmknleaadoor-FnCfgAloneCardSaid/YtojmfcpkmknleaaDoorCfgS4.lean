/- Walks: whether houses are ok, by the specification. -/
import Derived.Test.YtojmfcpkmknleaaDoorCfgS3
namespace Go.Proofs.YtojmfcpkmknleaaDoor
open Go.RowKit

theorem cfg_short {hs : List Hs} (h : inI hs.length 1 4 = false) : cfgB hs = false := by unfold cfgB; rw [h]; rfl
theorem cfg_bad {hs : List Hs} {k : Nat} {h : Hs} (hg : hs[k]? = some h) (hb : houseB h = false) : cfgB hs = false := by
  rw [Bool.eq_false_iff]; intro e
  rw [(cfgB_iff.1 e).2.1 h (List.mem_of_getElem? hg)] at hb; cases hb
theorem cfg_twice {hs : List Hs} {k : Nat} {x : ByteArray} (hg : (namesL hs)[k]? = some x) (ht : hasL ((namesL hs).take k) x = true) : cfgB hs = false := by
  rw [Bool.eq_false_iff]; intro e
  have hn := (cfgB_iff.1 e).2.2
  have hm := hasL_iff.1 ht
  obtain ⟨hlt, hx⟩ := List.getElem?_eq_some_iff.1 hg
  obtain ⟨j, hj, hjx⟩ := List.mem_take_iff_getElem.1 hm
  have := (List.getElem_inj hn).1 (hjx.trans hx.symm)
  omega
theorem nodup_take {L : List ByteArray} {k : Nat} {x : ByteArray} (hg : L[k]? = some x) (hn : (L.take k).Nodup) (ht : hasL (L.take k) x = false) : (L.take (k + 1)).Nodup := by
  rw [List.take_add_one, hg]
  show (L.take k ++ [x]).Nodup
  rw [List.nodup_append]
  refine ⟨hn, by simp, fun a ha b hb => ?_⟩
  have : b = x := by simpa using hb
  subst this
  intro e; subst e
  exact hasL_false.1 ht ha
theorem cfg_good {hs : List Hs} (h1 : inI hs.length 1 4 = true) (h2 : ∀ h ∈ hs, houseB h = true) (h3 : (namesL hs).Nodup) : cfgB hs = true := by
  unfold cfgB
  rw [h1, List.all_eq_true.2 h2, decide_eq_true h3]; rfl
theorem srow_take {w : World} {B : Nat} {T : TypeId} {g n cap k : Nat} {L : List ByteArray} (h : w.ownsRow B T 1 (.slice (some ⟨g, 0, none⟩) n cap) n (L.map Value.string)) (hk : k ≤ n) : SRow w (.slice (some ⟨g, 0, none⟩) k cap) (L.take k) := by
  have hl : (L.take k).length = k := by
    have := h.1
    simp at this
    rw [List.length_take]; omega
  have := own_take h hk
  rw [← List.map_take] at this
  have h2 : w.ownsRow B T 1 (.slice (some ⟨g, 0, none⟩) k cap) (L.take k).length ((L.take k).map Value.string) := by rw [hl]; exact this
  exact srow_own h2

set_option maxRecDepth 100000 in
set_option maxHeartbeats 3200000 in
theorem spec_cfgok (hs : List Hs) (v : Value) (w : World) (hH : HRow w v hs) (hN : HOks hs 1048576) :
    Calls Tryd.prog 13 #[.agg #[v]] w fun e w' => e = .returned (.bool (cfgB hs)) ∧ Below w.heap.size w w' := by
  obtain ⟨wA, hwA⟩ : ∃ wA, wA = w.alloc (.cells #[v] 25) := ⟨_, rfl⟩
  have hsA : wA.heap.size = w.heap.size + 1 := by rw [hwA]; simp
  have hbA : Below w.heap.size w wA := by rw [hwA]; exact (Below.refl _ _).alloc (Nat.le_refl _) _
  have hcell : ∀ W, Below (w.heap.size + 1) wA W → W.heap[w.heap.size]? = some (.cells #[v] 25 (0, 0)) := fun W hW =>
    (hW.block w.heap.size (by omega)).trans (by rw [hwA]; exact heap_alloc_new w _)
  have HCell := Lib.hid hcell
  have hH0 := hH
  obtain ⟨a, c, rfl, hl1, hl2, _⟩ := hH0
  have h4 : ∀ W, Below (w.heap.size + 1) wA W → Below w.heap.size w W ∧ HRow W (.slice a hs.length c) hs := fun W hW => by
    have hb := hbA.trans (hW.mono (Nat.le_succ _))
    exact ⟨hb, hH.below (Nat.le_refl _) hb⟩
  have HW := Lib.hid h4
  have HwA := Lib.hid hwA
  unfold maxLen at hl2
  have hb0 : Below (w.heap.size + 1) wA wA := Below.refl _ _
  have HB0 := Lib.hid hb0
  have HN := Lib.hid hN
  obtain ⟨t0, _⟩ := one_fact (hcell _ hb0)
  rw [hwA] at t0
  have q := fun (x lo hi : Int) W => l1_inI x lo hi W
  clear hcell hwA hbA h4 hb0 hH hN
  go_enter Tryd.func13, Tryd.ntmps13
  rcases Bool.eq_false_or_eq_true (inI hs.length 1 4) with j1 | j1
  · have HJ := Lib.hid j1
    go_wp2_with (go_at_call 29; refine (q _ _ _ _).mono ?_; rintro e w' ⟨rfl, rfl⟩)
    rw [← HwA.out]
    clear j1 t0 q
    go_loopw [3] (fun i wr => ∃ k : Nat, k ≤ hs.length ∧ i = .int .i64 k ∧ (∀ h ∈ hs.take k, houseB h = true) ∧ Below (w.heap.size + 1) wA wr) (fun i _ => hs.length - (intOf i).toNat)
    case atStart => exact ⟨0, Nat.zero_le _, rfl, fun h hh => by simp at hh, HB0.out⟩
    case round =>
      obtain ⟨k, hk, rfl, hall, hnx⟩ := hrel
      obtain ⟨t0, _⟩ := one_fact (HCell.out wr hnx)
      by_cases hlt : k < hs.length
      · obtain ⟨h, hg⟩ : ∃ h, hs[k]? = some h := ⟨_, List.getElem?_eq_getElem hlt⟩
        obtain ⟨_, _, e1, _, _, hh⟩ := (HW.out wr hnx).2
        obtain ⟨b, o, u, ea, hb, c1, hS, c2, c3, c4⟩ := hh k h hg
        have ha : a = some ⟨b, o, none⟩ := by injection e1 with e1 _ _; rw [e1, ea]
        subst ha
        have hC := l5_house h u wr hS (HN.out h (List.mem_of_getElem? hg))
        have HG := Lib.hid hg
        have HA := Lib.hid hall
        have HNx := Lib.hid hnx
        clear hS hh e1 hg ea hall hnx
        obtain ⟨R, hR⟩ : ∃ R, R = houseB h := ⟨_, rfl⟩
        rw [← hR] at hC
        have HR := Lib.hid hR
        clear hR
        cases R
        · go_wp2_with fail
          refine hC.mono ?_
          rintro e w2 ⟨rfl, hb2⟩
          have HB := Lib.hid ((HW.out wr HNx.out).1.trans (hb2.mono (HW.out wr HNx.out).1.size))
          have HF := Lib.hid (cfg_bad HG.out HR.out.symm)
          clear hC hb2 t0 c1 c2 c3 c4
          go_wp2
          go_ret
          rw [HF.out]; exact ⟨rfl, HB.out⟩
        · go_wp2_with fail
          refine hC.mono ?_
          rintro e w2 ⟨rfl, hb2⟩
          have HB := Lib.hid (HNx.out.trans (hb2.mono (by have := HNx.out.size; omega)))
          clear hC hb2 t0 c1 c2 c3 c4
          go_wp2
          go_roundw
          case rel =>
            refine ⟨k + 1, by omega, by go_num, fun h' hh' => ?_, HB.out⟩
            rw [List.take_add_one, HG.out] at hh'
            rcases List.mem_append.1 hh' with hh' | hh'
            · exact HA.out h' hh'
            · have : h' = h := by simpa using hh'
              rw [this]; exact HR.out.symm
          case measure => simp [intOf]; omega
      · have hkl2 : k = hs.length := by omega
        rw [hkl2, List.take_length] at hall
        have hn4 : hs.length ≤ 4 := by have := inI_iff.1 HJ.out; omega
        have hn1 : 1 ≤ hs.length := by have := inI_iff.1 HJ.out; omega
        have hC := l5_names hs _ wr (HW.out wr hnx).2 hall hn4
        have hpos : 0 < (namesL hs).length := by
          obtain ⟨h, hg⟩ : ∃ h, hs[0]? = some h := ⟨_, List.getElem?_eq_getElem hn1⟩
          have h1 := (houseB_iff.1 (hall h (List.mem_of_getElem? hg))).1.1
          have e : hs = h :: hs.drop 1 := by
            cases hs with
            | nil => simp at hg
            | cons x t => simp at hg; simp [hg]
          rw [e]
          simp only [namesL, List.flatMap_cons, List.length_append]
          omega
        have hlen := names_len hall
        have HA := Lib.hid hall
        have HNx := Lib.hid hnx
        clear hall hnx
        go_wp2_with fail
        refine hC.mono ?_
        rintro e w2 ⟨u, rfl, ho, hb2⟩
        obtain ⟨g, cap, rfl⟩ := own_form ho hpos
        obtain ⟨hcap1, hcap2⟩ := own_max ho
        have hcs : ∀ j x, (namesL hs)[j]? = some x → w2.cell? ⟨g, j, none⟩ = some (.string x) := fun j x hj => own_cell ho (by rw [List.getElem?_map, hj]; rfl)
        have hts : ∀ j, j ≤ (namesL hs).length → SRow w2 (.slice (some ⟨g, 0, none⟩) j cap) ((namesL hs).take j) := fun j hj => srow_take ho hj
        have HCs := Lib.hid hcs
        have HTs := Lib.hid hts
        have HB := Lib.hid ((HW.out wr HNx.out).1.trans (hb2.mono (HW.out wr HNx.out).1.size))
        have HGood := Lib.hid (fun h3 => cfg_good HJ.out HA.out h3)
        have HTw := Lib.hid (fun (k : Nat) (x : ByteArray) h1 h2 => cfg_twice (hs := hs) (k := k) (x := x) h1 h2)
        clear hC hb2 t0 hcs hts ho
        generalize namesL hs = L at *
        go_wp2_with fail
        go_loopw [5] (fun i wr => ∃ k : Nat, k ≤ L.length ∧ i = .int .i64 k ∧ (L.take k).Nodup ∧ ∃ n, wr = w2.drewN n) (fun i _ => L.length - (intOf i).toNat)
        case atStart => exact ⟨0, Nat.zero_le _, rfl, by simp, 0, rfl⟩
        case round =>
          obtain ⟨k, hk, rfl, hnd, nn, hwr⟩ := hrel
          have HBw : Hid (Below w.heap.size w wr) := Lib.hid (by rw [hwr]; exact below_drewN HB.out)
          have HWr := Lib.hid hwr
          by_cases hlt : k < L.length
          · obtain ⟨x, hg⟩ : ∃ x, L[k]? = some x := ⟨_, List.getElem?_eq_getElem hlt⟩
            have c0 : wr.cell? ⟨g, k, none⟩ = some (.string x) := by rw [hwr]; exact HCs.out k x hg
            have hts : SRow wr (.slice (some ⟨g, 0, none⟩) k cap) (L.take k) := by rw [hwr]; exact HTs.out k hk
            clear hwr
            have hC : ∀ n, Calls Tryd.prog 28 #[.slice (some ⟨g, 0, none⟩) k cap, .string x] (wr.drewN n) fun e w' => e = .returned (.bool (hasL (L.take k) x)) ∧ w' = wr.drewN n := fun n => (l5_has _ _ x (wr.drewN n) hts).mono fun e w' h => ⟨h.1, h.2.symm⟩
            have HG := Lib.hid hg
            have HD := Lib.hid hnd
            clear hg hnd
            obtain ⟨B, hB⟩ : ∃ B, B = hasL (L.take k) x := ⟨_, rfl⟩
            rw [← hB] at hC
            have HBB := Lib.hid hB
            clear hB
            have i1 : (k : Int) ≤ (cap : Int) := by omega
            have i2 : ¬ cap = 0 := by omega
            have i3 : k ≤ cap := by omega
            cases B
            · go_wp2_with fail
              go_quiet (first | (go_at_call 28; exact Calls.quiet_of_same (hC _)))
              have HN := Lib.hid (nodup_take HG.out HD.out HBB.out.symm)
              clear c0 hC hts
              go_wp2
              go_roundw
              case rel => exact ⟨k + 1, by omega, by go_num, HN.out, nn + nq, by rw [HWr.out]; simp⟩
              case measure => simp [intOf]; omega
            · have HF := Lib.hid (HTw.out k x HG.out HBB.out.symm)
              go_wp2_with fail
              go_quiet (first | (go_at_call 28; exact Calls.quiet_of_same (hC _)))
              clear c0 hC hts
              go_wp2
              go_ret
              rw [HF.out]; exact ⟨rfl, below_drewN HBw.out⟩
          · have hkl : k = L.length := by omega
            rw [hkl, List.take_length] at hnd
            have HF := Lib.hid (HGood.out hnd)
            clear hnd hwr
            go_wp2
            go_ret
            rw [HF.out]; exact ⟨rfl, HBw.out⟩
  · have HF := Lib.hid (cfg_short j1)
    go_wp2_with (go_at_call 29; refine (q _ _ _ _).mono ?_; rintro e w' ⟨rfl, rfl⟩)
    go_ret
    rw [HF.out, ← HwA.out]; exact ⟨rfl, (HW.out _ HB0.out).1⟩
end Go.Proofs.YtojmfcpkmknleaaDoor
