/- Walks: where a name leads, by the specification. -/
import Derived.Test.YtojmfcpkmknleaaDoorCfgS4
namespace Go.Proofs.YtojmfcpkmknleaaDoor
open Go.RowKit

set_option maxRecDepth 100000 in
set_option maxHeartbeats 3200000 in
theorem spec_route (hs : List Hs) (v : Value) (s : ByteArray) (w : World) (hH : HRow w v hs) (hN : HOks hs 1048576) :
    Calls Tryd.prog 11 #[.agg #[v], .string s] w fun e w' => e = .returned (.int .i64 (routeI hs s)) ∧ Below w.heap.size w w' := by
  obtain ⟨wA, hwA⟩ : ∃ wA, wA = w.alloc (.cells #[v] 25) := ⟨_, rfl⟩
  have hsA : wA.heap.size = w.heap.size + 1 := by rw [hwA]; simp
  have hbA : Below w.heap.size w wA := by rw [hwA]; exact (Below.refl _ _).alloc (Nat.le_refl _) _
  have hcell : ∀ W, Below (w.heap.size + 1) wA W → W.heap[w.heap.size]? = some (.cells #[v] 25 (0, 0)) := fun W hW =>
    (hW.block w.heap.size (by omega)).trans (by rw [hwA]; exact heap_alloc_new w _)
  have HCell := Lib.hid hcell
  have hH0 := hH
  obtain ⟨a, c, rfl, hl1, hl2, _⟩ := hH0
  have h4 : ∀ W, Below (w.heap.size + 1) wA W → Below w.heap.size w W ∧ HRow W (.slice a hs.length c) hs := fun W hW => by
    have hb := hbA.trans (hW.mono (Nat.le_succ _))
    exact ⟨hb, hH.below (Nat.le_refl _) hb⟩
  have HW := Lib.hid h4
  have HwA := Lib.hid hwA
  unfold maxLen at hl2
  have hb0 : Below (w.heap.size + 1) wA wA := Below.refl _ _
  have HB0 := Lib.hid hb0
  obtain ⟨t0, _⟩ := one_fact (hcell _ hb0)
  have hC := spec_cfgok hs _ wA (h4 _ hb0).2 hN
  rw [hwA] at t0 hC
  have HDef : Hid (routeI hs s = if cfgB hs = true then optI (findI hs s) else -1) := Lib.hid rfl
  generalize cfgB hs = R at *
  clear hcell hwA hbA h4 hb0 hH hN
  go_enter Tryd.func11, Tryd.ntmps11
  go_wp2_with fail
  refine hC.mono ?_
  rw [← HwA.out]
  rintro e w2 ⟨rfl, hb2⟩
  have hb02 := HB0.out.trans (hb2.mono (by omega))
  clear hC hb2 t0
  cases R
  · have HF := Lib.hid (HDef.out.trans (if_neg (by decide)))
    have HB := Lib.hid (HW.out w2 hb02).1
    clear hb02
    go_wp2
    go_ret
    rw [HF.out]; exact ⟨rfl, HB.out⟩
  · have HF := Lib.hid (HDef.out.trans (if_pos rfl))
    have HB2 := Lib.hid hb02
    clear hb02
    go_wp2_with fail
    go_loopw [5] (fun i wr => ∃ k : Nat, k ≤ hs.length ∧ i = .int .i64 k ∧ (∀ h ∈ hs.take k, s ∉ h.names) ∧ wr = w2) (fun i _ => hs.length - (intOf i).toNat)
    case atStart => exact ⟨0, Nat.zero_le _, rfl, fun h hh => by simp at hh, rfl⟩
    case round =>
      obtain ⟨k, hk, rfl, hno, rfl⟩ := hrel
      obtain ⟨t0, _⟩ := one_fact (HCell.out wr HB2.out)
      by_cases hlt : k < hs.length
      · obtain ⟨h, hg⟩ : ∃ h, hs[k]? = some h := ⟨_, List.getElem?_eq_getElem hlt⟩
        obtain ⟨_, _, e1, _, _, hh⟩ := (HW.out wr HB2.out).2
        obtain ⟨b, o, u, ea, hb, c1, hS, _⟩ := hh k h hg
        have ha : a = some ⟨b, o, none⟩ := by injection e1 with e1 _ _; rw [e1, ea]
        subst ha
        have hL := l5_has u h.names s wr hS
        have HG := Lib.hid hg
        have HNo := Lib.hid hno
        clear hS hh e1 hg ea hno
        obtain ⟨B, hB⟩ : ∃ B, B = hasL h.names s := ⟨_, rfl⟩
        rw [← hB] at hL
        have HBB := Lib.hid hB
        clear hB
        cases B
        · go_wp2_with fail
          refine hL.mono ?_
          rintro e w3 ⟨rfl, rfl⟩
          clear hL t0 c1
          go_wp2
          go_roundw
          case rel =>
            refine ⟨k + 1, by omega, by go_num, fun h' hh' => ?_, trivial⟩
            rw [List.take_add_one, HG.out] at hh'
            rcases List.mem_append.1 hh' with hh' | hh'
            · exact HNo.out h' hh'
            · have : h' = h := by simpa using hh'
              rw [this]; exact hasL_false.1 HBB.out.symm
          case measure => simp [intOf]; omega
        · have hf := find_some HG.out (hasL_iff.1 HBB.out.symm) HNo.out
          rw [hf] at HF
          have HF2 : Hid (routeI hs s = (k : Int)) := Lib.hid HF.out
          clear hf HF
          go_wp2_with fail
          refine hL.mono ?_
          rintro e w3 ⟨rfl, rfl⟩
          clear hL t0 c1
          have HB := Lib.hid (HW.out wr HB2.out).1
          go_wp2
          go_ret
          rw [HF2.out]; exact ⟨rfl, HB.out⟩
      · have hkl2 : k = hs.length := by omega
        rw [hkl2, List.take_length] at hno
        have hf := find_none hno
        rw [hf] at HF
        have HF2 : Hid (routeI hs s = -1) := Lib.hid HF.out
        have HB := Lib.hid (HW.out wr HB2.out).1
        clear hf HF hno
        go_wp2
        go_ret
        rw [HF2.out]; exact ⟨rfl, HB.out⟩
end Go.Proofs.YtojmfcpkmknleaaDoor
