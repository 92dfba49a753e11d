/- Walks: one house by itself: a fresh copy of a house, by the program. -/
import Derived.Test.YtojmfcpkmknleaaDoorCfgA2
namespace Go.Proofs.YtojmfcpkmknleaaDoor
open Go.RowKit Go.Maps

set_option maxHeartbeats 400000 in
theorem fresh_n (s : ByteArray) (w : World) (hs : s.size ≤ 281474976710656) :
    Calls Tryd.prog 51 #[.string s] w fun e w' => e = .returned (.string s) ∧ Below w.heap.size w w' := by
  go_enter Tryd.func51, Tryd.ntmps51
  go_wp2_with (first | (go_at_call 71; refine (Tryd.stringslite_Clone _ _ hs).mono ?_; rintro e w' ⟨rfl, hb⟩) | go_in)
  go_ret
  exact ⟨rfl, hb⟩

set_option maxRecDepth 100000 in
set_option maxHeartbeats 3200000 in
theorem fresh_house (h : Hs) (u : Value) (w : World) (hS : SRow w u h.names) (hN : NOk h.names 1048576) (hpos : 1 ≤ h.names.length) (hmax : h.names.length ≤ 3) :
    Calls Tryd.prog 35 #[.agg #[u, .int .i64 h.key, .int .i64 h.maxN, .int .i64 h.maxB]] w fun e w' => ∃ g c, e = .returned (.agg #[.slice (some ⟨g, 0, none⟩) h.names.length c, .int .i64 h.key, .int .i64 h.maxN, .int .i64 h.maxB]) ∧
      w'.ownsRow w.heap.size 9 1 (.slice (some ⟨g, 0, none⟩) h.names.length c) h.names.length (h.names.map Value.string) ∧ Below w.heap.size w w' := by
  obtain ⟨i0, hi, hz0, hz1, hz2⟩ := info_parts Tryd.infoStrC
  obtain ⟨wA, hwA⟩ : ∃ wA, wA = (w.alloc (.cells #[u, .int .i64 h.key, .int .i64 h.maxN, .int .i64 h.maxB] 33)).alloc (.cells #[.slice none 0 0, .int .i64 0, .int .i64 0, .int .i64 0] 33) := ⟨_, rfl⟩
  have hsA : wA.heap.size = w.heap.size + 2 := by rw [hwA]; simp
  have hbA : Below w.heap.size w wA := by rw [hwA]; exact ((Below.refl _ _).alloc (Nat.le_refl _) _).alloc (by simp) _
  have hx0 : wA.heap[w.heap.size]? = some (.cells #[u, .int .i64 h.key, .int .i64 h.maxN, .int .i64 h.maxB] 33 (0, 0)) := by rw [hwA]; exact (Below.heap_alloc _ _ _ (by simp)).trans (World.alloc_heap_new w _)
  have hx1 : wA.heap[w.heap.size + 1]? = some (.cells #[.slice none 0 0, .int .i64 0, .int .i64 0, .int .i64 0] 33 (0, 0)) := by
    rw [hwA]
    have := World.alloc_heap_new (w.alloc (.cells #[u, .int .i64 h.key, .int .i64 h.maxN, .int .i64 h.maxB] 33)) (.cells #[.slice none 0 0, .int .i64 0, .int .i64 0, .int .i64 0] 33)
    rw [World.size_alloc] at this
    exact this
  obtain ⟨a, c, rfl, hl1, hl2, h3⟩ := hS
  unfold maxLen at hl2
  have h4 : ∀ W, Below wA.heap.size wA W → Below w.heap.size w W ∧ W.heap[w.heap.size]? = some (.cells #[.slice a h.names.length c, .int .i64 h.key, .int .i64 h.maxN, .int .i64 h.maxB] 33 (0, 0)) ∧ W.heap[w.heap.size + 1]? = some (.cells #[.slice none 0 0, .int .i64 0, .int .i64 0, .int .i64 0] 33 (0, 0)) ∧
      ∀ j s, h.names[j]? = some s → ∃ b o, a = some ⟨b, o, none⟩ ∧ W.cell? ⟨b, o + j, none⟩ = some (.string s) := fun W hW => by
    have hb := hbA.trans (hW.mono (by omega))
    refine ⟨hb, (hW.block _ (by omega)).trans hx0, (hW.block _ (by omega)).trans hx1, fun j s hj => ?_⟩
    obtain ⟨b, o, e, hlt, c1⟩ := h3 j s hj
    exact ⟨b, o, e, (hb.cell (p := ⟨b, o + j, none⟩) hlt).trans c1⟩
  have HW := Lib.hid h4
  have HN := Lib.hid hN
  have HwA := Lib.hid hwA
  obtain ⟨t0, t1, t2, t3, _⟩ := four_facts hx0
  rw [hwA] at t0 t1 t2 t3
  clear hwA hbA h3 h4 hN hx0 hx1
  go_enter Tryd.func35, Tryd.ntmps35
  go_wp2_with fail
  rw [← HwA.out]
  clear t0 t1 t2 t3
  go_loopw [3, 5, 9] (fun x _ i wr => ∃ k : Nat, k ≤ h.names.length ∧ i = .int .i64 k ∧ wr.ownsRow wA.heap.size 9 1 x k ((h.names.take k).map Value.string) ∧ Below wA.heap.size wA wr) (fun _ _ i _ => h.names.length - (intOf i).toNat)
  case atStart => exact ⟨0, Nat.zero_le _, rfl, World.ownsRow_nil _ _ _ _, Below.refl _ _⟩
  case round =>
    obtain ⟨k, hk, rfl, hown, hnx⟩ := hrel
    by_cases hlt : k < h.names.length
    · obtain ⟨x, hg⟩ : ∃ x, h.names[k]? = some x := ⟨_, List.getElem?_eq_getElem hlt⟩
      obtain ⟨b, o, ea, c1⟩ := (HW.out wr hnx).2.2.2 k x hg
      subst ea
      have hF := fresh_n x wr (by have := HN.out x (List.mem_of_getElem? hg); omega)
      have htk : (h.names.take (k + 1)).map Value.string = (h.names.take k).map Value.string ++ [.string x] := by rw [List.take_add_one, hg, List.map_append]; rfl
      have HT := Lib.hid htk
      have HNx := Lib.hid hnx
      have HOw := Lib.hid hown
      clear hg htk hnx hown
      go_wp2_with fail
      refine hF.mono ?_
      rintro e w2 ⟨rfl, hb2⟩
      have hown2 := own_below HOw.out hb2
      have hnx2 := HNx.out.trans (hb2.mono HNx.out.size)
      have hsz2 := hnx2.size
      have HB2 := Lib.hid hnx2
      clear hF hb2 hnx2 c1
      go_wp2_with (at_builtin; go_must (refine wpList_append1 w2 rfl _ _ 31 rfl wA.heap.size 9 i0 _ 16 Tryd.underlying31 hi hz0 hz1 hz2 rfl _ _ _ (by rfl) hown2 _ rfl _ (by rfl) (by unfold maxLen; omega) (by omega) hsz2 ?_); intro v' w3 ho3 hb3 hlt3)
      have HO3 := Lib.hid (And.intro ho3 (HB2.out.trans hb3))
      clear ho3 hb3 hown2
      go_roundw
      case rel => exact ⟨k + 1, by omega, by go_num, by rw [HT.out]; exact HO3.out.1, HO3.out.2⟩
      case measure => simp [intOf]; omega
    · have hkl : k = h.names.length := by omega
      subst hkl
      rw [List.take_length] at hown
      obtain ⟨g, cap, rfl⟩ := own_form hown (by omega)
      obtain ⟨hB, hx0, hx1, _⟩ := HW.out wr hnx
      have hgl := (hown.lt g rfl)
      obtain ⟨t0, t1, t2, t3, f0, _⟩ := four_facts hx0
      obtain ⟨p0, p1, p2, p3, g0, g1, g2, g3⟩ := four_facts hx1
      have hy0 := heap_setCell_same wr w.heap.size 0 _ _ (.slice (some ⟨g, 0, none⟩) h.names.length cap) hx0
      have hy1 := (heap_setCell_other wr ⟨w.heap.size, 0, none⟩ (w.heap.size + 1) (.slice (some ⟨g, 0, none⟩) h.names.length cap) (by simp)).trans hx1
      have hy2 := four_set hy1 (.slice (some ⟨g, 0, none⟩) h.names.length cap) (.int .i64 h.key) (.int .i64 h.maxN) (.int .i64 h.maxB)
      have hfin := four_below (g := w.heap.size + 1) (.slice (some ⟨g, 0, none⟩) h.names.length cap) (.int .i64 h.key) (.int .i64 h.maxN) (.int .i64 h.maxB) (hB.setCell (p := ⟨w.heap.size, 0, none⟩) (Nat.le_refl _) (.slice (some ⟨g, 0, none⟩) h.names.length cap)) (Nat.le_succ _)
      have hown3 := own_same (w' := (((((wr.setCell ⟨w.heap.size, 0, none⟩ (.slice (some ⟨g, 0, none⟩) h.names.length cap)).setCell ⟨w.heap.size + 1, 0, none⟩ (.slice (some ⟨g, 0, none⟩) h.names.length cap)).setCell ⟨w.heap.size + 1, 1, none⟩ (.int .i64 h.key)).setCell ⟨w.heap.size + 1, 2, none⟩ (.int .i64 h.maxN)).setCell ⟨w.heap.size + 1, 3, none⟩ (.int .i64 h.maxB))) hown (fun b hb => by
        have : b = g := by simpa [Value.ownBlock] using hb.symm
        subst this
        rw [four_other _ _ _ _ _ (by omega), heap_setCell_other wr ⟨w.heap.size, 0, none⟩ b _ (by simp; omega)])
      have HF := Lib.hid (And.intro hy2 (And.intro hfin (own_lowC hown3 (show w.heap.size ≤ wA.heap.size by omega))))
      clear hy0 hy1 hy2 hfin hown3 hown hB hx0 hx1 hnx
      go_wp2
      obtain ⟨hz2, hfin, ho⟩ := HF.out
      obtain ⟨k0, k1, k2, k3, _⟩ := four_facts hz2
      exact bodyPost_ret (v := .agg #[.slice (some ⟨g, 0, none⟩) h.names.length cap, .int .i64 h.key, .int .i64 h.maxN, .int .i64 h.maxB]) (by simp [results, Tryd.results35, go_sem, k0, k1, k2, k3]) rfl ⟨g, cap, rfl, ho, hfin⟩
end Go.Proofs.YtojmfcpkmknleaaDoor
