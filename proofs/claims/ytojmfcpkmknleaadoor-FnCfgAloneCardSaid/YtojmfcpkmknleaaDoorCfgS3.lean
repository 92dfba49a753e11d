/- Walks: all names of all houses, by the specification. -/
import Derived.Test.YtojmfcpkmknleaaDoorCfgS2
namespace Go.Proofs.YtojmfcpkmknleaaDoor
open Go.RowKit

theorem Tryd.infoStrC : (Tryd.prog.info? 9).map (fun i => (i.zero, i.size, i.bytes)) = some (some (.string ⟨#[]⟩), 1, 16) := by kernel_rfl
theorem own_lowC {w : World} {B B' : Nat} {e : TypeId} {size : Nat} {v : Value} {n : Nat} {xs : List Value} (h : w.ownsRow B e size v n xs) (hB : B' ≤ B) : w.ownsRow B' e size v n xs := by
  refine ⟨h.1, ?_⟩
  rcases h.2 with h | ⟨g, cap, cur, h, hb, rest⟩
  · exact .inl h
  · exact .inr ⟨g, cap, cur, h, Nat.le_trans hB hb, rest⟩
/-- The cells of a list of texts that has one at least. -/
theorem srow_cells {w : World} {v : Value} {L : List ByteArray} (h : SRow w v L) (hn : 1 ≤ L.length) : ∃ b o c, v = .slice (some ⟨b, o, none⟩) L.length c ∧ L.length ≤ c ∧ c ≤ maxLen ∧ b < w.heap.size ∧
    ∀ j x, (L.map Value.string)[j]? = some x → w.cell? ((⟨b, o, none⟩ : Addr).add j) = some x := by
  obtain ⟨a, c, rfl, h1, h2, h3⟩ := h
  obtain ⟨b, o, rfl, hb, _⟩ := h3 0 L[0] (List.getElem?_eq_getElem (by omega))
  refine ⟨b, o, c, rfl, h1, h2, hb, fun j x hx => ?_⟩
  rw [List.getElem?_map] at hx
  cases hj : L[j]? with
  | none => rw [hj] at hx; cases hx
  | some s =>
    rw [hj] at hx
    obtain ⟨b', o', e, _, c1⟩ := h3 j s hj
    obtain ⟨rfl, rfl⟩ : b = b' ∧ o = o' := by simpa using e
    have ea : (⟨b, o, none⟩ : Addr).add j = ⟨b, o + j, none⟩ := by unfold Addr.add; split <;> simp_all
    rw [ea, c1]
    simpa using hx

set_option maxRecDepth 100000 in
set_option maxHeartbeats 3200000 in
theorem l5_names (hs : List Hs) (v : Value) (w : World) (hH : HRow w v hs) (hk : ∀ h ∈ hs, houseB h = true) (hn : hs.length ≤ 4) :
    Calls Tryd.prog 31 #[.agg #[v]] w fun e w' => ∃ u, e = .returned u ∧ w'.ownsRow w.heap.size 9 1 u (namesL hs).length ((namesL hs).map Value.string) ∧ Below w.heap.size w w' := by
  obtain ⟨i0, hi, hz0, hz1, hz2⟩ := info_parts Tryd.infoStrC
  obtain ⟨wA, hwA⟩ : ∃ wA, wA = w.alloc (.cells #[v] 25) := ⟨_, rfl⟩
  have hsA : wA.heap.size = w.heap.size + 1 := by rw [hwA]; simp
  have hbA : Below w.heap.size w wA := by rw [hwA]; exact (Below.refl _ _).alloc (Nat.le_refl _) _
  have hcell : ∀ W, Below (w.heap.size + 1) wA W → W.heap[w.heap.size]? = some (.cells #[v] 25 (0, 0)) := fun W hW =>
    (hW.block w.heap.size (by omega)).trans (by rw [hwA]; exact heap_alloc_new w _)
  have HCell := Lib.hid hcell
  have hH0 := hH
  obtain ⟨a, c, rfl, hl1, hl2, _⟩ := hH0
  have h4 : ∀ W, Below (w.heap.size + 1) wA W → Below w.heap.size w W ∧ HRow W (.slice a hs.length c) hs := fun W hW => by
    have hb := hbA.trans (hW.mono (Nat.le_succ _))
    exact ⟨hb, hH.below (Nat.le_refl _) hb⟩
  have HW := Lib.hid h4
  have HwA := Lib.hid hwA
  unfold maxLen at hl2
  have hb0 : Below (w.heap.size + 1) wA wA := Below.refl _ _
  have HB0 := Lib.hid hb0
  have HK := Lib.hid hk
  clear hcell hwA hbA h4 hb0 hH hk
  go_enter Tryd.func31, Tryd.ntmps31
  go_wp2_with fail
  rw [← HwA.out]
  have ho0 : (wA.alloc (.cells #[] 9)).ownsRow (w.heap.size + 1) 9 1 (.slice (some ⟨wA.heap.size, 0, none⟩) 0 0) 0 [] := World.ownsRow_made wA #[] 0 (Nat.le_of_eq hsA.symm) (by decide) rfl
  rw [hsA] at ho0
  have HO0 := Lib.hid ho0
  clear ho0
  go_loopw [3, 4] (fun x i wr => ∃ k : Nat, k ≤ hs.length ∧ i = .int .i64 k ∧ wr.ownsRow (w.heap.size + 1) 9 1 x (namesL (hs.take k)).length ((namesL (hs.take k)).map Value.string) ∧ Below (w.heap.size + 1) wA wr ∧ (namesL (hs.take k)).length ≤ 3 * k) (fun _ i _ => hs.length - (intOf i).toNat)
  case atStart => exact ⟨0, Nat.zero_le _, rfl, HO0.out, HB0.out.alloc (Nat.le_of_eq hsA.symm) _, Nat.le_refl _⟩
  case round =>
    obtain ⟨k, hk, rfl, hown, hnx, hkl⟩ := hrel
    obtain ⟨t0, _⟩ := one_fact (HCell.out wr hnx)
    by_cases hlt : k < hs.length
    · obtain ⟨h, hg⟩ : ∃ h, hs[k]? = some h := ⟨_, List.getElem?_eq_getElem hlt⟩
      obtain ⟨_, _, e1, _, _, hh⟩ := (HW.out wr hnx).2
      obtain ⟨b, o, u, ea, hb, c1, hS, c2, c3, c4⟩ := hh k h hg
      have ha : a = some ⟨b, o, none⟩ := by injection e1 with e1 _ _; rw [e1, ea]
      subst ha
      have hok := houseB_iff.1 (HK.out h (List.mem_of_getElem? hg))
      obtain ⟨b1, o1, cc, rfl, m1, m2, _, hcs⟩ := srow_cells hS (by have := hok.1; omega)
      have hm := hok.1
      have HT := Lib.hid (namesL_take hg)
      have hnx' := hnx.size
      generalize namesL (hs.take k) = rows at *
      have hlen3 : (h.names.map Value.string).length = h.names.length * 1 := by simp
      have hone : ∀ y ∈ h.names.map Value.string, y.oneCell' = true := fun y hy => by
        obtain ⟨s, _, rfl⟩ := List.mem_map.1 hy; rfl
      clear hok hS hh e1 hg ea c2 c3 c4
      obtain ⟨news, hnews⟩ : ∃ news, news = h.names.map Value.string := ⟨_, rfl⟩
      rw [← hnews] at hcs hlen3 hone
      have HNews := Lib.hid hnews
      clear hnews
      go_wp2_with (at_builtin; go_must (refine wpList_append_own wr rfl _ _ 31 rfl (w.heap.size + 1) 9 i0 _ 1 16 Tryd.underlying31 hi hz0 hz1 hz2 rfl (by decide) _ _ _ (by rfl) hown ⟨b1, o1, none⟩ h.names.length cc news rfl hlen3 hcs hone (by unfold maxLen; omega) (by omega) (by omega) ?_); intro v' w3 ho3 hg3 hnil3)
      have hb3 : Below (w.heap.size + 1) wr w3 := (Below.refl _ _).grown hg3 (by omega) (fun k' hk' => (hown.lt k' hk').1)
      have HL := Lib.hid (And.intro ho3 (And.intro (hnx.trans hb3) hkl))
      clear hown hg3 hb3 hnx ho3
      go_roundw
      case rel =>
        obtain ⟨r1, r2, r3⟩ := HL.out
        rw [HNews.out] at r1
        refine ⟨k + 1, by omega, by go_num, ?_, r2, ?_⟩ <;> rw [HT.out]
        · rw [List.length_append, List.map_append]; exact r1
        · rw [List.length_append]; omega
      case measure => simp [intOf]; omega
    · have hkl2 : k = hs.length := by omega
      rw [hkl2, List.take_length] at hown
      have HO := Lib.hid (own_lowC hown (Nat.le_succ _))
      have HB := Lib.hid (HW.out wr hnx).1
      clear hown hnx
      go_wp2
      go_ret
      exact ⟨_, rfl, HO.out, HB.out⟩
end Go.Proofs.YtojmfcpkmknleaaDoor
