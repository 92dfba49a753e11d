/- Walks: the helpers of the law on one house alone. -/
import Derived.Test.YtojmfcpkmknleaaDoorCfPu
import Derived.Test.YtojmfcpkmknleaaDoorCfgB3
import Derived.BigQuiet
import Derived.Deep.QuietTactic
namespace Go.Proofs.YtojmfcpkmknleaaDoor
open Go.RowKit

set_option maxHeartbeats 1600000 in
theorem gd_textsS (v1 v2 : Value) (L : List ByteArray) (w : World) (h1 : SRow w v1 L) (h2 : SRow w v2 L) :
    Calls Tryd.prog 36 #[v1, v2] w fun e w' => e = .returned (.bool true) ∧ Below w.heap.size w w' := by
  obtain ⟨a1, c1, rfl, l1, m1, k1⟩ := h1
  obtain ⟨a2, c2, rfl, l2, m2, k2⟩ := h2
  have H1 := Lib.hid k1; have H2 := Lib.hid k2
  unfold maxLen at m1
  clear k1 k2
  go_enter Tryd.func36, Tryd.ntmps36
  go_wp2_with fail
  go_loopw [5] (fun i wr => ∃ k : Nat, k ≤ L.length ∧ i = .int .i64 k ∧ Below w.heap.size w wr) (fun i _ => L.length - (intOf i).toNat)
  case atStart => exact ⟨0, Nat.zero_le _, rfl, Below.refl _ _⟩
  case round =>
    obtain ⟨k, hk, rfl, hnx⟩ := hrel
    by_cases hlt : k < L.length
    · obtain ⟨x, hg⟩ : ∃ x, L[k]? = some x := ⟨_, List.getElem?_eq_getElem hlt⟩
      obtain ⟨b1, o1, e1, hb1, q1⟩ := H1.out k x hg
      obtain ⟨b2, o2, e2, hb2, q2⟩ := H2.out k x hg
      subst e1 e2
      have p1 := (hnx.cell (p := ⟨b1, o1 + k, none⟩) hb1).trans q1
      have p2 := (hnx.cell (p := ⟨b2, o2 + k, none⟩) hb2).trans q2
      have hki : (k : Int) < (L.length : Int) := by omega
      have es : (x.toList != x.toList) = false := by simp
      have HB := Lib.hid hnx
      clear hnx q1 q2 hg
      go_wp2_with fail
      go_quiet (fail)
      go_wp2
      go_roundw
      case rel => exact ⟨k + 1, by omega, by go_num, below_drewN HB.out⟩
      case measure => simp [intOf]; omega
    · have hke : k = L.length := by omega
      subst hke
      have HB := Lib.hid hnx
      clear hnx
      go_wp2
      go_ret
      exact ⟨rfl, HB.out⟩

set_option maxHeartbeats 3200000 in
theorem gd_cfgS (v1 v2 : Value) (hs : List Hs) (w : World) (h1 : HRow w v1 hs) (h2 : HRow w v2 hs) :
    Calls Tryd.prog 17 #[.agg #[v1], .agg #[v2]] w fun e w' => e = .returned (.bool true) ∧ Below w.heap.size w w' := by
  have H1 := Lib.hid h1; have H2 := Lib.hid h2
  obtain ⟨a1, c1, rfl, l1, m1, _⟩ := h1
  obtain ⟨a2, c2, rfl, l2, m2, _⟩ := h2
  unfold maxLen at m1
  obtain ⟨W0, hW0⟩ : ∃ W0, W0 = (w.alloc (.cells #[.slice a1 hs.length c1] 25)).alloc (.cells #[.slice a2 hs.length c2] 25) := ⟨_, rfl⟩
  have hz0 : W0.heap.size = w.heap.size + 2 := by rw [hW0]; simp
  have hb0 : Below w.heap.size w W0 := by rw [hW0]; exact ((Below.refl _ _).alloc (Nat.le_refl _) _).alloc (by simp) _
  have hA0 : W0.heap[w.heap.size]? = some (.cells #[.slice a1 hs.length c1] 25 (0, 0)) := by
    rw [hW0, Below.heap_alloc _ _ _ (by simp)]; exact heap_alloc_new w _
  have hA1 : W0.heap[w.heap.size + 1]? = some (.cells #[.slice a2 hs.length c2] 25 (0, 0)) := by
    rw [hW0]
    have := heap_alloc_new (w.alloc (.cells #[.slice a1 hs.length c1] 25)) (.cells #[.slice a2 hs.length c2] 25)
    simpa using this
  have hall : ∀ W, Below W0.heap.size W0 W → Below w.heap.size w W ∧ W.cell? ⟨w.heap.size, 0, none⟩ = some (.slice a1 hs.length c1) ∧ W.cell? ⟨w.heap.size + 1, 0, none⟩ = some (.slice a2 hs.length c2) ∧ HRow W (.slice a1 hs.length c1) hs ∧ HRow W (.slice a2 hs.length c2) hs := fun W hW => by
    have h0 := hb0.trans (hW.mono hb0.size)
    exact ⟨h0, (one_factC ((hW.block w.heap.size (by omega)).trans hA0)).1, (one_factC ((hW.block (w.heap.size + 1) (by omega)).trans hA1)).1, H1.out.below (Nat.le_refl _) h0, H2.out.below (Nat.le_refl _) h0⟩
  have HA := Lib.hid hall
  obtain ⟨_, x0, y0, _⟩ := hall W0 (Below.refl _ _)
  rw [hW0] at x0 y0
  have HW := Lib.hid hW0
  clear hA0 hA1 hb0 hall hW0
  go_enter Tryd.func17, Tryd.ntmps17
  go_wp2_with fail
  rw [← HW.out]
  clear x0 y0
  go_loopw [5] (fun i wr => ∃ k : Nat, k ≤ hs.length ∧ i = .int .i64 k ∧ Below W0.heap.size W0 wr) (fun i _ => hs.length - (intOf i).toNat)
  case atStart => exact ⟨0, Nat.zero_le _, rfl, Below.refl _ _⟩
  case round =>
    obtain ⟨k, hk, rfl, hnx⟩ := hrel
    obtain ⟨hfin, x0, y0, hr1, hr2⟩ := HA.out wr hnx
    by_cases hlt : k < hs.length
    · obtain ⟨h, hg⟩ : ∃ h, hs[k]? = some h := ⟨_, List.getElem?_eq_getElem hlt⟩
      have hki : (k : Int) < (hs.length : Int) := by omega
      obtain ⟨_, _, e1, _, _, t1⟩ := hr1
      obtain ⟨_, _, e2, _, _, t2⟩ := hr2
      obtain ⟨b1, o1, u1, ea1, hb1, p0, hS1, p1, p2, p3⟩ := t1 k h hg
      obtain ⟨b2, o2, u2, ea2, hb2, q0, hS2, q1, q2, q3⟩ := t2 k h hg
      have f1 : a1 = some ⟨b1, o1, none⟩ := by injection e1 with e1 _ _; rw [e1, ea1]
      have f2 : a2 = some ⟨b2, o2, none⟩ := by injection e2 with e2 _ _; rw [e2, ea2]
      subst f1 f2
      have hlx : w.heap.size + 1 < wr.heap.size := World.block_lt_of_cell? wr _ y0
      obtain ⟨W5, hW5⟩ : ∃ W5, W5 = (wr.alloc (.cells #[u1, .int .i64 h.key, .int .i64 h.maxN, .int .i64 h.maxB] 33)).alloc (.cells #[u2, .int .i64 h.key, .int .i64 h.maxN, .int .i64 h.maxB] 33) := ⟨_, rfl⟩
      have hz5 : W5.heap.size = wr.heap.size + 2 := by rw [hW5]; simp
      have hb5 : Below wr.heap.size wr W5 := by rw [hW5]; exact ((Below.refl _ _).alloc (Nat.le_refl _) _).alloc (by simp) _
      have hX : W5.heap[wr.heap.size]? = some (.cells #[u1, .int .i64 h.key, .int .i64 h.maxN, .int .i64 h.maxB] 33 (0, 0)) := by
        rw [hW5, Below.heap_alloc _ _ _ (by simp)]; exact heap_alloc_new wr _
      have hY : W5.heap[wr.heap.size + 1]? = some (.cells #[u2, .int .i64 h.key, .int .i64 h.maxN, .int .i64 h.maxB] 33 (0, 0)) := by
        rw [hW5]
        have := heap_alloc_new (wr.alloc (.cells #[u1, .int .i64 h.key, .int .i64 h.maxN, .int .i64 h.maxB] 33)) (.cells #[u2, .int .i64 h.key, .int .i64 h.maxN, .int .i64 h.maxB] 33)
        simpa using this
      have hT := gd_textsS u1 u2 h.names W5 (hS1.below (Nat.le_refl _) hb5) (hS2.below (Nat.le_refl _) hb5)
      have hF5 : ∀ W, Below W5.heap.size W5 W → Below W0.heap.size W0 W ∧ (W.cell? ⟨wr.heap.size, 0, none⟩ = some u1 ∧ W.cell? ⟨wr.heap.size, 1, none⟩ = some (.int .i64 h.key) ∧ W.cell? ⟨wr.heap.size, 2, none⟩ = some (.int .i64 h.maxN) ∧ W.cell? ⟨wr.heap.size, 3, none⟩ = some (.int .i64 h.maxB)) ∧
          (W.cell? ⟨wr.heap.size + 1, 0, none⟩ = some u2 ∧ W.cell? ⟨wr.heap.size + 1, 1, none⟩ = some (.int .i64 h.key) ∧ W.cell? ⟨wr.heap.size + 1, 2, none⟩ = some (.int .i64 h.maxN) ∧ W.cell? ⟨wr.heap.size + 1, 3, none⟩ = some (.int .i64 h.maxB)) := fun W hW => by
        obtain ⟨a0, a1, a2, a3, _⟩ := four_factsC ((hW.block wr.heap.size (by omega)).trans hX)
        obtain ⟨b0, b1, b2, b3, _⟩ := four_factsC ((hW.block (wr.heap.size + 1) (by omega)).trans hY)
        exact ⟨hnx.trans ((hb5.trans (hW.mono (by omega))).mono hnx.size), ⟨a0, a1, a2, a3⟩, ⟨b0, b1, b2, b3⟩⟩
      have HF5 := Lib.hid hF5
      obtain ⟨_, ⟨i0, i1, i2, i3⟩, ⟨j0, j1, j2, j3⟩⟩ := hF5 W5 (Below.refl _ _)
      have n1 : (h.key != h.key) = false := by simp
      have n2 : (h.maxN != h.maxN) = false := by simp
      have n3 : (h.maxB != h.maxB) = false := by simp
      obtain ⟨d1, k1, rfl, _⟩ := srow_get hS1
      obtain ⟨d2, k2, rfl, _⟩ := srow_get hS2
      rw [hW5] at i0 i1 i2 i3 j0 j1 j2 j3
      have HW5 := Lib.hid hW5
      have q0' : (wr.alloc (.cells #[.slice d1 h.names.length k1, .int .i64 h.key, .int .i64 h.maxN, .int .i64 h.maxB] 33)).cell? ⟨w.heap.size + 1, 0, none⟩ = some (.slice (some ⟨b2, o2, none⟩) hs.length c2) := (World.cell?_alloc_lt wr _ _ hlx).trans y0
      have r0 : (wr.alloc (.cells #[.slice d1 h.names.length k1, .int .i64 h.key, .int .i64 h.maxN, .int .i64 h.maxB] 33)).cell? ⟨b2, o2 + k * 4, none⟩ = some (.slice d2 h.names.length k2) := (World.cell?_alloc_lt wr _ _ hb2).trans q0
      have r1 : (wr.alloc (.cells #[.slice d1 h.names.length k1, .int .i64 h.key, .int .i64 h.maxN, .int .i64 h.maxB] 33)).cell? ⟨b2, o2 + k * 4 + 1, none⟩ = some (.int .i64 h.key) := (World.cell?_alloc_lt wr _ _ hb2).trans q1
      have r2 : (wr.alloc (.cells #[.slice d1 h.names.length k1, .int .i64 h.key, .int .i64 h.maxN, .int .i64 h.maxB] 33)).cell? ⟨b2, o2 + k * 4 + 2, none⟩ = some (.int .i64 h.maxN) := (World.cell?_alloc_lt wr _ _ hb2).trans q2
      have r3 : (wr.alloc (.cells #[.slice d1 h.names.length k1, .int .i64 h.key, .int .i64 h.maxN, .int .i64 h.maxB] 33)).cell? ⟨b2, o2 + k * 4 + 3, none⟩ = some (.int .i64 h.maxB) := (World.cell?_alloc_lt wr _ _ hb2).trans q3
      clear hX hY hF5 hb5 hW5 hS1 hS2 t1 t2 e1 e2 hnx hfin hg
      go_wp2_with fail
      rw [← HW5.out]
      refine hT.mono ?_
      rintro e w6 ⟨rfl, hb6⟩
      obtain ⟨hb9, ⟨i0, i1, i2, i3⟩, ⟨j0, j1, j2, j3⟩⟩ := HF5.out w6 hb6
      have HB9 := Lib.hid hb9
      clear hT hb6 hb9
      go_wp2
      go_roundw
      case rel => exact ⟨k + 1, by omega, by go_num, HB9.out⟩
      case measure => simp [intOf]; omega
    · have hke : k = hs.length := by omega
      subst hke
      have HFin := Lib.hid hfin
      clear hfin hr1 hr2 hnx
      go_wp2
      go_ret
      exact ⟨rfl, HFin.out⟩
theorem cfg_one {hs : List Hs} {k : Nat} {h : Hs} (hc : cfgB hs = true) (hk : hs[k]? = some h) : cfgB [h] = true := by
  rw [cfgB_iff] at hc ⊢
  obtain ⟨_, c, d⟩ := hc
  refine ⟨by simp, fun x hx => by rw [List.mem_singleton.1 hx]; exact c h (List.mem_of_getElem? hk), ?_⟩
  have e : namesL hs = namesL (hs.take k) ++ namesL (hs.drop k) := by
    unfold namesL; rw [← List.flatMap_append, List.take_append_drop]
  obtain ⟨hlt, rfl⟩ := List.getElem?_eq_some_iff.1 hk
  have e2 : namesL (hs.drop k) = hs[k].names ++ namesL (hs.drop (k + 1)) := by
    rw [List.drop_eq_getElem_cons hlt]; rfl
  rw [e, e2] at d
  have d2 := (List.nodup_append.1 (List.nodup_append.1 d).2.1).1
  simpa [namesL] using d2
theorem alone_route {hs : List Hs} {k i : Nat} {h g : Hs} {x : ByteArray} (hc : cfgB hs = true) (hk : hs[k]? = some h) (hi : hs[i]? = some g) (hx : x ∈ g.names) : (routeI [h] x == 0) = ((i : Int) == (k : Int)) := by
  have h1 := cfg_one hc hk
  by_cases e : i = k
  · subst e
    rw [hi] at hk; cases hk
    rw [route_at h1 (i := 0) (by rfl) hx]; simp
  · have h2 : routeI [h] x = -1 := by
      unfold routeI
      rw [if_pos h1, find_none (fun y hy => ?_)]
      · rfl
      · rw [List.mem_singleton.1 hy]
        intro hxh
        have a1 := route_at hc hk hxh
        have a2 := route_at hc hi hx
        rw [a1] at a2
        exact e (by omega)
    rw [h2]
    have : ¬ ((i : Int) = (k : Int)) := by omega
    simp [this]
end Go.Proofs.YtojmfcpkmknleaaDoor
