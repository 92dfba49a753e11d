import Derived.Test.YtabidoopodbknaaGreatDoorGhx
-- from XGdH
/- Walks: the helpers of the laws on requests. -/
namespace Go.Proofs.YtabidoopodbknaaGreatDoor
open Go.RowKit

set_option maxHeartbeats 1600000 in
theorem gd_fields (v1 v2 : Value) (fs : List Fd) (w : World) (hF1 : FRow w v1 fs) (hF2 : FRow w v2 fs) (hn : fs.length ≤ 2000000) :
    Calls Tryz.prog 19 #[v1, v2] w fun e w' => e = .returned (.bool true) ∧ Below w.heap.size w w' := by
  obtain ⟨a1, c1, rfl, _, _, h1⟩ := hF1
  obtain ⟨a2, c2, rfl, _, _, h2⟩ := hF2
  have H1 := Lib.hid h1; have H2 := Lib.hid h2; clear h1 h2
  go_enter Tryz.func19, Tryz.ntmps19
  go_wp2
  go_loopw [5] (fun i wr => ∃ k : Nat, k ≤ fs.length ∧ i = .int .i64 k ∧ Below w.heap.size w wr) (fun i _ => fs.length - (intOf i).toNat)
  case atStart => exact ⟨0, Nat.zero_le _, rfl, Below.refl _ _⟩
  case round =>
    obtain ⟨k, hk, rfl, hnx⟩ := hrel
    by_cases hlt : k < fs.length
    · obtain ⟨b1, o1, rfl, hb1, c1, d1⟩ := H1.out k fs[k] (List.getElem?_eq_getElem hlt)
      obtain ⟨b2, o2, rfl, hb2, c2, d2⟩ := H2.out k fs[k] (List.getElem?_eq_getElem hlt)
      generalize fs[k] = f at *
      have HC : ∀ W, Below w.heap.size w W → W.cell? ⟨b1, o1 + k * 2, none⟩ = some (.string f.1) ∧ W.cell? ⟨b1, o1 + k * 2 + 1, none⟩ = some (.string f.2) ∧ W.cell? ⟨b2, o2 + k * 2, none⟩ = some (.string f.1) ∧ W.cell? ⟨b2, o2 + k * 2 + 1, none⟩ = some (.string f.2) := fun W hW =>
        ⟨(hW.cell (p := ⟨b1, o1 + k * 2, none⟩) hb1).trans c1, (hW.cell (p := ⟨b1, o1 + k * 2 + 1, none⟩) hb1).trans d1, (hW.cell (p := ⟨b2, o2 + k * 2, none⟩) hb2).trans c2, (hW.cell (p := ⟨b2, o2 + k * 2 + 1, none⟩) hb2).trans d2⟩
      obtain ⟨k1, k2, k3, k4⟩ := HC wr hnx
      clear c1 c2 d1 d2 HC H1 H2
      obtain ⟨nm, vl⟩ := f
      simp only at k1 k2 k3 k4
      have i1 : (k : Int) < (fs.length : Int) := by omega
      have e1 := str_refl nm; have e2 := str_refl vl
      have hbz := Lib.hid hnx.drew; clear hnx
      go_wp2_with fail
      go_region_with (fail)
      all_goals go_wp2
      all_goals go_roundw
      all_goals first
        | (case rel => exact ⟨k + 1, by omega, by go_num, hbz.out⟩)
        | (simp [intOf]; omega)
    · have : k = fs.length := by omega
      subst this
      go_wp2
      go_ret
      exact ⟨rfl, hnx⟩

set_option maxHeartbeats 1600000 in
theorem gd_head (h : Hd) (v1 v2 : Value) (w : World) (hF1 : FRow w v1 h.fs) (hF2 : FRow w v2 h.fs) (hn : h.fs.length ≤ 2000000) :
    Calls Tryz.prog 7 #[headV h v1, headV h v2] w fun e w' => e = .returned (.bool true) ∧ Below w.heap.size w w' := by
  obtain ⟨verb, target, host, fs, body⟩ := h
  dsimp only at *
  unfold headV
  obtain ⟨W2, hW2⟩ : ∃ W2, W2 = (w.alloc (.cells #[.string verb, .string target, .string host, v1, .string body] 27)).alloc (.cells #[.string verb, .string target, .string host, v2, .string body] 27) := ⟨_, rfl⟩
  have hz2 : W2.heap.size = w.heap.size + 2 := by rw [hW2]; simp
  have hb2 : Below w.heap.size w W2 := by
    rw [hW2]; exact ((Below.refl _ _).alloc (Nat.le_refl _) _).alloc (by simp) _
  have hA0 : W2.heap[w.heap.size]? = some (.cells #[.string verb, .string target, .string host, v1, .string body] 27 (0, 0)) := by
    rw [hW2, Below.heap_alloc _ _ _ (by simp)]; exact heap_alloc_new w _
  have hA1 : W2.heap[w.heap.size + 1]? = some (.cells #[.string verb, .string target, .string host, v2, .string body] 27 (0, 0)) := by
    rw [hW2]
    have := heap_alloc_new (w.alloc (.cells #[.string verb, .string target, .string host, v1, .string body] 27)) (.cells #[.string verb, .string target, .string host, v2, .string body] 27)
    simpa using this
  have hE := gd_fields v1 v2 fs W2 (hF1.below (Nat.le_refl _) hb2) (hF2.below (Nat.le_refl _) hb2) hn
  have HA := Lib.hid (And.intro hA0 hA1)
  have HB := Lib.hid hb2; have HW := Lib.hid hW2
  clear hA0 hA1 hb2 hW2 hF1 hF2
  have e1 := str_refl verb; have e2 := str_refl target; have e3 := str_refl host; have e4 := str_refl body
  go_enter Tryz.func7, Tryz.ntmps7
  go_wp2_with fail
  rw [← HW.out]
  refine hE.mono ?_
  rintro e w3 ⟨rfl, hb3⟩
  have h0 := (hb3.block w.heap.size (by omega)).trans HA.out.1
  have h1 := (hb3.block (w.heap.size + 1) (by omega)).trans HA.out.2
  have hbl := HB.out.trans (hb3.mono (by omega))
  clear hb3 hE
  obtain ⟨a0, a1, a2, a3, a4, _⟩ := five_facts h0
  obtain ⟨b0, b1, b2, b3, b4, _⟩ := five_facts h1
  go_wp2
  go_ret
  exact ⟨rfl, hbl⟩
end Go.Proofs.YtabidoopodbknaaGreatDoor

