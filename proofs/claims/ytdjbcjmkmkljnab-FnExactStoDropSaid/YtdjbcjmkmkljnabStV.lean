/- Walks: storage, by the specification: what is used first; what is not there. -/
import Derived.Test.YtdjbcjmkmkljnabStU
namespace Go.Proofs.Ytdjbcjmkmkljnab
open Go.RowKit Go.Maps

set_option maxRecDepth 100000 in
set_option maxHeartbeats 3200000 in
theorem spec_use_neg (v : Value) (L : List En) (q : Int) (w : World) (hR : ERow w v L) (hn : L.length ≤ 2000000) (hq : q < 0) :
    Calls Try.prog 7 #[.agg #[v], .int .i64 q] w (SRet w L) := by
  obtain ⟨wA, hwA⟩ : ∃ wA, wA = (w.alloc (.cells #[v] 28)).alloc (.cells #[.slice none 0 0] 28) := ⟨_, rfl⟩
  have hbA : Below w.heap.size w wA := by rw [hwA]; exact ((Below.refl _ _).alloc (Nat.le_refl _) _).alloc (by simp) _
  have hsA : wA.heap.size = w.heap.size + 2 := by rw [hwA]; simp
  have h0 : Boxed wA w.heap.size 28 v := by rw [hwA]; exact (Boxed.new w _ _).alloc _
  have h1 : Boxed wA (w.heap.size + 1) 28 (.slice none 0 0) := by
    rw [hwA]
    have := Boxed.new (w.alloc (.cells #[v] 28)) 28 (.slice none 0 0)
    rwa [World.size_alloc] at this
  have hRA := hR.below (Nat.le_refl _) hbA
  obtain ⟨a, c, rfl, hl1, hl2, h3⟩ := hR
  unfold maxLen at hl2
  have HX : Hid (∀ W, Below wA.heap.size wA W → Boxed W w.heap.size 28 (.slice a L.length c) ∧ Boxed W (w.heap.size + 1) 28 (.slice none 0 0) ∧ Below w.heap.size w W) := Lib.hid fun W hW =>
    ⟨h0.kept (grown_of_below hW none) (by simp), h1.kept (grown_of_below hW none) (by simp), hbA.trans (hW.mono hbA.size)⟩
  have HWt : Hid (∀ W, Below wA.heap.size wA W → Calls Try.prog 18 #[.agg #[.slice a L.length c], .int .i64 (-1)] W fun e' w' => ∃ a' c', e' = .returned (.agg #[.slice a' L.length c']) ∧ w'.ownsRow W.heap.size 43 9 (.slice a' L.length c') L.length (ecells L) ∧ Below W.heap.size W w') := Lib.hid fun W hW =>
    (spec_without (.slice a L.length c) L (-1) W (hRA.below (Nat.le_refl _) hW) hn).mono fun e' w' ⟨v', g1, g2, g3, g4⟩ => by
      rw [wtE_neg L (by decide)] at g2
      obtain ⟨a', c', rfl⟩ := own_slice g2
      exact ⟨a', c', g1, g2, g3⟩
  have HW := Lib.hid hwA
  clear hwA h0 h1 h3 hbA hRA
  go_enter Try.func7, Try.ntmps7
  go_wp2_with fail
  rw [← HW.out]
  have q0 : wA.cell? ⟨w.heap.size, 0, none⟩ = some (.slice a L.length c) := (HX.out wA (Below.refl _ _)).1.cell
  go_wp2_with fail
  clear q0
  refine (HWt.out wA (Below.refl _ _)).mono ?_
  rintro e' w7 ⟨a', c', rfl, ho, hC⟩
  obtain ⟨-, hv7, hb7⟩ := HX.out w7 hC
  have u1 := hv7.cell
  have u2 := hv7.frozen
  obtain ⟨k1, k2⟩ := told_row hv7 (by decide) ho
  have k3 := k1.cell
  have HF := Lib.hid (And.intro k3 (And.intro (own_lowB k2 (show w.heap.size ≤ wA.heap.size from by omega)) (hb7.setCell (p := ⟨w.heap.size + 1, 0, none⟩) (by simp) (.slice a' L.length c'))))
  clear hC hv7 hb7 ho k1 k2 k3
  go_wp2
  obtain ⟨k3, k2, k4⟩ := HF.out
  refine bodyPost_ret (v := .agg #[.slice a' L.length c']) (by simp [results, Try.results7, go_sem, k3]) rfl ⟨_, rfl, k2, k4⟩

set_option maxRecDepth 100000 in
set_option maxHeartbeats 3200000 in
theorem spec_use_ge (v : Value) (L : List En) (q : Int) (w : World) (hR : ERow w v L) (hn : L.length ≤ 2000000) (hq : 0 ≤ q ∧ (L.length : Int) ≤ q) :
    Calls Try.prog 7 #[.agg #[v], .int .i64 q] w (SRet w L) := by
  obtain ⟨wA, hwA⟩ : ∃ wA, wA = (w.alloc (.cells #[v] 28)).alloc (.cells #[.slice none 0 0] 28) := ⟨_, rfl⟩
  have hbA : Below w.heap.size w wA := by rw [hwA]; exact ((Below.refl _ _).alloc (Nat.le_refl _) _).alloc (by simp) _
  have hsA : wA.heap.size = w.heap.size + 2 := by rw [hwA]; simp
  have h0 : Boxed wA w.heap.size 28 v := by rw [hwA]; exact (Boxed.new w _ _).alloc _
  have h1 : Boxed wA (w.heap.size + 1) 28 (.slice none 0 0) := by
    rw [hwA]
    have := Boxed.new (w.alloc (.cells #[v] 28)) 28 (.slice none 0 0)
    rwa [World.size_alloc] at this
  have hRA := hR.below (Nat.le_refl _) hbA
  obtain ⟨a, c, rfl, hl1, hl2, h3⟩ := hR
  unfold maxLen at hl2
  have HX : Hid (∀ W, Below wA.heap.size wA W → Boxed W w.heap.size 28 (.slice a L.length c) ∧ Boxed W (w.heap.size + 1) 28 (.slice none 0 0) ∧ Below w.heap.size w W) := Lib.hid fun W hW =>
    ⟨h0.kept (grown_of_below hW none) (by simp), h1.kept (grown_of_below hW none) (by simp), hbA.trans (hW.mono hbA.size)⟩
  have HWt : Hid (∀ W, Below wA.heap.size wA W → Calls Try.prog 18 #[.agg #[.slice a L.length c], .int .i64 (-1)] W fun e' w' => ∃ a' c', e' = .returned (.agg #[.slice a' L.length c']) ∧ w'.ownsRow W.heap.size 43 9 (.slice a' L.length c') L.length (ecells L) ∧ Below W.heap.size W w') := Lib.hid fun W hW =>
    (spec_without (.slice a L.length c) L (-1) W (hRA.below (Nat.le_refl _) hW) hn).mono fun e' w' ⟨v', g1, g2, g3, g4⟩ => by
      rw [wtE_neg L (by decide)] at g2
      obtain ⟨a', c', rfl⟩ := own_slice g2
      exact ⟨a', c', g1, g2, g3⟩
  have HW := Lib.hid hwA
  clear hwA h0 h1 h3 hbA hRA
  go_enter Try.func7, Try.ntmps7
  go_wp2_with fail
  rw [← HW.out]
  have q0 : wA.cell? ⟨w.heap.size, 0, none⟩ = some (.slice a L.length c) := (HX.out wA (Below.refl _ _)).1.cell
  go_wp2_with fail
  clear q0
  refine (HWt.out wA (Below.refl _ _)).mono ?_
  rintro e' w7 ⟨a', c', rfl, ho, hC⟩
  obtain ⟨-, hv7, hb7⟩ := HX.out w7 hC
  have u1 := hv7.cell
  have u2 := hv7.frozen
  obtain ⟨k1, k2⟩ := told_row hv7 (by decide) ho
  have k3 := k1.cell
  have HF := Lib.hid (And.intro k3 (And.intro (own_lowB k2 (show w.heap.size ≤ wA.heap.size from by omega)) (hb7.setCell (p := ⟨w.heap.size + 1, 0, none⟩) (by simp) (.slice a' L.length c'))))
  clear hC hv7 hb7 ho k1 k2 k3
  go_wp2
  obtain ⟨k3, k2, k4⟩ := HF.out
  refine bodyPost_ret (v := .agg #[.slice a' L.length c']) (by simp [results, Try.results7, go_sem, k3]) rfl ⟨_, rfl, k2, k4⟩

theorem spec_stouse (v : Value) (L : List En) (q : Int) (w : World) (hR : ERow w v L) (hn : L.length ≤ 2000000) :
    Calls Try.prog 7 #[.agg #[v], .int .i64 q] w (SRet w (useE L q)) := by
  by_cases h0 : 0 ≤ q
  · obtain ⟨k, rfl⟩ := Int.eq_ofNat_of_zero_le h0
    cases hg : L[k]? with
    | none =>
      have hk : L.length ≤ k := List.getElem?_eq_none_iff.1 hg
      have : useE L (k : Int) = L := by unfold useE; rw [if_pos h0, Int.toNat_natCast, hg]
      rw [this]
      exact spec_use_ge v L k w hR hn ⟨h0, by omega⟩
    | some e =>
      rw [wtE_use hg]
      exact spec_use_at v L k e w hR hn hg
  · have : useE L q = L := by unfold useE; rw [if_neg h0]
    rw [this]
    exact spec_use_neg v L q w hR hn (by omega)
end Go.Proofs.Ytdjbcjmkmkljnab
