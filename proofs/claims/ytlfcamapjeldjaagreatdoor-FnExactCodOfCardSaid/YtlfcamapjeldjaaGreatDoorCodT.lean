/- Walks: one thing that somebody would take, by the specification, whole. -/
import Derived.Test.YtlfcamapjeldjaaGreatDoorCodS
namespace Go.Proofs.YtlfcamapjeldjaaGreatDoor
open Go.RowKit

set_option maxHeartbeats 1600000 in
theorem spec_one6 (s : ByteArray) (w : World) (hs : s.size ≤ 1048576) :
    Calls Tryz.prog 28 #[.string s] w fun e w' => ORet s.data.toList e ∧ Below w.heap.size w w' := by
  have hO := Eq.refl (codOne s.data.toList)
  conv at hO => rhs; unfold codOne
  have hcut := fun W => spec_cut s 59 W (by unfold maxLen; omega)
  obtain ⟨hl1, hl2⟩ := cutL_len s.data.toList 59
  have hsl := size_len s
  unfold nameOf restOf at hO
  generalize cutL s.data.toList 59 = C at *
  obtain ⟨A, R, B⟩ := C
  simp only at hO hcut hl1 hl2
  have hz1 : (ByteArray.mk A.toArray).size ≤ 1048576 := by rw [size_len]; simp only; omega
  have hz2 : (ByteArray.mk R.toArray).size ≤ 1048576 := by rw [size_len]; simp only; omega
  have hT1 := fun W => spec_trim ⟨A.toArray⟩ W (by unfold maxLen; omega)
  have hT2 := fun W => spec_trim ⟨R.toArray⟩ W (by unfold maxLen; omega)
  simp only at hT1 hT2
  have ht1 := trimB_len A 32
  have ht2 := trimB_len R 32
  generalize Lib.trimB A 32 = A' at *
  generalize Lib.trimB R 32 = R' at *
  have hz3 : (ByteArray.mk A'.toArray).size ≤ 1048576 := by rw [size_len]; simp only; omega
  have hz4 : (ByteArray.mk R'.toArray).size ≤ 1048576 := by rw [size_len]; simp only; omega
  have hL := fun W => spec_lower ⟨A'.toArray⟩ W hz3
  simp only at hL
  generalize lowL A' = A2 at *
  have hN := fun W => l6_code ⟨A2.toArray⟩ W
  simp only at hN
  have hcr : codN A2 < -1 ↔ codN A2 = -2 := by
    unfold codN; repeat' split
    all_goals decide
  generalize codN A2 = c at *
  have hP := fun W => l1_starts ⟨R'.toArray⟩ ⟨#[113, 61]⟩ W (by unfold maxLen; omega) (by decide)
  have hpre : preB (ByteArray.mk #[113, 61]).data.toList (ByteArray.mk R'.toArray).data.toList = decide (R'.take 2 = [113, 61]) := pre_q R'
  rw [hpre] at hP
  have hx : (ByteArray.mk R'.toArray).extract 2 R'.length = ⟨(R'.drop 2).toArray⟩ := by
    have := ext_drop ⟨R'.toArray⟩ 2
    rw [size_len] at this
    exact this
  have hz5 : (ByteArray.mk (R'.drop 2).toArray).size ≤ maxLen := by rw [size_len] at hz4 ⊢; unfold maxLen; simp only [List.length_drop] at hz4 ⊢; omega
  have hQ := fun W => spec_codq ⟨(R'.drop 2).toArray⟩ W hz5
  unfold QEnd at hQ
  simp only at hQ
  have h2 : R'.take 2 = [113, 61] → 2 ≤ (ByteArray.mk R'.toArray).size := fun h => by
    have := congrArg List.length h
    rw [List.length_take] at this
    have e : ([113, 61] : List UInt8).length = 2 := rfl
    rw [size_len]; simp only; omega
  generalize codQ (R'.drop 2) = Y at *
  obtain ⟨q, k⟩ := Y
  simp only at hO hQ
  have HC := Lib.hid hcut; have HT1 := Lib.hid hT1; have HT2 := Lib.hid hT2; have HL := Lib.hid hL; have HN := Lib.hid hN; have HP := Lib.hid hP; have HQ := Lib.hid hQ; have HX := Lib.hid hx; have H2 := Lib.hid h2; have HCR := Lib.hid hcr; have HZ4 := Lib.hid hz4
  clear hcut hT1 hT2 hL hN hP hQ hl1 hl2 ht1 ht2 hsl hz1 hz2 hz3 hz4 hz5 hpre hx h2 hcr
  obtain ⟨wA, hwA⟩ : ∃ wA, wA = w.alloc (.cells #[.int .i64 0, .int .i64 0] 52) := ⟨_, rfl⟩
  have hsA : wA.heap.size = w.heap.size + 1 := by rw [hwA]; simp
  have hX0 : wA.heap[w.heap.size]? = some (.cells #[.int .i64 0, .int .i64 0] 52 (0, 0)) := by rw [hwA]; exact heap_alloc_new w _
  have HB0 : Hid (∀ W, Below wA.heap.size wA W → W.heap[w.heap.size]? = some (.cells #[.int .i64 0, .int .i64 0] 52 (0, 0))) := Lib.hid fun W hW => (hW.block w.heap.size (by omega)).trans hX0
  have HA : Hid (∀ W, Below wA.heap.size wA W → Below w.heap.size w W) := Lib.hid fun W hW => by
    have hb0 : Below w.heap.size w wA := by rw [hwA]; exact (Below.refl _ _).alloc (Nat.le_refl _) _
    exact hb0.trans (hW.mono (by omega))
  have HWA := Lib.hid hwA
  clear hwA hX0
  go_enter Tryz.func28, Tryz.ntmps28
  go_wp2_with fail
  rw [← HWA.out]
  refine (HC.out _).mono ?_
  rintro e w1 ⟨rfl, n1, rfl⟩
  have hb1 : Below wA.heap.size wA (wA.drewN n1) := below_drewN (Below.refl _ _)
  go_wp2_with fail
  refine (HT1.out _).mono ?_
  rintro e w2 ⟨rfl, rfl⟩
  simp only [strV]
  go_wp2_with fail
  refine (HL.out _).mono ?_
  rintro e w3 ⟨rfl, hb3⟩
  have hb03 := hb1.trans (hb3.mono hb1.size)
  clear hb1 hb3
  simp only [strV]
  go_wp2_with fail
  refine (HN.out _).mono ?_
  rintro e w4 ⟨rfl, hb4⟩
  have hb04 := hb03.trans (hb4.mono hb03.size)
  clear hb03 hb4
  obtain ⟨w5, hw5⟩ : ∃ w5, w5 = w4.alloc (.cells #[.int .i64 c, .int .i64 1000] 52) := ⟨_, rfl⟩
  have hs5 : w5.heap.size = w4.heap.size + 1 := by rw [hw5]; simp
  have hb45 : Below w4.heap.size w4 w5 := by rw [hw5]; exact (Below.refl _ _).alloc (Nat.le_refl _) _
  have hX5 : w5.heap[w4.heap.size]? = some (.cells #[.int .i64 c, .int .i64 1000] 52 (0, 0)) := by rw [hw5]; exact heap_alloc_new w4 _
  have hs4 := hb04.size
  have hb05 := hb04.trans (hb45.mono hs4)
  obtain ⟨t0, t1, g0, g1⟩ := wt_facts hX5
  have u0 := t0
  have u1 := t1
  rw [hw5] at u0 u1
  have HW5 := Lib.hid hw5
  clear hw5 hb04 hb45
  by_cases hc : c = -2
  · rw [if_pos hc] at hO
    have hlt : c < -1 := HCR.out.2 hc
    clear hc
    have r0 := HB0.out _ hb05
    have rr := r0
    rw [HW5.out] at rr
    obtain ⟨q0, q1, f0, f1⟩ := wt_facts rr
    obtain ⟨z0, z1, _, _⟩ := wt_facts (wt_set r0 (.int .i64 0) (.int .i64 0))
    have HZ := Lib.hid (And.intro z0 z1)
    have HF := Lib.hid (wt_below (b := w.heap.size) (HA.out _ hb05) (Nat.le_refl _) (.int .i64 0) (.int .i64 0))
    have HR := Lib.hid (show (codOne s.data.toList).isSome = false from by rw [hO]; rfl)
    have HR2 := Lib.hid (show ∀ x, codOne s.data.toList = some x → x = (0, 0) from fun x hx => by rw [hO] at hx; cases hx)
    clear z0 z1 r0 rr hO
    go_wp2
    rw [← HW5.out]
    obtain ⟨z0, z1⟩ := HZ.out
    refine bodyPost_ret (v := .tuple #[.agg #[.int .i64 0, .int .i64 0], .bool false]) (by simp [results, Tryz.results28, go_sem, z0, z1]) rfl ?_
    exact ⟨⟨_, _, by rw [HR.out], HR2.out⟩, HF.out⟩
  · rw [if_neg hc] at hO
    have hlt : ¬ c < -1 := fun h => hc (HCR.out.1 h)
    clear hc
    cases B
    · rw [if_pos rfl] at hO
      have r0 := HB0.out _ hb05
      have rr := r0
      rw [HW5.out] at rr
      obtain ⟨q0, q1, f0, f1⟩ := wt_facts rr
      obtain ⟨z0, z1, _, _⟩ := wt_facts (wt_set r0 (.int .i64 c) (.int .i64 1000))
      have HZ := Lib.hid (And.intro z0 z1)
      have HF := Lib.hid (wt_below (b := w.heap.size) (HA.out _ hb05) (Nat.le_refl _) (.int .i64 c) (.int .i64 1000))
      have HR := Lib.hid (show (codOne s.data.toList).isSome = true from by rw [hO]; rfl)
      have HR2 := Lib.hid (show ∀ x, codOne s.data.toList = some x → x = (c, 1000) from fun x hx => by rw [hO] at hx; injection hx with hx; exact hx.symm)
      clear z0 z1 r0 rr hO
      go_wp2
      rw [← HW5.out]
      obtain ⟨z0, z1⟩ := HZ.out
      refine bodyPost_ret (v := .tuple #[.agg #[.int .i64 c, .int .i64 1000], .bool true]) (by simp [results, Tryz.results28, go_sem, z0, z1]) rfl ?_
      exact ⟨⟨_, _, by rw [HR.out], HR2.out⟩, HF.out⟩
    · rw [if_neg (by decide)] at hO
      go_wp2_with fail
      rw [← HW5.out]
      refine (HT2.out _).mono ?_
      rintro e w6 ⟨rfl, rfl⟩
      simp only [strV]
      clear u0 u1
      go_wp2_with fail
      refine (HP.out _).mono ?_
      rintro e w7 ⟨rfl, rfl⟩
      by_cases t : R'.take 2 = [113, 61]
      · rw [decide_eq_true t]
        have hO2 : codOne s.data.toList = if k = true then some (c, (q : Int)) else none := by
          rw [hO]
          by_cases hk : k = true
          · rw [if_pos ⟨t, hk⟩, if_pos hk]
          · rw [if_neg (fun h => hk h.2), if_neg hk]
        have h2 := H2.out t
        have hz4 := HZ4.out
        clear t hO
        go_wp2_with fail
        rw [HX.out]
        refine (HQ.out _).mono ?_
        rintro e w8 ⟨rfl, n8, rfl⟩
        have hb8 : Below w5.heap.size w5 (w5.drewN n8) := below_drewN (Below.refl _ _)
        have hX8 : (w5.drewN n8).heap[w4.heap.size]? = some (.cells #[.int .i64 c, .int .i64 1000] 52 (0, 0)) := hX5
        have hb08 := hb05.trans (hb8.mono hb05.size)
        clear hX5 hb05 hb8 h2 hz4 t0 t1 g0 g1
        obtain ⟨t0, t1, g0, g1⟩ := wt_facts hX8
        have hX9 := wt_set1 hX8 (.int .i64 q)
        have hb09 : Below wA.heap.size wA ((w5.drewN n8).setCell ⟨w4.heap.size, 1, none⟩ (.int .i64 q)) := hb08.setCell (by simpa using hs4) _
        have HX9 := Lib.hid (wt_facts hX9)
        have HB9 := Lib.hid hb09
        clear hX8 hX9 hb09 hb08
        cases k
        · rw [if_neg (by decide)] at hO2
          have r0 := HB0.out _ HB9.out
          obtain ⟨q0, q1, f0, f1⟩ := wt_facts r0
          obtain ⟨z0, z1, _, _⟩ := wt_facts (wt_set r0 (.int .i64 c) (.int .i64 q))
          have HZ := Lib.hid (And.intro z0 z1)
          have HF := Lib.hid (wt_below (b := w.heap.size) (HA.out _ HB9.out) (Nat.le_refl _) (.int .i64 c) (.int .i64 q))
          have HR := Lib.hid (show (codOne s.data.toList).isSome = false from by rw [hO2]; rfl)
          have HR2 := Lib.hid (show ∀ x, codOne s.data.toList = some x → x = (c, (q : Int)) from fun x hx => by rw [hO2] at hx; cases hx)
          obtain ⟨y0, y1, y2, y3⟩ := HX9.out
          clear z0 z1 r0 hO2
          go_wp2
          obtain ⟨z0, z1⟩ := HZ.out
          refine bodyPost_ret (v := .tuple #[.agg #[.int .i64 c, .int .i64 q], .bool false]) (by simp [results, Tryz.results28, go_sem, z0, z1]) rfl ?_
          exact ⟨⟨_, _, by rw [HR.out], HR2.out⟩, HF.out⟩
        · rw [if_pos rfl] at hO2
          have r0 := HB0.out _ HB9.out
          obtain ⟨q0, q1, f0, f1⟩ := wt_facts r0
          obtain ⟨z0, z1, _, _⟩ := wt_facts (wt_set r0 (.int .i64 c) (.int .i64 q))
          have HZ := Lib.hid (And.intro z0 z1)
          have HF := Lib.hid (wt_below (b := w.heap.size) (HA.out _ HB9.out) (Nat.le_refl _) (.int .i64 c) (.int .i64 q))
          have HR := Lib.hid (show (codOne s.data.toList).isSome = true from by rw [hO2]; rfl)
          have HR2 := Lib.hid (show ∀ x, codOne s.data.toList = some x → x = (c, (q : Int)) from fun x hx => by rw [hO2] at hx; injection hx with hx; exact hx.symm)
          obtain ⟨y0, y1, y2, y3⟩ := HX9.out
          clear z0 z1 r0 hO2
          go_wp2
          obtain ⟨z0, z1⟩ := HZ.out
          refine bodyPost_ret (v := .tuple #[.agg #[.int .i64 c, .int .i64 q], .bool true]) (by simp [results, Tryz.results28, go_sem, z0, z1]) rfl ?_
          exact ⟨⟨_, _, by rw [HR.out], HR2.out⟩, HF.out⟩
      · rw [decide_eq_false t]
        have hO2 : codOne s.data.toList = none := by
          rw [hO, if_neg (fun h => t h.1)]
        clear t hO
        have r0 := HB0.out _ hb05
        obtain ⟨q0, q1, f0, f1⟩ := wt_facts r0
        obtain ⟨z0, z1, _, _⟩ := wt_facts (wt_set r0 (.int .i64 0) (.int .i64 0))
        have HZ := Lib.hid (And.intro z0 z1)
        have HF := Lib.hid (wt_below (b := w.heap.size) (HA.out _ hb05) (Nat.le_refl _) (.int .i64 0) (.int .i64 0))
        have HR := Lib.hid (show (codOne s.data.toList).isSome = false from by rw [hO2]; rfl)
        have HR2 := Lib.hid (show ∀ x, codOne s.data.toList = some x → x = (0, 0) from fun x hx => by rw [hO2] at hx; cases hx)
        clear z0 z1 r0
        go_wp2
        obtain ⟨z0, z1⟩ := HZ.out
        refine bodyPost_ret (v := .tuple #[.agg #[.int .i64 0, .int .i64 0], .bool false]) (by simp [results, Tryz.results28, go_sem, z0, z1]) rfl ?_
        exact ⟨⟨_, _, by rw [HR.out], HR2.out⟩, HF.out⟩
end Go.Proofs.YtlfcamapjeldjaaGreatDoor
