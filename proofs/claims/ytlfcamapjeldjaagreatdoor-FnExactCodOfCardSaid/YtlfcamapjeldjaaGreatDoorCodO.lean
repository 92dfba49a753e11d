/- Walks: one thing that somebody would take, by the program. -/
import Derived.Test.YtlfcamapjeldjaaGreatDoorCodN
namespace Go.Proofs.YtlfcamapjeldjaaGreatDoor
open Go.RowKit

theorem codOne_eq (l : List UInt8) : codOne l = if (codW (nameOf l)).2 = false then none
    else if (cutL l 59).2.2 = false then some ((codW (nameOf l)).1, 1000)
    else if (restOf l).take 2 = [113, 61] ∧ (codQ ((restOf l).drop 2)).2 = true then some ((codW (nameOf l)).1, ((codQ ((restOf l).drop 2)).1 : Int)) else none := by
  have h := codW_codN (nameOf l)
  have hg := codW_ge (nameOf l)
  unfold codOne
  by_cases c : (codW (nameOf l)).2 = true
  · rw [if_pos c] at h
    rw [h, if_neg (by omega), if_neg (show ¬ (codW (nameOf l)).2 = false from by rw [c]; decide)]
  · rw [if_neg c] at h
    rw [h, if_pos rfl, if_pos (by simpa using c)]

/-- What the reading of one thing returns. -/
def ORet (l : List UInt8) (e : Ending) : Prop := ∃ c q : Int, e = .returned (.tuple #[.agg #[.int .i64 c, .int .i64 q], .bool (codOne l).isSome]) ∧ ∀ x, codOne l = some x → x = (c, q)

theorem wt_facts {w : World} {b : Nat} {x y : Value} {T : TypeId} (h : w.heap[b]? = some (.cells #[x, y] T (0, 0))) : w.cell? ⟨b, 0, none⟩ = some x ∧ w.cell? ⟨b, 1, none⟩ = some y ∧ w.frozen? ⟨b, 0, none⟩ = false ∧ w.frozen? ⟨b, 1, none⟩ = false := by
  simp [World.cell?, World.frozen?, h]
theorem wt_set {w : World} {b : Nat} {x y : Value} {T : TypeId} (h : w.heap[b]? = some (.cells #[x, y] T (0, 0))) (x' y' : Value) : ((w.setCell ⟨b, 0, none⟩ x').setCell ⟨b, 1, none⟩ y').heap[b]? = some (.cells #[x', y'] T (0, 0)) := by
  have h1 := heap_setCell_same w b 0 _ _ x' h
  have h2 := heap_setCell_same _ b 1 _ _ y' h1
  simpa using h2
theorem wt_set1 {w : World} {b : Nat} {x y : Value} {T : TypeId} (h : w.heap[b]? = some (.cells #[x, y] T (0, 0))) (y' : Value) : (w.setCell ⟨b, 1, none⟩ y').heap[b]? = some (.cells #[x, y'] T (0, 0)) := by
  have h2 := heap_setCell_same _ b 1 _ _ y' h
  simpa using h2
theorem wt_below {w W : World} {b : Nat} (h : Below w.heap.size w W) (hb : w.heap.size ≤ b) (x y : Value) : Below w.heap.size w ((W.setCell ⟨b, 0, none⟩ x).setCell ⟨b, 1, none⟩ y) :=
  (h.setCell (by simpa using hb) x).setCell (by simpa using hb) y

set_option maxHeartbeats 1600000 in
theorem read_want (s : ByteArray) (w : World) (hs : s.size ≤ 1048576) (hd : Cds w) (hc : Cls w) (he : Errs w) :
    Calls Tryz.prog 26 #[.string s] w fun e w' => ORet s.data.toList e ∧ Below w.heap.size w w' := by
  have hO := codOne_eq s.data.toList
  have hcut := fun W => impl_cut s 59 W (by omega)
  obtain ⟨hl1, hl2⟩ := cutL_len s.data.toList 59
  have hsl := size_len s
  unfold nameOf restOf at hO
  generalize cutL s.data.toList 59 = C at *
  obtain ⟨A, R, B⟩ := C
  simp only at hO hcut hl1 hl2
  have hz1 : (ByteArray.mk A.toArray).size ≤ 1048576 := by rw [size_len]; simp only; omega
  have hz2 : (ByteArray.mk R.toArray).size ≤ 1048576 := by rw [size_len]; simp only; omega
  have hT1 := fun W => impl_trim ⟨A.toArray⟩ W (by omega)
  have hT2 := fun W => impl_trim ⟨R.toArray⟩ W (by omega)
  simp only at hT1 hT2
  have ht1 := trimB_len A 32
  have ht2 := trimB_len R 32
  generalize Lib.trimB A 32 = A' at *
  generalize Lib.trimB R 32 = R' at *
  have hz3 : (ByteArray.mk A'.toArray).size ≤ 1048576 := by rw [size_len]; simp only; omega
  have hz4 : (ByteArray.mk R'.toArray).size ≤ 1048576 := by rw [size_len]; simp only; omega
  have HX : Hid (∀ W, Below w.heap.size w W → Cds W ∧ Cls W ∧ Errs W) := Lib.hid fun W hW => ⟨hd.below hW (Nat.le_refl _), hc.below hW (Nat.le_refl _), he.below hW (Nat.le_refl _)⟩
  have hW := fun W (h1 : Cds W) (h2 : Cls W) => wanted_code ⟨A'.toArray⟩ W (by unfold maxLen; omega) h1 h2
  have hP := fun W => cut_prefix ⟨R'.toArray⟩ W (by unfold maxLen; omega)
  simp only at hW hP
  have hz5 : (ByteArray.mk (R'.drop 2).toArray).size ≤ 281474976710656 := by rw [size_len] at hz4 ⊢; simp only [List.length_drop] at hz4 ⊢; omega
  have hQ1 := fun W (h : Errs W) => impl_codq ⟨(R'.drop 2).toArray⟩ W hz5 h
  have hQ2 := fun W (h : Errs W) => impl_codq ⟨R'.toArray⟩ W (by omega) h
  unfold QEnd at hQ1 hQ2
  simp only at hQ1 hQ2
  unfold CRet at hW
  generalize codW A' = X at *
  obtain ⟨c, b⟩ := X
  simp only at hO hW
  generalize codQ (R'.drop 2) = Y at *
  obtain ⟨q, k⟩ := Y
  generalize codQ R' = Z at *
  obtain ⟨q2, k2⟩ := Z
  simp only at hO hQ1 hQ2
  have HC := Lib.hid hcut; have HT1 := Lib.hid hT1; have HT2 := Lib.hid hT2; have HW := Lib.hid hW; have HP := Lib.hid hP; have HQ1 := Lib.hid hQ1; have HQ2 := Lib.hid hQ2
  clear hcut hT1 hT2 hW hP hQ1 hQ2 hl1 hl2 ht1 ht2 hsl hd hc he hz1 hz2 hz3 hz4 hz5
  obtain ⟨wA, hwA⟩ : ∃ wA, wA = w.alloc (.cells #[.int .i64 0, .int .i64 0] 52) := ⟨_, rfl⟩
  have hsA : wA.heap.size = w.heap.size + 1 := by rw [hwA]; simp
  have hX0 : wA.heap[w.heap.size]? = some (.cells #[.int .i64 0, .int .i64 0] 52 (0, 0)) := by rw [hwA]; exact heap_alloc_new w _
  have HB0 : Hid (∀ W, Below wA.heap.size wA W → W.heap[w.heap.size]? = some (.cells #[.int .i64 0, .int .i64 0] 52 (0, 0))) := Lib.hid fun W hW => (hW.block w.heap.size (by omega)).trans hX0
  have HA : Hid (∀ W, Below wA.heap.size wA W → Below w.heap.size w W) := Lib.hid fun W hW => by
    have hb0 : Below w.heap.size w wA := by rw [hwA]; exact (Below.refl _ _).alloc (Nat.le_refl _) _
    exact hb0.trans (hW.mono (by omega))
  have HWA := Lib.hid hwA
  clear hwA hX0
  go_enter Tryz.func26, Tryz.ntmps26
  go_wp2_with fail
  rw [← HWA.out]
  refine (HC.out _).mono ?_
  rintro e w1 ⟨rfl, hb1⟩
  go_wp2_with fail
  refine (HT1.out _).mono ?_
  rintro e w2 ⟨rfl, hb2⟩
  have hb02 := hb1.trans (hb2.mono hb1.size)
  obtain ⟨k1, k2, _⟩ := HX.out _ (HA.out _ hb02)
  have hWw := HW.out w2 k1 k2
  clear k1 k2 hb1 hb2
  simp only [strV]
  go_wp2_with fail
  refine hWw.mono ?_
  rintro e w3 ⟨rfl, hb3⟩
  have hb03 := hb02.trans (hb3.mono hb02.size)
  clear hb02 hb3 hWw
  cases b
  · rw [if_pos rfl] at hO
    have r0 := HB0.out _ hb03
    obtain ⟨q0, q1, f0, f1⟩ := wt_facts r0
    obtain ⟨z0, z1, _, _⟩ := wt_facts (wt_set r0 (.int .i64 0) (.int .i64 0))
    have HZ := Lib.hid (And.intro z0 z1)
    have HF := Lib.hid (wt_below (b := w.heap.size) (HA.out _ hb03) (Nat.le_refl _) (.int .i64 0) (.int .i64 0))
    have HR := Lib.hid (show (codOne s.data.toList).isSome = false from by rw [hO]; rfl)
    have HR2 := Lib.hid (show ∀ x, codOne s.data.toList = some x → x = (0, 0) from fun x hx => by rw [hO] at hx; cases hx)
    clear z0 z1 r0
    go_wp2
    obtain ⟨z0, z1⟩ := HZ.out
    refine bodyPost_ret (v := .tuple #[.agg #[.int .i64 0, .int .i64 0], .bool false]) (by simp [results, Tryz.results26, go_sem, z0, z1]) rfl ?_
    exact ⟨⟨_, _, by rw [HR.out], HR2.out⟩, HF.out⟩
  · rw [if_neg (by decide)] at hO
    cases B
    · rw [if_pos rfl] at hO
      have r0 := HB0.out _ hb03
      obtain ⟨q0, q1, f0, f1⟩ := wt_facts r0
      obtain ⟨z0, z1, _, _⟩ := wt_facts (wt_set r0 (.int .i64 c) (.int .i64 1000))
      have HZ := Lib.hid (And.intro z0 z1)
      have HF := Lib.hid (wt_below (b := w.heap.size) (HA.out _ hb03) (Nat.le_refl _) (.int .i64 c) (.int .i64 1000))
      have HR := Lib.hid (show (codOne s.data.toList).isSome = true from by rw [hO]; rfl)
      have HR2 := Lib.hid (show ∀ x, codOne s.data.toList = some x → x = (c, 1000) from fun x hx => by rw [hO] at hx; injection hx with hx; exact hx.symm)
      clear z0 z1 r0
      go_wp2
      obtain ⟨z0, z1⟩ := HZ.out
      refine bodyPost_ret (v := .tuple #[.agg #[.int .i64 c, .int .i64 1000], .bool true]) (by simp [results, Tryz.results26, go_sem, z0, z1]) rfl ?_
      exact ⟨⟨_, _, by rw [HR.out], HR2.out⟩, HF.out⟩
    · rw [if_neg (by decide)] at hO
      go_wp2_with fail
      refine (HT2.out _).mono ?_
      rintro e w4 ⟨rfl, hb4⟩
      have hb04 := hb03.trans (hb4.mono hb03.size)
      clear hb03 hb4
      simp only [strV]
      go_wp2_with fail
      refine (HP.out _).mono ?_
      rintro e w5 ⟨rfl, rfl⟩
      obtain ⟨_, _, k3⟩ := HX.out _ (HA.out _ hb04)
      by_cases t : R'.take 2 = [113, 61]
      · rw [if_pos t, decide_eq_true t]
        have hQ := HQ1.out _ k3
        have hO2 : codOne s.data.toList = if k = true then some (c, (q : Int)) else none := by
          rw [hO]
          by_cases hk : k = true
          · rw [if_pos ⟨t, hk⟩, if_pos hk]
          · rw [if_neg (fun h => hk h.2), if_neg hk]
        clear t k3 hO
        go_wp2_with fail
        refine hQ.mono ?_
        rintro e w6 ⟨rfl, hb6⟩
        have hb06 := hb04.trans (hb6.mono hb04.size)
        clear hb04 hb6 hQ
        cases k
        · rw [if_neg (by decide)] at hO2
          have r0 := HB0.out _ hb06
          obtain ⟨q0, q1, f0, f1⟩ := wt_facts r0
          obtain ⟨z0, z1, _, _⟩ := wt_facts (wt_set r0 (.int .i64 c) (.int .i64 (q : Int)))
          have HZ := Lib.hid (And.intro z0 z1)
          have HF := Lib.hid (wt_below (b := w.heap.size) (HA.out _ hb06) (Nat.le_refl _) (.int .i64 c) (.int .i64 (q : Int)))
          have HR := Lib.hid (show (codOne s.data.toList).isSome = false from by rw [hO2]; rfl)
          have HR2 := Lib.hid (show ∀ x, codOne s.data.toList = some x → x = (c, (q : Int)) from fun x hx => by rw [hO2] at hx; cases hx)
          clear z0 z1 r0
          go_wp2
          obtain ⟨z0, z1⟩ := HZ.out
          refine bodyPost_ret (v := .tuple #[.agg #[.int .i64 c, .int .i64 (q : Int)], .bool false]) (by simp [results, Tryz.results26, go_sem, z0, z1]) rfl ?_
          exact ⟨⟨_, _, by rw [HR.out], HR2.out⟩, HF.out⟩
        · rw [if_pos rfl] at hO2
          have r0 := HB0.out _ hb06
          obtain ⟨q0, q1, f0, f1⟩ := wt_facts r0
          obtain ⟨z0, z1, _, _⟩ := wt_facts (wt_set r0 (.int .i64 c) (.int .i64 (q : Int)))
          have HZ := Lib.hid (And.intro z0 z1)
          have HF := Lib.hid (wt_below (b := w.heap.size) (HA.out _ hb06) (Nat.le_refl _) (.int .i64 c) (.int .i64 (q : Int)))
          have HR := Lib.hid (show (codOne s.data.toList).isSome = true from by rw [hO2]; rfl)
          have HR2 := Lib.hid (show ∀ x, codOne s.data.toList = some x → x = (c, (q : Int)) from fun x hx => by rw [hO2] at hx; injection hx with hx; exact hx.symm)
          clear z0 z1 r0
          go_wp2
          obtain ⟨z0, z1⟩ := HZ.out
          refine bodyPost_ret (v := .tuple #[.agg #[.int .i64 c, .int .i64 (q : Int)], .bool true]) (by simp [results, Tryz.results26, go_sem, z0, z1]) rfl ?_
          exact ⟨⟨_, _, by rw [HR.out], HR2.out⟩, HF.out⟩
      · rw [if_neg t, decide_eq_false t]
        have hQ := HQ2.out _ k3
        have hO2 : codOne s.data.toList = none := by
          rw [hO, if_neg (fun h => t h.1)]
        clear t k3 hO
        go_wp2_with fail
        refine hQ.mono ?_
        rintro e w6 ⟨rfl, hb6⟩
        have hb06 := hb04.trans (hb6.mono hb04.size)
        clear hb04 hb6 hQ
        have r0 := HB0.out _ hb06
        obtain ⟨q0, q1, f0, f1⟩ := wt_facts r0
        obtain ⟨z0, z1, _, _⟩ := wt_facts (wt_set r0 (.int .i64 c) (.int .i64 (q2 : Int)))
        have HZ := Lib.hid (And.intro z0 z1)
        have HF := Lib.hid (wt_below (b := w.heap.size) (HA.out _ hb06) (Nat.le_refl _) (.int .i64 c) (.int .i64 (q2 : Int)))
        have HR := Lib.hid (show (codOne s.data.toList).isSome = false from by rw [hO2]; rfl)
        have HR2 := Lib.hid (show ∀ x, codOne s.data.toList = some x → x = (c, (q2 : Int)) from fun x hx => by rw [hO2] at hx; cases hx)
        clear z0 z1 r0
        go_wp2
        obtain ⟨z0, z1⟩ := HZ.out
        refine bodyPost_ret (v := .tuple #[.agg #[.int .i64 c, .int .i64 (q2 : Int)], .bool false]) (by simp [results, Tryz.results26, go_sem, z0, z1]) rfl ?_
        exact ⟨⟨_, _, by rw [HR.out], HR2.out⟩, HF.out⟩
end Go.Proofs.YtlfcamapjeldjaaGreatDoor
