/- Walks: keys, by the specification. -/
import Derived.Test.YtiepobifbkleaaaDoorGKy
import Derived.Test.YtiepobifbkleaaaDoorGhed
import Derived.Test.YtiepobifbkleaaaDoorGCfa
import Derived.Test.YtiepobifbkleaaaDoorGcan
import Derived.Test.YtiepobifbkleaaaDoorGCs
namespace Go.Proofs.YtiepobifbkleaaaDoor
open Go.RowKit Go.Maps

theorem can_key (t : ByteArray) : ∃ (T : ByteArray) (ok : Bool), canV (canonL t.data.toList) = .tuple #[.string T, .bool ok] ∧ (placeB t.data.toList = (ok && decide (T = t))) := by
  refine ⟨_, _, rfl, ?_⟩
  unfold placeB
  cases h : canonL t.data.toList with
  | none => simp
  | some c =>
    simp only [Option.some.injEq, Option.isSome_some, Bool.true_and, Option.getD_some]
    rw [Bool.eq_iff_iff]
    simp only [decide_eq_true_eq]
    constructor
    · intro e; rw [e]
    · intro e; rw [← e]

set_option maxRecDepth 100000 in
set_option maxHeartbeats 1600000 in
theorem spec_keyok (hs : List Hs) (v : Value) (k : Ky) (w : World) (hH : HRow w v hs) (hN : HOks hs 1048576) (hk : k.place.size ≤ 1048576) :
    Calls Tryd.prog 8 #[.agg #[v], keyV k] w fun e w' => e = .returned (.bool (keyB hs k)) ∧ Below w.heap.size w w' := by
  obtain ⟨hz, hb2, hA0, hA1⟩ := box2_new w (.cells #[v] 32) (.cells #[.int .i64 k.house, .string k.place, .int .i64 k.mask] 34)
  obtain ⟨W2, hW2⟩ : ∃ W2, W2 = (w.alloc (.cells #[v] 32)).alloc (.cells #[.int .i64 k.house, .string k.place, .int .i64 k.mask] 34) := ⟨_, rfl⟩
  rw [← hW2] at hz hb2 hA0 hA1
  have hP := spec_canon k.place W2 (by omega)
  obtain ⟨T, ok, hT, hTT⟩ := can_key k.place
  rw [hT] at hP
  have HX : Hid (∀ W, Below W2.heap.size W2 W → Below w.heap.size w W ∧ W.heap[w.heap.size]? = some (.cells #[v] 32 (0, 0)) ∧ W.heap[w.heap.size + 1]? = some (.cells #[.int .i64 k.house, .string k.place, .int .i64 k.mask] 34 (0, 0)) ∧
      Calls Tryd.prog 23 #[.agg #[v]] W fun e w' => e = .returned (.bool (cfgB hs)) ∧ Below W.heap.size W w') := Lib.hid fun W hW => by
    have hb := hb2.trans (hW.mono (by omega))
    exact ⟨hb, (hW.block _ (by omega)).trans hA0, (hW.block _ (by omega)).trans hA1, spec_cfgok hs v W (hH.below (Nat.le_refl _) hb) hN⟩
  have hdef : keyB hs k = (cfgB hs && (decide (0 ≤ k.house ∧ k.house < hs.length) && ((ok && decide (T = k.place)) && decide (0 ≤ k.mask ∧ k.mask < 8)))) := by rw [← hTT]; rfl
  rw [hdef]
  obtain ⟨va, vc, rfl, hcap, hmx, _⟩ := hH
  unfold maxLen at hmx
  obtain ⟨house, place, mask⟩ := k
  unfold keyV
  dsimp only at *
  have HM : Hid (∀ W, Calls Tryd.prog 24 #[.int .i64 mask, .int .i64 0, .int .i64 7] W fun e w' => e = .returned (.bool (decide (0 ≤ mask ∧ mask < 8))) ∧ W = w') := Lib.hid fun W => by
    refine (l1_in mask 0 7 W).mono ?_
    rintro e w' ⟨rfl, rfl⟩
    refine ⟨?_, rfl⟩
    have : (decide (0 ≤ mask) && decide (mask ≤ 7)) = decide (0 ≤ mask ∧ mask < 8) := by rw [Bool.eq_iff_iff]; simp; omega
    rw [this]
  obtain ⟨t0, u0⟩ := one_fact hA0
  obtain ⟨t1, t2, t3, u1, u2, u3⟩ := three_facts hA1
  rw [hW2] at t0 t1 t2 t3 u0 u1 u2 u3
  have HW := Lib.hid hW2
  clear hW2 hb2 hA0 hA1 hdef hN hk hT hTT
  generalize cfgB hs = R1 at *
  generalize hD : decide (0 ≤ house ∧ house < (hs.length : Int)) = R2 at *
  have HD := Lib.hid hD
  clear hD
  generalize decide (0 ≤ mask ∧ mask < 8) = R4 at *
  go_enter Tryd.func8, Tryd.ntmps8
  go_wp2_with fail
  rw [← HW.out]
  refine hP.mono ?_
  rintro e w1 ⟨rfl, hb1⟩
  have HB1 := Lib.hid hb1
  obtain ⟨k2, k3, k4, k5⟩ := HX.out _ hb1
  have hz1 := hb1.size
  clear hP hb1 t0 t1 t2 t3 u0 u1 u2 u3 k2
  obtain ⟨t0, _⟩ := one_fact k3
  obtain ⟨t1, t2, t3, _⟩ := three_facts k4
  clear k3 k4
  go_wp2_with fail
  refine k5.mono ?_
  rintro e w2 ⟨rfl, hb2⟩
  obtain ⟨k2, k3, k4, _⟩ := HX.out _ (HB1.out.trans (hb2.mono hz1))
  clear k5 hb2 t0 t1 t2 t3
  obtain ⟨t0, _⟩ := one_fact k3
  obtain ⟨t1, t2, t3, _⟩ := three_facts k4
  have HB := Lib.hid k2
  clear k2 k3 k4
  cases R1
  · go_wp2
    go_ret
    exact ⟨rfl, HB.out⟩
  have dt : 0 ≤ house → house < (hs.length : Int) → R2 = true := fun a b => by rw [← HD.out]; exact decide_eq_true ⟨a, b⟩
  have df : ¬ (0 ≤ house ∧ house < (hs.length : Int)) → R2 = false := fun a => by rw [← HD.out]; exact decide_eq_false a
  have DT := Lib.hid (And.intro dt df)
  clear dt df
  by_cases c1 : 0 ≤ house
  · by_cases c2 : house < (hs.length : Int)
    · obtain rfl := DT.out.1 c1 c2
      cases ok
      · go_wp2
        go_ret
        exact ⟨rfl, HB.out⟩
      · by_cases c3 : T = place
        · subst c3
          have se := str_same T
          go_wp2_with fail
          refine (HM.out _).mono ?_
          rintro e w5 ⟨rfl, rfl⟩
          go_wp2
          go_ret
          exact ⟨by first | rfl | simp, HB.out⟩
        · have se := str_ne c3
          have C3 := Lib.hid c3
          clear c3
          go_wp2
          go_ret
          exact ⟨by first | rfl | simp [C3.out], HB.out⟩
    · obtain rfl := DT.out.2 (fun e => c2 e.2)
      go_wp2
      go_ret
      exact ⟨rfl, HB.out⟩
  · obtain rfl := DT.out.2 (fun e => c1 e.1)
    go_wp2
    go_ret
    exact ⟨rfl, HB.out⟩
end Go.Proofs.YtiepobifbkleaaaDoor
