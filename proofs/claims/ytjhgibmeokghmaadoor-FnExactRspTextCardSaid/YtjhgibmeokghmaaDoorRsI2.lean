/- Walks: which answers are valid, by the program. -/
import Derived.Test.YtjhgibmeokghmaaDoorRsI
namespace Go.Proofs.YtjhgibmeokghmaaDoor
open Go.RowKit

set_option maxRecDepth 100000 in
set_option maxHeartbeats 3200000 in
theorem impl_rspok (r : Rp) (w : World) (ht : r.tag.size ≤ maxLen) (hb : r.body.size ≤ maxLen) (hcls : Cls w) :
    Calls Tryd.prog 17 #[rspV r] w fun e w' => e = .returned (.bool (rspB r)) ∧ Below w.heap.size w w' := by
  obtain ⟨c, m, hd, t, k, b⟩ := r
  dsimp only at ht hb
  have hL := fun W => lifetime_ok m W
  have hT := fun W (h : Cls W) => impl_tagok t W ht h
  have hK := fun W => coding_ok k W
  have hB := fun W => impl_bodyok b 20 W hb
  have hdef : rspB ⟨c, m, hd, t, k, b⟩ = (decide (100 ≤ c ∧ c ≤ 599) && (decide (-1 ≤ m ∧ m ≤ 999999) && (tagB t.data.toList && (decide (0 ≤ k ∧ k ≤ 2) && (decide (b.data.toList.length ≤ 20) && printB b.data.toList))))) := rfl
  rw [hdef]
  unfold rspV
  dsimp only
  generalize decide (-1 ≤ m ∧ m ≤ 999999) = B1 at *
  generalize tagB t.data.toList = B2 at *
  generalize decide (0 ≤ k ∧ k ≤ 2) = B3 at *
  generalize (decide (b.data.toList.length ≤ 20) && printB b.data.toList) = B4 at *
  clear hdef ht hb
  obtain ⟨wA, hwA⟩ : ∃ wA, wA = w.alloc (.cells #[.int .i64 c, .int .i64 m, .bool hd, .string t, .int .i64 k, .string b] 24) := ⟨_, rfl⟩
  have hsA : wA.heap.size = w.heap.size + 1 := by rw [hwA]; simp
  have hbA : Below w.heap.size w wA := by rw [hwA]; exact (Below.refl _ _).alloc (Nat.le_refl _) _
  have hH : wA.heap[w.heap.size]? = some (.cells #[.int .i64 c, .int .i64 m, .bool hd, .string t, .int .i64 k, .string b] 24 (0, 0)) := by rw [hwA]; exact heap_alloc_new w _
  have HX : Hid (∀ W, Below wA.heap.size wA W → Cls W ∧ Below w.heap.size w W ∧ W.heap[w.heap.size]? = some (.cells #[.int .i64 c, .int .i64 m, .bool hd, .string t, .int .i64 k, .string b] 24 (0, 0))) := Lib.hid fun W hW => by
    have hb' := hbA.trans (hW.mono (by omega))
    exact ⟨hcls.below hb' (Nat.le_refl _), hb', (hW.block _ (by omega)).trans hH⟩
  have HW := Lib.hid hwA
  have hb0 : Below wA.heap.size wA wA := Below.refl _ _
  have HB0 := Lib.hid hb0
  have HL := Lib.hid hL; have HT := Lib.hid hT; have HK := Lib.hid hK; have HBo := Lib.hid hB
  obtain ⟨q0, q1, _, q3, q4, q5⟩ := six_facts hH
  rw [hwA] at q0 q1 q3 q4 q5
  clear hL hT hK hB hwA hbA hcls hH hb0
  have h4 : c = 200 ∨ c = 304 ∨ c = 404 ∨ (¬ c = 200 ∧ ¬ c = 304 ∧ ¬ c = 404) := by omega
  rcases h4 with rfl | rfl | rfl | ⟨n0, n1, n2⟩
  · have hS := fun W => status_of 200 W
    rw [show stV 200 = .iface 80 (.agg #[]) from rfl] at hS
    rw [show decide (100 ≤ (200 : Int) ∧ (200 : Int) ≤ 599) = true from rfl, Bool.true_and]
    have HS := Lib.hid hS
    clear hS
    go_enter Tryd.func17, Tryd.ntmps17
    go_wp2_with fail
    refine (HS.out _).mono ?_
    rintro e w1 ⟨rfl, rfl⟩
    go_wp2_with fail
    rw [← HW.out]
    refine (known_ok _).mono ?_
    rintro e w1 ⟨rfl, hb1⟩
    clear q0 q1 q3 q4 q5
    obtain ⟨q0, q1, _, q3, q4, q5⟩ := six_facts (HX.out _ hb1).2.2
    go_wp2_with fail
    refine (HL.out _).mono ?_
    rintro e w2 ⟨rfl, rfl⟩
    cases B1
    · have HB := Lib.hid (HX.out _ hb1).2.1
      clear hb1
      go_wp2
      go_ret
      exact ⟨rfl, HB.out⟩
    go_wp2_with fail
    refine (HT.out _ (HX.out _ hb1).1).mono ?_
    rintro e w2 ⟨rfl, rfl⟩
    cases B2
    · have HB := Lib.hid (HX.out _ hb1).2.1
      clear hb1
      go_wp2
      go_ret
      exact ⟨rfl, HB.out⟩
    go_wp2_with fail
    refine (HK.out _).mono ?_
    rintro e w2 ⟨rfl, rfl⟩
    cases B3
    · have HB := Lib.hid (HX.out _ hb1).2.1
      clear hb1
      go_wp2
      go_ret
      exact ⟨rfl, HB.out⟩
    go_wp2_with fail
    refine (HBo.out _).mono ?_
    rintro e w2 ⟨rfl, rfl⟩
    have HB := Lib.hid (HX.out _ hb1).2.1
    clear hb1
    go_wp2
    go_ret
    exact ⟨rfl, HB.out⟩
  · have hS := fun W => status_of 304 W
    rw [show stV 304 = .iface 81 (.agg #[]) from rfl] at hS
    rw [show decide (100 ≤ (304 : Int) ∧ (304 : Int) ≤ 599) = true from rfl, Bool.true_and]
    have HS := Lib.hid hS
    clear hS
    go_enter Tryd.func17, Tryd.ntmps17
    go_wp2_with fail
    refine (HS.out _).mono ?_
    rintro e w1 ⟨rfl, rfl⟩
    go_wp2_with fail
    rw [← HW.out]
    refine (known_ok _).mono ?_
    rintro e w1 ⟨rfl, hb1⟩
    clear q0 q1 q3 q4 q5
    obtain ⟨q0, q1, _, q3, q4, q5⟩ := six_facts (HX.out _ hb1).2.2
    go_wp2_with fail
    refine (HL.out _).mono ?_
    rintro e w2 ⟨rfl, rfl⟩
    cases B1
    · have HB := Lib.hid (HX.out _ hb1).2.1
      clear hb1
      go_wp2
      go_ret
      exact ⟨rfl, HB.out⟩
    go_wp2_with fail
    refine (HT.out _ (HX.out _ hb1).1).mono ?_
    rintro e w2 ⟨rfl, rfl⟩
    cases B2
    · have HB := Lib.hid (HX.out _ hb1).2.1
      clear hb1
      go_wp2
      go_ret
      exact ⟨rfl, HB.out⟩
    go_wp2_with fail
    refine (HK.out _).mono ?_
    rintro e w2 ⟨rfl, rfl⟩
    cases B3
    · have HB := Lib.hid (HX.out _ hb1).2.1
      clear hb1
      go_wp2
      go_ret
      exact ⟨rfl, HB.out⟩
    go_wp2_with fail
    refine (HBo.out _).mono ?_
    rintro e w2 ⟨rfl, rfl⟩
    have HB := Lib.hid (HX.out _ hb1).2.1
    clear hb1
    go_wp2
    go_ret
    exact ⟨rfl, HB.out⟩
  · have hS := fun W => status_of 404 W
    rw [show stV 404 = .iface 82 (.agg #[]) from rfl] at hS
    rw [show decide (100 ≤ (404 : Int) ∧ (404 : Int) ≤ 599) = true from rfl, Bool.true_and]
    have HS := Lib.hid hS
    clear hS
    go_enter Tryd.func17, Tryd.ntmps17
    go_wp2_with fail
    refine (HS.out _).mono ?_
    rintro e w1 ⟨rfl, rfl⟩
    go_wp2_with fail
    rw [← HW.out]
    refine (known_ok _).mono ?_
    rintro e w1 ⟨rfl, hb1⟩
    clear q0 q1 q3 q4 q5
    obtain ⟨q0, q1, _, q3, q4, q5⟩ := six_facts (HX.out _ hb1).2.2
    go_wp2_with fail
    refine (HL.out _).mono ?_
    rintro e w2 ⟨rfl, rfl⟩
    cases B1
    · have HB := Lib.hid (HX.out _ hb1).2.1
      clear hb1
      go_wp2
      go_ret
      exact ⟨rfl, HB.out⟩
    go_wp2_with fail
    refine (HT.out _ (HX.out _ hb1).1).mono ?_
    rintro e w2 ⟨rfl, rfl⟩
    cases B2
    · have HB := Lib.hid (HX.out _ hb1).2.1
      clear hb1
      go_wp2
      go_ret
      exact ⟨rfl, HB.out⟩
    go_wp2_with fail
    refine (HK.out _).mono ?_
    rintro e w2 ⟨rfl, rfl⟩
    cases B3
    · have HB := Lib.hid (HX.out _ hb1).2.1
      clear hb1
      go_wp2
      go_ret
      exact ⟨rfl, HB.out⟩
    go_wp2_with fail
    refine (HBo.out _).mono ?_
    rintro e w2 ⟨rfl, rfl⟩
    have HB := Lib.hid (HX.out _ hb1).2.1
    clear hb1
    go_wp2
    go_ret
    exact ⟨rfl, HB.out⟩
  · have hS := fun W => status_of c W
    rw [show stV c = .iface 83 (.int .i64 c) from by unfold stV; rw [if_neg n0, if_neg n1, if_neg n2]] at hS
    have HS := Lib.hid hS
    have hO := fun W => other_ok c W
    clear hS n0 n1 n2
    generalize decide (100 ≤ c ∧ c ≤ 599) = B0 at *
    have HO := Lib.hid hO
    clear hO
    go_enter Tryd.func17, Tryd.ntmps17
    go_wp2_with fail
    refine (HS.out _).mono ?_
    rintro e w1 ⟨rfl, rfl⟩
    go_wp2_with fail
    refine (HO.out _).mono ?_
    rintro e w1 ⟨rfl, rfl⟩
    rw [← HW.out]
    have hb1 := HB0.out
    clear q0 q1 q3 q4 q5
    obtain ⟨q0, q1, _, q3, q4, q5⟩ := six_facts (HX.out _ hb1).2.2
    cases B0
    · have HB := Lib.hid (HX.out _ hb1).2.1
      clear hb1
      go_wp2
      go_ret
      exact ⟨rfl, HB.out⟩
    go_wp2_with fail
    refine (HL.out _).mono ?_
    rintro e w2 ⟨rfl, rfl⟩
    cases B1
    · have HB := Lib.hid (HX.out _ hb1).2.1
      clear hb1
      go_wp2
      go_ret
      exact ⟨rfl, HB.out⟩
    go_wp2_with fail
    refine (HT.out _ (HX.out _ hb1).1).mono ?_
    rintro e w2 ⟨rfl, rfl⟩
    cases B2
    · have HB := Lib.hid (HX.out _ hb1).2.1
      clear hb1
      go_wp2
      go_ret
      exact ⟨rfl, HB.out⟩
    go_wp2_with fail
    refine (HK.out _).mono ?_
    rintro e w2 ⟨rfl, rfl⟩
    cases B3
    · have HB := Lib.hid (HX.out _ hb1).2.1
      clear hb1
      go_wp2
      go_ret
      exact ⟨rfl, HB.out⟩
    go_wp2_with fail
    refine (HBo.out _).mono ?_
    rintro e w2 ⟨rfl, rfl⟩
    have HB := Lib.hid (HX.out _ hb1).2.1
    clear hb1
    go_wp2
    go_ret
    exact ⟨rfl, HB.out⟩
end Go.Proofs.YtjhgibmeokghmaaDoor
