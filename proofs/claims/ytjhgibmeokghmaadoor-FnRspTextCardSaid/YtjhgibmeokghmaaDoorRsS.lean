/- Walks: which answers are valid, by the specification. -/
import Derived.Test.YtjhgibmeokghmaaDoorRsP
import Derived.Test.YtjhgibmeokghmaaDoorMaskB
namespace Go.Proofs.YtjhgibmeokghmaaDoor
open Go.RowKit

set_option maxRecDepth 100000 in
set_option maxHeartbeats 3200000 in
theorem spec_rspok (r : Rp) (w : World) (ht : r.tag.size ≤ maxLen) (hb : r.body.size ≤ maxLen) :
    Calls Tryd.prog 18 #[rspV r] w fun e w' => e = .returned (.bool (rspB r)) ∧ Below w.heap.size w w' := by
  obtain ⟨c, m, hd, t, k, b⟩ := r
  dsimp only at ht hb
  have hC := fun W => cod_in1 c 100 599 W
  have hL := fun W => cod_in1 m (-1) 999999 W
  have hT := fun W => spec_tok t W ht
  have hK := fun W => cod_in1 k 0 2 W
  have hB := fun W => l4_body b W hb
  have hdef : rspB ⟨c, m, hd, t, k, b⟩ = (decide (100 ≤ c ∧ c ≤ 599) && (decide (-1 ≤ m ∧ m ≤ 999999) && (tagB t.data.toList && (decide (0 ≤ k ∧ k ≤ 2) && bodyB b.data.toList)))) := rfl
  rw [hdef]
  unfold rspV
  dsimp only
  generalize decide (100 ≤ c ∧ c ≤ 599) = B0 at *
  generalize decide (-1 ≤ m ∧ m ≤ 999999) = B1 at *
  generalize decide (0 ≤ k ∧ k ≤ 2) = B3 at *
  generalize bodyB b.data.toList = B4 at *
  clear hdef ht hb
  obtain ⟨wA, hwA⟩ : ∃ wA, wA = w.alloc (.cells #[.int .i64 c, .int .i64 m, .bool hd, .string t, .int .i64 k, .string b] 24) := ⟨_, rfl⟩
  have hbA : Below w.heap.size w wA := by rw [hwA]; exact (Below.refl _ _).alloc (Nat.le_refl _) _
  have hH : wA.heap[w.heap.size]? = some (.cells #[.int .i64 c, .int .i64 m, .bool hd, .string t, .int .i64 k, .string b] 24 (0, 0)) := by rw [hwA]; exact heap_alloc_new w _
  have HW := Lib.hid hwA
  have HB := Lib.hid hbA
  have HL := Lib.hid hL; have HT := Lib.hid hT; have HK := Lib.hid hK; have HBo := Lib.hid hB; have HC := Lib.hid hC
  obtain ⟨q0, q1, _, q3, q4, q5⟩ := six_facts hH
  rw [hwA] at q0 q1 q3 q4 q5
  clear hL hT hK hB hC hwA hbA hH
  by_cases ce : t.data.toList = []
  · have hd2 : tagB t.data.toList = true := by unfold tagB; rw [ce]; rfl
    rw [hd2]
    obtain rfl := str_nil ce
    clear hd2 ce HT
    go_enter Tryd.func18, Tryd.ntmps18
    go_wp2_with fail
    refine (HC.out _).mono ?_
    rintro e w1 ⟨rfl, rfl⟩
    rw [← HW.out] at *
    cases B0
    · go_wp2
      go_ret
      exact ⟨rfl, HB.out⟩
    go_wp2_with fail
    refine (HL.out _).mono ?_
    rintro e w1 ⟨rfl, rfl⟩
    cases B1
    · go_wp2
      go_ret
      exact ⟨rfl, HB.out⟩
    go_wp2_with fail
    refine (HK.out _).mono ?_
    rintro e w1 ⟨rfl, rfl⟩
    cases B3
    · go_wp2
      go_ret
      exact ⟨rfl, HB.out⟩
    go_wp2_with fail
    refine (HBo.out _).mono ?_
    rintro e w1 ⟨rfl, rfl⟩
    go_wp2
    go_ret
    exact ⟨rfl, HB.out⟩
  · have hd2 : tagB t.data.toList = tokB t.data.toList := by unfold tagB; rw [decide_eq_false ce]; rfl
    rw [hd2]
    have b0 : (t.toList == ([] : List UInt8)) = false := by rw [Lib.toList_data]; exact beq_eq_false_iff_ne.2 ce
    have b1 : t.toList.isEmpty = false := by rw [Lib.toList_data]; cases hh : t.data.toList with
      | nil => exact absurd hh ce
      | cons _ _ => rfl
    generalize tokB t.data.toList = B2 at *
    clear hd2 ce
    go_enter Tryd.func18, Tryd.ntmps18
    go_wp2_with fail
    refine (HC.out _).mono ?_
    rintro e w1 ⟨rfl, rfl⟩
    rw [← HW.out] at *
    cases B0
    · go_wp2
      go_ret
      exact ⟨rfl, HB.out⟩
    go_wp2_with fail
    refine (HL.out _).mono ?_
    rintro e w1 ⟨rfl, rfl⟩
    cases B1
    · go_wp2
      go_ret
      exact ⟨rfl, HB.out⟩
    go_wp2_with fail
    refine (HT.out _).mono ?_
    rintro e w1 ⟨rfl, rfl⟩
    cases B2
    · go_wp2
      go_ret
      exact ⟨rfl, HB.out⟩
    go_wp2_with fail
    refine (HK.out _).mono ?_
    rintro e w1 ⟨rfl, rfl⟩
    cases B3
    · go_wp2
      go_ret
      exact ⟨rfl, HB.out⟩
    go_wp2_with fail
    refine (HBo.out _).mono ?_
    rintro e w1 ⟨rfl, rfl⟩
    go_wp2
    go_ret
    exact ⟨rfl, HB.out⟩
end Go.Proofs.YtjhgibmeokghmaaDoor
