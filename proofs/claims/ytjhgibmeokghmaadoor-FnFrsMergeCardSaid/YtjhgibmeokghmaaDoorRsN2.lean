/- Walks: answers that are said to be the same still, by the specification. -/
import Derived.Test.YtjhgibmeokghmaaDoorRsN
namespace Go.Proofs.YtjhgibmeokghmaaDoor
open Go.RowKit

theorem same_code {o r : Rp} (h : ¬ r.code = 304) : sameB o r = false := by unfold sameB; rw [decide_eq_false h]; rfl
theorem same_tag {o r : Rp} (h : ¬ r.tag = o.tag) : sameB o r = false := by unfold sameB; rw [decide_eq_false h]; simp
theorem same_none {o r : Rp} (h : o.tag.data.toList = []) : sameB o r = false := by
  unfold sameB
  by_cases e : r.tag = o.tag
  · rw [e, decide_eq_true h]; simp
  · rw [decide_eq_false e]; simp
theorem same_yes {o r : Rp} (h0 : r.code = 304) (h1 : ¬ o.tag.data.toList = []) (h2 : r.tag = o.tag) : sameB o r = true := by
  unfold sameB
  rw [decide_eq_true h0, decide_eq_true h2, h2, decide_eq_false h1]; rfl

set_option maxRecDepth 100000 in
set_option maxHeartbeats 6400000 in
theorem spec_merge (o r : Rp) (w : World) (ht0 : o.tag.size ≤ 1048576) (hb0 : o.body.size ≤ 1048576) (ht1 : r.tag.size ≤ 1048576) (hb1 : r.body.size ≤ 1048576) :
    Calls Tryd.prog 29 #[rspV o, rspV r] w fun e w' => e = .returned (.tuple #[rspV (mergeR o r).1, .bool (mergeR o r).2]) ∧ Below w.heap.size w w' := by
  have hdef := merge_split o r
  have hR0 := fun W => spec_rspok o W (by unfold maxLen; omega) (by unfold maxLen; omega)
  have hR1 := fun W => spec_rspok r W (by unfold maxLen; omega) (by unfold maxLen; omega)
  rw [hdef]
  obtain ⟨c0, m0, h0, t0, k0, b0⟩ := o
  obtain ⟨c1, m1, h1, t1, k1, b1⟩ := r
  unfold rspV at *
  dsimp only at *
  generalize rspB ⟨c0, m0, h0, t0, k0, b0⟩ = B0 at *
  generalize rspB ⟨c1, m1, h1, t1, k1, b1⟩ = B1 at *
  obtain ⟨hz, hbA, g0, g1, g2⟩ := rbox3 w (.cells #[.int .i64 c0, .int .i64 m0, .bool h0, .string t0, .int .i64 k0, .string b0] 24) (.cells #[.int .i64 c1, .int .i64 m1, .bool h1, .string t1, .int .i64 k1, .string b1] 24) (.cells #[.int .i64 0, .int .i64 0, .bool false, .string ⟨#[]⟩, .int .i64 0, .string ⟨#[]⟩] 24)
  obtain ⟨wA, hwA⟩ : ∃ wA, wA = ((w.alloc (.cells #[.int .i64 c0, .int .i64 m0, .bool h0, .string t0, .int .i64 k0, .string b0] 24)).alloc (.cells #[.int .i64 c1, .int .i64 m1, .bool h1, .string t1, .int .i64 k1, .string b1] 24)).alloc (.cells #[.int .i64 0, .int .i64 0, .bool false, .string ⟨#[]⟩, .int .i64 0, .string ⟨#[]⟩] 24) := ⟨_, rfl⟩
  rw [← hwA] at hz hbA g0 g1 g2
  have HX : Hid (∀ W, Below wA.heap.size wA W → Below w.heap.size w W ∧ W.heap[w.heap.size]? = some (.cells #[.int .i64 c0, .int .i64 m0, .bool h0, .string t0, .int .i64 k0, .string b0] 24 (0, 0)) ∧ W.heap[w.heap.size + 1]? = some (.cells #[.int .i64 c1, .int .i64 m1, .bool h1, .string t1, .int .i64 k1, .string b1] 24 (0, 0)) ∧ W.heap[w.heap.size + 2]? = some (.cells #[.int .i64 0, .int .i64 0, .bool false, .string ⟨#[]⟩, .int .i64 0, .string ⟨#[]⟩] 24 (0, 0))) := Lib.hid fun W hW => by
    have hb' := hbA.trans (hW.mono (by omega))
    exact ⟨hb', (hW.block _ (by omega)).trans g0, (hW.block _ (by omega)).trans g1, (hW.block _ (by omega)).trans g2⟩
  have HW := Lib.hid hwA
  have HR0 := Lib.hid hR0; have HR1 := Lib.hid hR1
  have hbb : Below wA.heap.size wA wA := Below.refl _ _
  obtain ⟨q0, q1, q2, q3, q4, q5⟩ := six_facts g0
  obtain ⟨p0, p1, p2, p3, p4, p5⟩ := six_facts g1
  rw [hwA] at q0 q1 q2 q3 q4 q5 p0 p1 p2 p3 p4 p5
  clear ht0 hb0 ht1 hb1 hdef hR0 hR1 hwA hbA g0 g1 g2
  have hn0 := @same_code ⟨c0, m0, h0, t0, k0, b0⟩ ⟨c1, m1, h1, t1, k1, b1⟩
  have hn1 := @same_tag ⟨c0, m0, h0, t0, k0, b0⟩ ⟨c1, m1, h1, t1, k1, b1⟩
  have hn2 := @same_none ⟨c0, m0, h0, t0, k0, b0⟩ ⟨c1, m1, h1, t1, k1, b1⟩
  have hn3 := @same_yes ⟨c0, m0, h0, t0, k0, b0⟩ ⟨c1, m1, h1, t1, k1, b1⟩
  dsimp only at hn0 hn1 hn2 hn3
  generalize sameB ⟨c0, m0, h0, t0, k0, b0⟩ ⟨c1, m1, h1, t1, k1, b1⟩ = SM at *
  have HN0 := Lib.hid hn0; have HN1 := Lib.hid hn1; have HN2 := Lib.hid hn2; have HN3 := Lib.hid hn3
  clear hn0 hn1 hn2 hn3
  cases B0
  · rw [if_neg (by simp)]
    go_enter Tryd.func29, Tryd.ntmps29
    go_wp2_with fail
    rw [← HW.out]
    refine (HR0.out _).mono ?_
    rintro e w2 ⟨rfl, hb2⟩
    clear q0 q1 q2 q3 q4 q5 p0 p1 p2 p3 p4 p5
    replace hbb := hb2
    clear hb2
    obtain ⟨k1, k2, k3, k4⟩ := HX.out _ hbb
    obtain ⟨q0, q1, q2, q3, q4, q5⟩ := six_facts k2
    obtain ⟨p0, p1, p2, p3, p4, p5⟩ := six_facts k3
    obtain ⟨x0, x1, x2, x3, x4, x5⟩ := six_facts k4
    obtain ⟨y0, y1, y2, y3, y4, y5⟩ := six_frozen k4
    have z := six_set k4 (.int .i64 0) (.int .i64 0) (.bool false) (.string ⟨#[]⟩) (.int .i64 0) (.string ⟨#[]⟩)
    have HB : Hid (Below w.heap.size w (set6 _ (w.heap.size + 2) (.int .i64 0) (.int .i64 0) (.bool false) (.string ⟨#[]⟩) (.int .i64 0) (.string ⟨#[]⟩))) := Lib.hid (k1.grown (grown_set6 _ _ _ _ _ _ _ _) k1.size (fun k hk => by cases hk; omega))
    unfold set6 at z HB
    obtain ⟨z0, z1, z2, z3, z4, z5⟩ := six_facts z
    have HZ := Lib.hid (And.intro z0 (And.intro z1 (And.intro z2 (And.intro z3 (And.intro z4 z5)))))
    clear hbb k1 k2 k3 k4 z z0 z1 z2 z3 z4 z5
    go_wp2_with fail
    obtain ⟨z0, z1, z2, z3, z4, z5⟩ := HZ.out
    refine bodyPost_ret (v := .tuple #[.agg #[.int .i64 0, .int .i64 0, .bool false, .string ⟨#[]⟩, .int .i64 0, .string ⟨#[]⟩], .bool false]) (by simp [results, Tryd.results29, go_sem, z0, z1, z2, z3, z4, z5]) rfl ?_
    exact ⟨rfl, HB.out⟩

  cases B1
  · rw [if_neg (by simp)]
    go_enter Tryd.func29, Tryd.ntmps29
    go_wp2_with fail
    rw [← HW.out]
    refine (HR0.out _).mono ?_
    rintro e w2 ⟨rfl, hb2⟩
    clear q0 q1 q2 q3 q4 q5 p0 p1 p2 p3 p4 p5
    replace hbb := hb2
    clear hb2
    obtain ⟨k1, k2, k3, k4⟩ := HX.out _ hbb
    obtain ⟨q0, q1, q2, q3, q4, q5⟩ := six_facts k2
    obtain ⟨p0, p1, p2, p3, p4, p5⟩ := six_facts k3
    clear k1 k2 k3 k4
    go_wp2_with fail
    refine (HR1.out _).mono ?_
    rintro e w3 ⟨rfl, hb3⟩
    replace hbb := hbb.trans (hb3.mono hbb.size)
    clear q0 q1 q2 q3 q4 q5 p0 p1 p2 p3 p4 p5
    clear hb3
    obtain ⟨k1, k2, k3, k4⟩ := HX.out _ hbb
    obtain ⟨q0, q1, q2, q3, q4, q5⟩ := six_facts k2
    obtain ⟨p0, p1, p2, p3, p4, p5⟩ := six_facts k3
    obtain ⟨x0, x1, x2, x3, x4, x5⟩ := six_facts k4
    obtain ⟨y0, y1, y2, y3, y4, y5⟩ := six_frozen k4
    have z := six_set k4 (.int .i64 0) (.int .i64 0) (.bool false) (.string ⟨#[]⟩) (.int .i64 0) (.string ⟨#[]⟩)
    have HB : Hid (Below w.heap.size w (set6 _ (w.heap.size + 2) (.int .i64 0) (.int .i64 0) (.bool false) (.string ⟨#[]⟩) (.int .i64 0) (.string ⟨#[]⟩))) := Lib.hid (k1.grown (grown_set6 _ _ _ _ _ _ _ _) k1.size (fun k hk => by cases hk; omega))
    unfold set6 at z HB
    obtain ⟨z0, z1, z2, z3, z4, z5⟩ := six_facts z
    have HZ := Lib.hid (And.intro z0 (And.intro z1 (And.intro z2 (And.intro z3 (And.intro z4 z5)))))
    clear hbb k1 k2 k3 k4 z z0 z1 z2 z3 z4 z5
    go_wp2_with fail
    obtain ⟨z0, z1, z2, z3, z4, z5⟩ := HZ.out
    refine bodyPost_ret (v := .tuple #[.agg #[.int .i64 0, .int .i64 0, .bool false, .string ⟨#[]⟩, .int .i64 0, .string ⟨#[]⟩], .bool false]) (by simp [results, Tryd.results29, go_sem, z0, z1, z2, z3, z4, z5]) rfl ?_
    exact ⟨rfl, HB.out⟩

  by_cases cc : c1 = 304
  · subst cc
    by_cases ce : t0.data.toList = []
    · have hf := HN2.out ce
      subst hf
      rw [if_neg (by simp)]
      obtain rfl := str_nil ce
      clear ce HN0 HN1 HN2 HN3
      go_enter Tryd.func29, Tryd.ntmps29
      go_wp2_with fail
      rw [← HW.out]
      refine (HR0.out _).mono ?_
      rintro e w2 ⟨rfl, hb2⟩
      clear q0 q1 q2 q3 q4 q5 p0 p1 p2 p3 p4 p5
      replace hbb := hb2
      clear hb2
      obtain ⟨k1, k2, k3, k4⟩ := HX.out _ hbb
      obtain ⟨q0, q1, q2, q3, q4, q5⟩ := six_facts k2
      obtain ⟨p0, p1, p2, p3, p4, p5⟩ := six_facts k3
      clear k1 k2 k3 k4
      go_wp2_with fail
      refine (HR1.out _).mono ?_
      rintro e w3 ⟨rfl, hb3⟩
      replace hbb := hbb.trans (hb3.mono hbb.size)
      clear q0 q1 q2 q3 q4 q5 p0 p1 p2 p3 p4 p5
      clear hb3
      obtain ⟨k1, k2, k3, k4⟩ := HX.out _ hbb
      obtain ⟨q0, q1, q2, q3, q4, q5⟩ := six_facts k2
      obtain ⟨p0, p1, p2, p3, p4, p5⟩ := six_facts k3
      obtain ⟨x0, x1, x2, x3, x4, x5⟩ := six_facts k4
      obtain ⟨y0, y1, y2, y3, y4, y5⟩ := six_frozen k4
      have z := six_set k4 (.int .i64 0) (.int .i64 0) (.bool false) (.string ⟨#[]⟩) (.int .i64 0) (.string ⟨#[]⟩)
      have HB : Hid (Below w.heap.size w (set6 _ (w.heap.size + 2) (.int .i64 0) (.int .i64 0) (.bool false) (.string ⟨#[]⟩) (.int .i64 0) (.string ⟨#[]⟩))) := Lib.hid (k1.grown (grown_set6 _ _ _ _ _ _ _ _) k1.size (fun k hk => by cases hk; omega))
      unfold set6 at z HB
      obtain ⟨z0, z1, z2, z3, z4, z5⟩ := six_facts z
      have HZ := Lib.hid (And.intro z0 (And.intro z1 (And.intro z2 (And.intro z3 (And.intro z4 z5)))))
      clear hbb k1 k2 k3 k4 z z0 z1 z2 z3 z4 z5
      go_wp2_with fail
      obtain ⟨z0, z1, z2, z3, z4, z5⟩ := HZ.out
      refine bodyPost_ret (v := .tuple #[.agg #[.int .i64 0, .int .i64 0, .bool false, .string ⟨#[]⟩, .int .i64 0, .string ⟨#[]⟩], .bool false]) (by simp [results, Tryd.results29, go_sem, z0, z1, z2, z3, z4, z5]) rfl ?_
      exact ⟨rfl, HB.out⟩

    have x0 : (t0.toList == ([] : List UInt8)) = false := by rw [Lib.toList_data]; exact beq_eq_false_iff_ne.2 ce
    have x2 : t0.toList.isEmpty = false := by rw [Lib.toList_data]; cases hh : t0.data.toList with
      | nil => exact absurd hh ce
      | cons _ _ => rfl
    by_cases cs : t1 = t0
    · have hf := HN3.out rfl ce cs
      subst hf
      rw [if_pos (by rfl)]
      subst cs
      have e3 : (t1.toList == t1.toList) = true := by simp
      clear ce HN0 HN1 HN2 HN3
      go_enter Tryd.func29, Tryd.ntmps29
      go_wp2_with fail
      rw [← HW.out]
      refine (HR0.out _).mono ?_
      rintro e w2 ⟨rfl, hb2⟩
      clear q0 q1 q2 q3 q4 q5 p0 p1 p2 p3 p4 p5
      replace hbb := hb2
      clear hb2
      obtain ⟨k1, k2, k3, k4⟩ := HX.out _ hbb
      obtain ⟨q0, q1, q2, q3, q4, q5⟩ := six_facts k2
      obtain ⟨p0, p1, p2, p3, p4, p5⟩ := six_facts k3
      clear k1 k2 k3 k4
      go_wp2_with fail
      refine (HR1.out _).mono ?_
      rintro e w3 ⟨rfl, hb3⟩
      replace hbb := hbb.trans (hb3.mono hbb.size)
      clear q0 q1 q2 q3 q4 q5 p0 p1 p2 p3 p4 p5
      clear hb3
      obtain ⟨k1, k2, k3, k4⟩ := HX.out _ hbb
      obtain ⟨q0, q1, q2, q3, q4, q5⟩ := six_facts k2
      obtain ⟨p0, p1, p2, p3, p4, p5⟩ := six_facts k3
      have HF4 := Lib.hid k4; have HF1 := Lib.hid k1
      obtain ⟨w7, hw7⟩ : ∃ x, x = w3.alloc (.cells #[.int .i64 c0, .int .i64 m1, .bool h1, .string t1, .int .i64 k0, .string b0] 24) := ⟨_, rfl⟩
      have k1' : Below w.heap.size w w7 := by rw [hw7]; exact k1.alloc k1.size _
      have hs3 : w.heap.size + 2 < w3.heap.size := (Array.getElem?_eq_some_iff.1 k4).1
      obtain ⟨_, r1, _⟩ := six_facts (show (w3.alloc (.cells #[.int .i64 c0, .int .i64 m0, .bool h0, .string t1, .int .i64 k0, .string b0] 24)).heap[w.heap.size + 1]? = _ from (Below.heap_alloc _ _ _ (by omega)).trans k3)
      obtain ⟨_, _, r2, _⟩ := six_facts (show (w3.alloc (.cells #[.int .i64 c0, .int .i64 m1, .bool h0, .string t1, .int .i64 k0, .string b0] 24)).heap[w.heap.size + 1]? = _ from (Below.heap_alloc _ _ _ (by omega)).trans k3)
      have k4' : w7.heap[w.heap.size + 2]? = some (.cells #[.int .i64 0, .int .i64 0, .bool false, .string ⟨#[]⟩, .int .i64 0, .string ⟨#[]⟩] 24 (0, 0)) := by rw [hw7, Below.heap_alloc _ _ _ hs3]; exact k4
      clear k1 k2 k3 k4 HF4 HF1
      obtain ⟨x0, x1, x2, x3, x4, x5⟩ := six_facts k4'
      obtain ⟨y0, y1, y2, y3, y4, y5⟩ := six_frozen k4'
      have z := six_set k4' (.int .i64 c0) (.int .i64 m1) (.bool h1) (.string t1) (.int .i64 k0) (.string b0)
      have HB : Hid (Below w.heap.size w (set6 w7 (w.heap.size + 2) (.int .i64 c0) (.int .i64 m1) (.bool h1) (.string t1) (.int .i64 k0) (.string b0))) := Lib.hid (k1'.grown (grown_set6 _ _ _ _ _ _ _ _) k1'.size (fun k hk => by cases hk; omega))
      unfold set6 at z HB
      obtain ⟨z0, z1, z2, z3, z4, z5⟩ := six_facts z
      have HZ := Lib.hid (And.intro z0 (And.intro z1 (And.intro z2 (And.intro z3 (And.intro z4 z5)))))
      rw [hw7] at x0 x1 x2 x3 x4 x5 y0 y1 y2 y3 y4 y5 HZ HB
      clear k1' k4' z z0 z1 z2 z3 z4 z5 hbb hw7 hs3
      go_wp2_with fail
      obtain ⟨z0, z1, z2, z3, z4, z5⟩ := HZ.out
      refine bodyPost_ret (v := .tuple #[.agg #[.int .i64 c0, .int .i64 m1, .bool h1, .string t1, .int .i64 k0, .string b0], .bool true]) (by simp [results, Tryd.results29, go_sem, z0, z1, z2, z3, z4, z5]) rfl ?_
      exact ⟨rfl, HB.out⟩

    · have hf := HN1.out cs
      subst hf
      rw [if_neg (by simp)]
      have e3 : (t1.toList == t0.toList) = false := by rw [Lib.toList_data, Lib.toList_data]; exact beq_eq_false_iff_ne.2 (fun h => cs (str_inj2 h))
      clear ce cs HN0 HN1 HN2 HN3
      go_enter Tryd.func29, Tryd.ntmps29
      go_wp2_with fail
      rw [← HW.out]
      refine (HR0.out _).mono ?_
      rintro e w2 ⟨rfl, hb2⟩
      clear q0 q1 q2 q3 q4 q5 p0 p1 p2 p3 p4 p5
      replace hbb := hb2
      clear hb2
      obtain ⟨k1, k2, k3, k4⟩ := HX.out _ hbb
      obtain ⟨q0, q1, q2, q3, q4, q5⟩ := six_facts k2
      obtain ⟨p0, p1, p2, p3, p4, p5⟩ := six_facts k3
      clear k1 k2 k3 k4
      go_wp2_with fail
      refine (HR1.out _).mono ?_
      rintro e w3 ⟨rfl, hb3⟩
      replace hbb := hbb.trans (hb3.mono hbb.size)
      clear q0 q1 q2 q3 q4 q5 p0 p1 p2 p3 p4 p5
      clear hb3
      obtain ⟨k1, k2, k3, k4⟩ := HX.out _ hbb
      obtain ⟨q0, q1, q2, q3, q4, q5⟩ := six_facts k2
      obtain ⟨p0, p1, p2, p3, p4, p5⟩ := six_facts k3
      obtain ⟨x0, x1, x2, x3, x4, x5⟩ := six_facts k4
      obtain ⟨y0, y1, y2, y3, y4, y5⟩ := six_frozen k4
      have z := six_set k4 (.int .i64 0) (.int .i64 0) (.bool false) (.string ⟨#[]⟩) (.int .i64 0) (.string ⟨#[]⟩)
      have HB : Hid (Below w.heap.size w (set6 _ (w.heap.size + 2) (.int .i64 0) (.int .i64 0) (.bool false) (.string ⟨#[]⟩) (.int .i64 0) (.string ⟨#[]⟩))) := Lib.hid (k1.grown (grown_set6 _ _ _ _ _ _ _ _) k1.size (fun k hk => by cases hk; omega))
      unfold set6 at z HB
      obtain ⟨z0, z1, z2, z3, z4, z5⟩ := six_facts z
      have HZ := Lib.hid (And.intro z0 (And.intro z1 (And.intro z2 (And.intro z3 (And.intro z4 z5)))))
      clear hbb k1 k2 k3 k4 z z0 z1 z2 z3 z4 z5
      go_wp2_with fail
      obtain ⟨z0, z1, z2, z3, z4, z5⟩ := HZ.out
      refine bodyPost_ret (v := .tuple #[.agg #[.int .i64 0, .int .i64 0, .bool false, .string ⟨#[]⟩, .int .i64 0, .string ⟨#[]⟩], .bool false]) (by simp [results, Tryd.results29, go_sem, z0, z1, z2, z3, z4, z5]) rfl ?_
      exact ⟨rfl, HB.out⟩

  · have hf := HN0.out cc
    subst hf
    rw [if_neg (by simp)]
    have e3 : (c1 != 304) = true := bne_iff_ne.2 cc
    clear cc HN0 HN1 HN2 HN3
    go_enter Tryd.func29, Tryd.ntmps29
    go_wp2_with fail
    rw [← HW.out]
    refine (HR0.out _).mono ?_
    rintro e w2 ⟨rfl, hb2⟩
    clear q0 q1 q2 q3 q4 q5 p0 p1 p2 p3 p4 p5
    replace hbb := hb2
    clear hb2
    obtain ⟨k1, k2, k3, k4⟩ := HX.out _ hbb
    obtain ⟨q0, q1, q2, q3, q4, q5⟩ := six_facts k2
    obtain ⟨p0, p1, p2, p3, p4, p5⟩ := six_facts k3
    clear k1 k2 k3 k4
    go_wp2_with fail
    refine (HR1.out _).mono ?_
    rintro e w3 ⟨rfl, hb3⟩
    replace hbb := hbb.trans (hb3.mono hbb.size)
    clear q0 q1 q2 q3 q4 q5 p0 p1 p2 p3 p4 p5
    clear hb3
    obtain ⟨k1, k2, k3, k4⟩ := HX.out _ hbb
    obtain ⟨q0, q1, q2, q3, q4, q5⟩ := six_facts k2
    obtain ⟨p0, p1, p2, p3, p4, p5⟩ := six_facts k3
    obtain ⟨x0, x1, x2, x3, x4, x5⟩ := six_facts k4
    obtain ⟨y0, y1, y2, y3, y4, y5⟩ := six_frozen k4
    have z := six_set k4 (.int .i64 0) (.int .i64 0) (.bool false) (.string ⟨#[]⟩) (.int .i64 0) (.string ⟨#[]⟩)
    have HB : Hid (Below w.heap.size w (set6 _ (w.heap.size + 2) (.int .i64 0) (.int .i64 0) (.bool false) (.string ⟨#[]⟩) (.int .i64 0) (.string ⟨#[]⟩))) := Lib.hid (k1.grown (grown_set6 _ _ _ _ _ _ _ _) k1.size (fun k hk => by cases hk; omega))
    unfold set6 at z HB
    obtain ⟨z0, z1, z2, z3, z4, z5⟩ := six_facts z
    have HZ := Lib.hid (And.intro z0 (And.intro z1 (And.intro z2 (And.intro z3 (And.intro z4 z5)))))
    clear hbb k1 k2 k3 k4 z z0 z1 z2 z3 z4 z5
    go_wp2_with fail
    obtain ⟨z0, z1, z2, z3, z4, z5⟩ := HZ.out
    refine bodyPost_ret (v := .tuple #[.agg #[.int .i64 0, .int .i64 0, .bool false, .string ⟨#[]⟩, .int .i64 0, .string ⟨#[]⟩], .bool false]) (by simp [results, Tryd.results29, go_sem, z0, z1, z2, z3, z4, z5]) rfl ?_
    exact ⟨rfl, HB.out⟩

end Go.Proofs.YtjhgibmeokghmaaDoor
