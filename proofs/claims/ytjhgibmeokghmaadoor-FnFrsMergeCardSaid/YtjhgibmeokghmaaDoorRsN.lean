/- Walks: answers that are said to be the same still. -/
import Derived.Test.YtjhgibmeokghmaaDoorRsM
import Derived.Test.YtjhgibmeokghmaaDoorRsS2
namespace Go.Proofs.YtjhgibmeokghmaaDoor
open Go.RowKit

def sameB (o r : Rp) : Bool := decide (r.code = 304) && ((!decide (r.tag.data.toList = [])) && decide (r.tag = o.tag))
theorem merge_split (o r : Rp) : mergeR o r = if (rspB o && (rspB r && sameB o r)) = true then (⟨o.code, r.mx, r.hide, o.tag, o.cod, o.body⟩, true) else (noRp, false) := by
  unfold mergeR sameB
  simp only [Bool.and_eq_true, decide_eq_true_eq, Bool.not_eq_true', decide_eq_false_iff_not]
  by_cases h : rspB o = true ∧ rspB r = true ∧ r.code = 304 ∧ ¬ r.tag.data.toList = [] ∧ r.tag = o.tag
  · rw [if_pos h, if_pos]
    obtain ⟨a, b, c, d, e⟩ := h
    exact ⟨a, b, c, by rw [← e]; exact d, e⟩
  · rw [if_neg h, if_neg]
    rintro ⟨a, b, c, d, e⟩
    exact h ⟨a, b, c, by rw [e]; exact d, e⟩

set_option maxRecDepth 100000 in
set_option maxHeartbeats 6400000 in
theorem impl_merge (o r : Rp) (w : World) (ht0 : o.tag.size ≤ 1048576) (hb0 : o.body.size ≤ 1048576) (ht1 : r.tag.size ≤ 1048576) (hb1 : r.body.size ≤ 1048576) (hcls : Cls w) :
    Calls Tryd.prog 28 #[rspV o, rspV r] w fun e w' => e = .returned (.tuple #[rspV (mergeR o r).1, .bool (mergeR o r).2]) ∧ Below w.heap.size w w' := by
  have hdef := merge_split o r
  have hR0 := fun W (h : Cls W) => impl_rspok o W (by unfold maxLen; omega) (by unfold maxLen; omega) h
  have hR1 := fun W (h : Cls W) => impl_rspok r W (by unfold maxLen; omega) (by unfold maxLen; omega) h
  have hF := fun W => fresh_rsp o W ht0 hb0
  have hS := fun W => status_of r.code W
  have hU := fun W => use_of r.code W
  rw [hdef]
  obtain ⟨c0, m0, h0, t0, k0, b0⟩ := o
  obtain ⟨c1, m1, h1, t1, k1, b1⟩ := r
  unfold rspV at *
  dsimp only at *
  generalize rspB ⟨c0, m0, h0, t0, k0, b0⟩ = B0 at *
  generalize rspB ⟨c1, m1, h1, t1, k1, b1⟩ = B1 at *
  obtain ⟨hz, hbA, g0, g1, g2⟩ := rbox3 w (.cells #[.int .i64 c0, .int .i64 m0, .bool h0, .string t0, .int .i64 k0, .string b0] 24) (.cells #[.int .i64 c1, .int .i64 m1, .bool h1, .string t1, .int .i64 k1, .string b1] 24) (.cells #[.int .i64 0, .int .i64 0, .bool false, .string ⟨#[]⟩, .int .i64 0, .string ⟨#[]⟩] 24)
  obtain ⟨wA, hwA⟩ : ∃ wA, wA = ((w.alloc (.cells #[.int .i64 c0, .int .i64 m0, .bool h0, .string t0, .int .i64 k0, .string b0] 24)).alloc (.cells #[.int .i64 c1, .int .i64 m1, .bool h1, .string t1, .int .i64 k1, .string b1] 24)).alloc (.cells #[.int .i64 0, .int .i64 0, .bool false, .string ⟨#[]⟩, .int .i64 0, .string ⟨#[]⟩] 24) := ⟨_, rfl⟩
  rw [← hwA] at hz hbA g0 g1 g2
  have HX : Hid (∀ W, Below wA.heap.size wA W → Cls W ∧ Below w.heap.size w W ∧ W.heap[w.heap.size]? = some (.cells #[.int .i64 c0, .int .i64 m0, .bool h0, .string t0, .int .i64 k0, .string b0] 24 (0, 0)) ∧ W.heap[w.heap.size + 1]? = some (.cells #[.int .i64 c1, .int .i64 m1, .bool h1, .string t1, .int .i64 k1, .string b1] 24 (0, 0)) ∧ W.heap[w.heap.size + 2]? = some (.cells #[.int .i64 0, .int .i64 0, .bool false, .string ⟨#[]⟩, .int .i64 0, .string ⟨#[]⟩] 24 (0, 0))) := Lib.hid fun W hW => by
    have hb' := hbA.trans (hW.mono (by omega))
    exact ⟨hcls.below hb' (Nat.le_refl _), hb', (hW.block _ (by omega)).trans g0, (hW.block _ (by omega)).trans g1, (hW.block _ (by omega)).trans g2⟩
  have HW := Lib.hid hwA
  have HR0 := Lib.hid hR0; have HR1 := Lib.hid hR1; have HF := Lib.hid hF; have HS := Lib.hid hS; have HU := Lib.hid hU
  have hbb : Below wA.heap.size wA wA := Below.refl _ _
  obtain ⟨q0, q1, q2, q3, q4, q5⟩ := six_facts g0
  obtain ⟨p0, p1, p2, p3, p4, p5⟩ := six_facts g1
  rw [hwA] at q0 q1 q2 q3 q4 q5 p0 p1 p2 p3 p4 p5
  clear ht0 hb0 ht1 hb1 hdef hR0 hR1 hF hS hU hcls hwA hbA g0 g1 g2
  have hsame : sameB ⟨c0, m0, h0, t0, k0, b0⟩ ⟨c1, m1, h1, t1, k1, b1⟩ = ((useN c1 == 2) && ((!decide (t1.data.toList = [])) && decide (t1 = t0))) := by
    unfold sameB
    have e : (useN c1 == 2) = decide (c1 = 304) := by
      unfold useN
      by_cases h : c1 = 200 ∨ c1 = 404
      · rw [if_pos h, decide_eq_false (by omega)]; rfl
      · rw [if_neg h]
        by_cases h' : c1 = 304
        · rw [if_pos h', decide_eq_true h']; rfl
        · rw [if_neg h', decide_eq_false h']; rfl
    rw [e]
  rw [hsame]
  clear hsame
  generalize useN c1 = U at *
  generalize stV c1 = S at *
  generalize hE : (U == 2) = E at *
  cases E
  · rw [show (B0 && (B1 && (false && ((!decide (t1.data.toList = [])) && decide (t1 = t0))))) = false from by simp, if_neg (by simp)]
    go_enter Tryd.func28, Tryd.ntmps28
    go_wp2_with fail
    refine (HS.out _).mono ?_
    rintro e w1 ⟨rfl, rfl⟩
    go_wp2_with fail
    refine (HU.out _).mono ?_
    rintro e w1 ⟨rfl, rfl⟩
    go_wp2_with fail
    rw [← HW.out]
    refine (HR0.out _ (HX.out _ hbb).1).mono ?_
    rintro e w2 ⟨rfl, hb2⟩
    clear q0 q1 q2 q3 q4 q5 p0 p1 p2 p3 p4 p5
    replace hbb := hb2
    clear hb2
    cases B0
    · obtain ⟨_, k1, k2, k3, k4⟩ := HX.out _ hbb
      obtain ⟨q0, q1, q2, q3, q4, q5⟩ := six_facts k2
      obtain ⟨p0, p1, p2, p3, p4, p5⟩ := six_facts k3
      obtain ⟨x0, x1, x2, x3, x4, x5⟩ := six_facts k4
      obtain ⟨y0, y1, y2, y3, y4, y5⟩ := six_frozen k4
      have z := six_set k4 (.int .i64 0) (.int .i64 0) (.bool false) (.string ⟨#[]⟩) (.int .i64 0) (.string ⟨#[]⟩)
      have HB : Hid (Below w.heap.size w (set6 _ (w.heap.size + 2) (.int .i64 0) (.int .i64 0) (.bool false) (.string ⟨#[]⟩) (.int .i64 0) (.string ⟨#[]⟩))) := Lib.hid (k1.grown (grown_set6 _ _ _ _ _ _ _ _) k1.size (fun k hk => by cases hk; omega))
      unfold set6 at z HB
      obtain ⟨z0, z1, z2, z3, z4, z5⟩ := six_facts z
      have HZ := Lib.hid (And.intro z0 (And.intro z1 (And.intro z2 (And.intro z3 (And.intro z4 z5)))))
      clear hbb k1 k2 k3 k4 z z0 z1 z2 z3 z4 z5
      go_wp2_with fail
      obtain ⟨z0, z1, z2, z3, z4, z5⟩ := HZ.out
      refine bodyPost_ret (v := .tuple #[.agg #[.int .i64 0, .int .i64 0, .bool false, .string ⟨#[]⟩, .int .i64 0, .string ⟨#[]⟩], .bool false]) (by simp [results, Tryd.results28, go_sem, z0, z1, z2, z3, z4, z5]) rfl ?_
      exact ⟨rfl, HB.out⟩
    obtain ⟨_, k1, k2, k3, k4⟩ := HX.out _ hbb
    obtain ⟨q0, q1, q2, q3, q4, q5⟩ := six_facts k2
    obtain ⟨p0, p1, p2, p3, p4, p5⟩ := six_facts k3
    clear k1 k2 k3 k4
    go_wp2_with fail
    refine (HR1.out _ (HX.out _ hbb).1).mono ?_
    rintro e w3 ⟨rfl, hb3⟩
    replace hbb := hbb.trans (hb3.mono hbb.size)
    clear q0 q1 q2 q3 q4 q5 p0 p1 p2 p3 p4 p5
    clear hb3
    cases B1
    · obtain ⟨_, k1, k2, k3, k4⟩ := HX.out _ hbb
      obtain ⟨q0, q1, q2, q3, q4, q5⟩ := six_facts k2
      obtain ⟨p0, p1, p2, p3, p4, p5⟩ := six_facts k3
      obtain ⟨x0, x1, x2, x3, x4, x5⟩ := six_facts k4
      obtain ⟨y0, y1, y2, y3, y4, y5⟩ := six_frozen k4
      have z := six_set k4 (.int .i64 0) (.int .i64 0) (.bool false) (.string ⟨#[]⟩) (.int .i64 0) (.string ⟨#[]⟩)
      have HB : Hid (Below w.heap.size w (set6 _ (w.heap.size + 2) (.int .i64 0) (.int .i64 0) (.bool false) (.string ⟨#[]⟩) (.int .i64 0) (.string ⟨#[]⟩))) := Lib.hid (k1.grown (grown_set6 _ _ _ _ _ _ _ _) k1.size (fun k hk => by cases hk; omega))
      unfold set6 at z HB
      obtain ⟨z0, z1, z2, z3, z4, z5⟩ := six_facts z
      have HZ := Lib.hid (And.intro z0 (And.intro z1 (And.intro z2 (And.intro z3 (And.intro z4 z5)))))
      clear hbb k1 k2 k3 k4 z z0 z1 z2 z3 z4 z5
      go_wp2_with fail
      obtain ⟨z0, z1, z2, z3, z4, z5⟩ := HZ.out
      refine bodyPost_ret (v := .tuple #[.agg #[.int .i64 0, .int .i64 0, .bool false, .string ⟨#[]⟩, .int .i64 0, .string ⟨#[]⟩], .bool false]) (by simp [results, Tryd.results28, go_sem, z0, z1, z2, z3, z4, z5]) rfl ?_
      exact ⟨rfl, HB.out⟩
    · obtain ⟨_, k1, k2, k3, k4⟩ := HX.out _ hbb
      obtain ⟨q0, q1, q2, q3, q4, q5⟩ := six_facts k2
      obtain ⟨p0, p1, p2, p3, p4, p5⟩ := six_facts k3
      obtain ⟨x0, x1, x2, x3, x4, x5⟩ := six_facts k4
      obtain ⟨y0, y1, y2, y3, y4, y5⟩ := six_frozen k4
      have z := six_set k4 (.int .i64 0) (.int .i64 0) (.bool false) (.string ⟨#[]⟩) (.int .i64 0) (.string ⟨#[]⟩)
      have HB : Hid (Below w.heap.size w (set6 _ (w.heap.size + 2) (.int .i64 0) (.int .i64 0) (.bool false) (.string ⟨#[]⟩) (.int .i64 0) (.string ⟨#[]⟩))) := Lib.hid (k1.grown (grown_set6 _ _ _ _ _ _ _ _) k1.size (fun k hk => by cases hk; omega))
      unfold set6 at z HB
      obtain ⟨z0, z1, z2, z3, z4, z5⟩ := six_facts z
      have HZ := Lib.hid (And.intro z0 (And.intro z1 (And.intro z2 (And.intro z3 (And.intro z4 z5)))))
      clear hbb k1 k2 k3 k4 z z0 z1 z2 z3 z4 z5
      go_wp2_with fail
      obtain ⟨z0, z1, z2, z3, z4, z5⟩ := HZ.out
      refine bodyPost_ret (v := .tuple #[.agg #[.int .i64 0, .int .i64 0, .bool false, .string ⟨#[]⟩, .int .i64 0, .string ⟨#[]⟩], .bool false]) (by simp [results, Tryd.results28, go_sem, z0, z1, z2, z3, z4, z5]) rfl ?_
      exact ⟨rfl, HB.out⟩

  by_cases ce : t1.data.toList = []
  · rw [decide_eq_true ce]
    obtain rfl := str_nil ce
    clear ce
    rw [show (B0 && (B1 && (true && ((!true) && decide (_ = t0))))) = false from by simp, if_neg (by simp)]
    go_enter Tryd.func28, Tryd.ntmps28
    go_wp2_with fail
    refine (HS.out _).mono ?_
    rintro e w1 ⟨rfl, rfl⟩
    go_wp2_with fail
    refine (HU.out _).mono ?_
    rintro e w1 ⟨rfl, rfl⟩
    go_wp2_with fail
    rw [← HW.out]
    refine (HR0.out _ (HX.out _ hbb).1).mono ?_
    rintro e w2 ⟨rfl, hb2⟩
    clear q0 q1 q2 q3 q4 q5 p0 p1 p2 p3 p4 p5
    replace hbb := hb2
    clear hb2
    cases B0
    · obtain ⟨_, k1, k2, k3, k4⟩ := HX.out _ hbb
      obtain ⟨q0, q1, q2, q3, q4, q5⟩ := six_facts k2
      obtain ⟨p0, p1, p2, p3, p4, p5⟩ := six_facts k3
      obtain ⟨x0, x1, x2, x3, x4, x5⟩ := six_facts k4
      obtain ⟨y0, y1, y2, y3, y4, y5⟩ := six_frozen k4
      have z := six_set k4 (.int .i64 0) (.int .i64 0) (.bool false) (.string ⟨#[]⟩) (.int .i64 0) (.string ⟨#[]⟩)
      have HB : Hid (Below w.heap.size w (set6 _ (w.heap.size + 2) (.int .i64 0) (.int .i64 0) (.bool false) (.string ⟨#[]⟩) (.int .i64 0) (.string ⟨#[]⟩))) := Lib.hid (k1.grown (grown_set6 _ _ _ _ _ _ _ _) k1.size (fun k hk => by cases hk; omega))
      unfold set6 at z HB
      obtain ⟨z0, z1, z2, z3, z4, z5⟩ := six_facts z
      have HZ := Lib.hid (And.intro z0 (And.intro z1 (And.intro z2 (And.intro z3 (And.intro z4 z5)))))
      clear hbb k1 k2 k3 k4 z z0 z1 z2 z3 z4 z5
      go_wp2_with fail
      obtain ⟨z0, z1, z2, z3, z4, z5⟩ := HZ.out
      refine bodyPost_ret (v := .tuple #[.agg #[.int .i64 0, .int .i64 0, .bool false, .string ⟨#[]⟩, .int .i64 0, .string ⟨#[]⟩], .bool false]) (by simp [results, Tryd.results28, go_sem, z0, z1, z2, z3, z4, z5]) rfl ?_
      exact ⟨rfl, HB.out⟩
    obtain ⟨_, k1, k2, k3, k4⟩ := HX.out _ hbb
    obtain ⟨q0, q1, q2, q3, q4, q5⟩ := six_facts k2
    obtain ⟨p0, p1, p2, p3, p4, p5⟩ := six_facts k3
    clear k1 k2 k3 k4
    go_wp2_with fail
    refine (HR1.out _ (HX.out _ hbb).1).mono ?_
    rintro e w3 ⟨rfl, hb3⟩
    replace hbb := hbb.trans (hb3.mono hbb.size)
    clear q0 q1 q2 q3 q4 q5 p0 p1 p2 p3 p4 p5
    clear hb3
    cases B1
    · obtain ⟨_, k1, k2, k3, k4⟩ := HX.out _ hbb
      obtain ⟨q0, q1, q2, q3, q4, q5⟩ := six_facts k2
      obtain ⟨p0, p1, p2, p3, p4, p5⟩ := six_facts k3
      obtain ⟨x0, x1, x2, x3, x4, x5⟩ := six_facts k4
      obtain ⟨y0, y1, y2, y3, y4, y5⟩ := six_frozen k4
      have z := six_set k4 (.int .i64 0) (.int .i64 0) (.bool false) (.string ⟨#[]⟩) (.int .i64 0) (.string ⟨#[]⟩)
      have HB : Hid (Below w.heap.size w (set6 _ (w.heap.size + 2) (.int .i64 0) (.int .i64 0) (.bool false) (.string ⟨#[]⟩) (.int .i64 0) (.string ⟨#[]⟩))) := Lib.hid (k1.grown (grown_set6 _ _ _ _ _ _ _ _) k1.size (fun k hk => by cases hk; omega))
      unfold set6 at z HB
      obtain ⟨z0, z1, z2, z3, z4, z5⟩ := six_facts z
      have HZ := Lib.hid (And.intro z0 (And.intro z1 (And.intro z2 (And.intro z3 (And.intro z4 z5)))))
      clear hbb k1 k2 k3 k4 z z0 z1 z2 z3 z4 z5
      go_wp2_with fail
      obtain ⟨z0, z1, z2, z3, z4, z5⟩ := HZ.out
      refine bodyPost_ret (v := .tuple #[.agg #[.int .i64 0, .int .i64 0, .bool false, .string ⟨#[]⟩, .int .i64 0, .string ⟨#[]⟩], .bool false]) (by simp [results, Tryd.results28, go_sem, z0, z1, z2, z3, z4, z5]) rfl ?_
      exact ⟨rfl, HB.out⟩
    · obtain ⟨_, k1, k2, k3, k4⟩ := HX.out _ hbb
      obtain ⟨q0, q1, q2, q3, q4, q5⟩ := six_facts k2
      obtain ⟨p0, p1, p2, p3, p4, p5⟩ := six_facts k3
      obtain ⟨x0, x1, x2, x3, x4, x5⟩ := six_facts k4
      obtain ⟨y0, y1, y2, y3, y4, y5⟩ := six_frozen k4
      have z := six_set k4 (.int .i64 0) (.int .i64 0) (.bool false) (.string ⟨#[]⟩) (.int .i64 0) (.string ⟨#[]⟩)
      have HB : Hid (Below w.heap.size w (set6 _ (w.heap.size + 2) (.int .i64 0) (.int .i64 0) (.bool false) (.string ⟨#[]⟩) (.int .i64 0) (.string ⟨#[]⟩))) := Lib.hid (k1.grown (grown_set6 _ _ _ _ _ _ _ _) k1.size (fun k hk => by cases hk; omega))
      unfold set6 at z HB
      obtain ⟨z0, z1, z2, z3, z4, z5⟩ := six_facts z
      have HZ := Lib.hid (And.intro z0 (And.intro z1 (And.intro z2 (And.intro z3 (And.intro z4 z5)))))
      clear hbb k1 k2 k3 k4 z z0 z1 z2 z3 z4 z5
      go_wp2_with fail
      obtain ⟨z0, z1, z2, z3, z4, z5⟩ := HZ.out
      refine bodyPost_ret (v := .tuple #[.agg #[.int .i64 0, .int .i64 0, .bool false, .string ⟨#[]⟩, .int .i64 0, .string ⟨#[]⟩], .bool false]) (by simp [results, Tryd.results28, go_sem, z0, z1, z2, z3, z4, z5]) rfl ?_
      exact ⟨rfl, HB.out⟩

  rw [decide_eq_false ce]
  have b0' : (t1.toList == ([] : List UInt8)) = false := by rw [Lib.toList_data]; exact beq_eq_false_iff_ne.2 ce
  have b1' : (t1.toList != ([] : List UInt8)) = true := by rw [Lib.toList_data]; simpa using ce
  have b2' : t1.toList.isEmpty = false := by rw [Lib.toList_data]; cases hh : t1.data.toList with
    | nil => exact absurd hh ce
    | cons _ _ => rfl
  clear ce
  by_cases cs : t1 = t0
  · subst cs
    rw [decide_eq_true rfl]
    have e3 : (t1.toList == t1.toList) = true := by simp
    rw [show (B0 && (B1 && (true && ((!false) && true)))) = (B0 && B1) from by simp]
    cases B0
    · rw [if_neg (by simp)]
      go_enter Tryd.func28, Tryd.ntmps28
      go_wp2_with fail
      refine (HS.out _).mono ?_
      rintro e w1 ⟨rfl, rfl⟩
      go_wp2_with fail
      refine (HU.out _).mono ?_
      rintro e w1 ⟨rfl, rfl⟩
      go_wp2_with fail
      rw [← HW.out]
      refine (HR0.out _ (HX.out _ hbb).1).mono ?_
      rintro e w2 ⟨rfl, hb2⟩
      clear q0 q1 q2 q3 q4 q5 p0 p1 p2 p3 p4 p5
      replace hbb := hb2
      clear hb2
      obtain ⟨_, k1, k2, k3, k4⟩ := HX.out _ hbb
      obtain ⟨q0, q1, q2, q3, q4, q5⟩ := six_facts k2
      obtain ⟨p0, p1, p2, p3, p4, p5⟩ := six_facts k3
      obtain ⟨x0, x1, x2, x3, x4, x5⟩ := six_facts k4
      obtain ⟨y0, y1, y2, y3, y4, y5⟩ := six_frozen k4
      have z := six_set k4 (.int .i64 0) (.int .i64 0) (.bool false) (.string ⟨#[]⟩) (.int .i64 0) (.string ⟨#[]⟩)
      have HB : Hid (Below w.heap.size w (set6 _ (w.heap.size + 2) (.int .i64 0) (.int .i64 0) (.bool false) (.string ⟨#[]⟩) (.int .i64 0) (.string ⟨#[]⟩))) := Lib.hid (k1.grown (grown_set6 _ _ _ _ _ _ _ _) k1.size (fun k hk => by cases hk; omega))
      unfold set6 at z HB
      obtain ⟨z0, z1, z2, z3, z4, z5⟩ := six_facts z
      have HZ := Lib.hid (And.intro z0 (And.intro z1 (And.intro z2 (And.intro z3 (And.intro z4 z5)))))
      clear hbb k1 k2 k3 k4 z z0 z1 z2 z3 z4 z5
      go_wp2_with fail
      obtain ⟨z0, z1, z2, z3, z4, z5⟩ := HZ.out
      refine bodyPost_ret (v := .tuple #[.agg #[.int .i64 0, .int .i64 0, .bool false, .string ⟨#[]⟩, .int .i64 0, .string ⟨#[]⟩], .bool false]) (by simp [results, Tryd.results28, go_sem, z0, z1, z2, z3, z4, z5]) rfl ?_
      exact ⟨rfl, HB.out⟩
    cases B1
    · rw [if_neg (by simp)]
      go_enter Tryd.func28, Tryd.ntmps28
      go_wp2_with fail
      refine (HS.out _).mono ?_
      rintro e w1 ⟨rfl, rfl⟩
      go_wp2_with fail
      refine (HU.out _).mono ?_
      rintro e w1 ⟨rfl, rfl⟩
      go_wp2_with fail
      rw [← HW.out]
      refine (HR0.out _ (HX.out _ hbb).1).mono ?_
      rintro e w2 ⟨rfl, hb2⟩
      clear q0 q1 q2 q3 q4 q5 p0 p1 p2 p3 p4 p5
      replace hbb := hb2
      clear hb2
      obtain ⟨_, k1, k2, k3, k4⟩ := HX.out _ hbb
      obtain ⟨q0, q1, q2, q3, q4, q5⟩ := six_facts k2
      obtain ⟨p0, p1, p2, p3, p4, p5⟩ := six_facts k3
      clear k1 k2 k3 k4
      go_wp2_with fail
      refine (HR1.out _ (HX.out _ hbb).1).mono ?_
      rintro e w3 ⟨rfl, hb3⟩
      replace hbb := hbb.trans (hb3.mono hbb.size)
      clear q0 q1 q2 q3 q4 q5 p0 p1 p2 p3 p4 p5
      clear hb3
      obtain ⟨_, k1, k2, k3, k4⟩ := HX.out _ hbb
      obtain ⟨q0, q1, q2, q3, q4, q5⟩ := six_facts k2
      obtain ⟨p0, p1, p2, p3, p4, p5⟩ := six_facts k3
      obtain ⟨x0, x1, x2, x3, x4, x5⟩ := six_facts k4
      obtain ⟨y0, y1, y2, y3, y4, y5⟩ := six_frozen k4
      have z := six_set k4 (.int .i64 0) (.int .i64 0) (.bool false) (.string ⟨#[]⟩) (.int .i64 0) (.string ⟨#[]⟩)
      have HB : Hid (Below w.heap.size w (set6 _ (w.heap.size + 2) (.int .i64 0) (.int .i64 0) (.bool false) (.string ⟨#[]⟩) (.int .i64 0) (.string ⟨#[]⟩))) := Lib.hid (k1.grown (grown_set6 _ _ _ _ _ _ _ _) k1.size (fun k hk => by cases hk; omega))
      unfold set6 at z HB
      obtain ⟨z0, z1, z2, z3, z4, z5⟩ := six_facts z
      have HZ := Lib.hid (And.intro z0 (And.intro z1 (And.intro z2 (And.intro z3 (And.intro z4 z5)))))
      clear hbb k1 k2 k3 k4 z z0 z1 z2 z3 z4 z5
      go_wp2_with fail
      obtain ⟨z0, z1, z2, z3, z4, z5⟩ := HZ.out
      refine bodyPost_ret (v := .tuple #[.agg #[.int .i64 0, .int .i64 0, .bool false, .string ⟨#[]⟩, .int .i64 0, .string ⟨#[]⟩], .bool false]) (by simp [results, Tryd.results28, go_sem, z0, z1, z2, z3, z4, z5]) rfl ?_
      exact ⟨rfl, HB.out⟩
    rw [if_pos (by rfl)]
    go_enter Tryd.func28, Tryd.ntmps28
    go_wp2_with fail
    refine (HS.out _).mono ?_
    rintro e w1 ⟨rfl, rfl⟩
    go_wp2_with fail
    refine (HU.out _).mono ?_
    rintro e w1 ⟨rfl, rfl⟩
    go_wp2_with fail
    rw [← HW.out]
    refine (HR0.out _ (HX.out _ hbb).1).mono ?_
    rintro e w2 ⟨rfl, hb2⟩
    clear q0 q1 q2 q3 q4 q5 p0 p1 p2 p3 p4 p5
    replace hbb := hb2
    clear hb2
    obtain ⟨_, k1, k2, k3, k4⟩ := HX.out _ hbb
    obtain ⟨q0, q1, q2, q3, q4, q5⟩ := six_facts k2
    obtain ⟨p0, p1, p2, p3, p4, p5⟩ := six_facts k3
    clear k1 k2 k3 k4
    go_wp2_with fail
    refine (HR1.out _ (HX.out _ hbb).1).mono ?_
    rintro e w3 ⟨rfl, hb3⟩
    replace hbb := hbb.trans (hb3.mono hbb.size)
    clear q0 q1 q2 q3 q4 q5 p0 p1 p2 p3 p4 p5
    clear hb3
    obtain ⟨_, k1, k2, k3, k4⟩ := HX.out _ hbb
    obtain ⟨q0, q1, q2, q3, q4, q5⟩ := six_facts k2
    obtain ⟨p0, p1, p2, p3, p4, p5⟩ := six_facts k3
    clear k1 k2 k3 k4
    go_wp2_with fail
    refine (HF.out _).mono ?_
    rintro e w5 ⟨rfl, hb5⟩
    replace hbb := hbb.trans (hb5.mono hbb.size)
    clear q0 q1 q2 q3 q4 q5 p0 p1 p2 p3 p4 p5
    clear hb5
    have hs5 : w.heap.size + 3 ≤ w5.heap.size := by have h1 := hbb.size; rw [hz] at h1; exact h1
    obtain ⟨w7, hw7⟩ : ∃ x, x = w5.alloc (.cells #[.int .i64 c0, .int .i64 m0, .bool h0, .string t1, .int .i64 k0, .string b0] 24) := ⟨_, rfl⟩
    have hs7 : w7.heap.size = w5.heap.size + 1 := by rw [hw7]; simp
    have hn7 : w7.heap[w5.heap.size]? = some (.cells #[.int .i64 c0, .int .i64 m0, .bool h0, .string t1, .int .i64 k0, .string b0] 24 (0, 0)) := by rw [hw7]; exact heap_alloc_new w5 _
    have hb7 : Below w5.heap.size w5 w7 := by rw [hw7]; exact (Below.refl _ _).alloc (Nat.le_refl _) _
    have HW7 := Lib.hid hw7
    replace hbb := hbb.trans (hb7.mono hbb.size)
    clear hb7 hw7
    go_wp2_with fail
    rw [← HW7.out]
    obtain ⟨_, k1, k2, k3, k4⟩ := HX.out _ hbb
    obtain ⟨q0, q1, q2, q3, q4, q5⟩ := six_facts k2
    obtain ⟨p0, p1, p2, p3, p4, p5⟩ := six_facts k3
    obtain ⟨a0, a1, a2, a3, a4, a5⟩ := six_facts hn7
    obtain ⟨d0, d1, d2, d3, d4, d5⟩ := six_frozen hn7
    have HN := Lib.hid hn7; have HBB := Lib.hid hbb; have HS5 := Lib.hid hs5; have HS7 := Lib.hid hs7
    have HF4 := Lib.hid k4; have HF1 := Lib.hid k1
    clear k1 k2 k3 k4 hbb hs5 hs7 hn7
    go_region
    clear q0 q1 q2 q3 q4 q5 p0 p1 p2 p3 p4 p5 a0 a1 a2 a3 a4 a5 d0 d1 d2 d3 d4 d5
    obtain ⟨w8, hw8⟩ : ∃ x, x = ((w7.setCell ⟨w5.heap.size, 1, none⟩ (.int .i64 m1)).setCell ⟨w5.heap.size, 2, none⟩ (.bool h1)).drew := ⟨_, rfl⟩
    have e8 : w8.heap[w5.heap.size]? = some (.cells #[.int .i64 c0, .int .i64 m1, .bool h1, .string t1, .int .i64 k0, .string b0] 24 (0, 0)) := by
      rw [hw8]
      exact heap_setCell_same _ _ 2 _ _ (.bool h1) (heap_setCell_same w7 _ 1 _ _ (.int .i64 m1) HN.out)
    have g8 : w7.grownBy ((w7.setCell ⟨w5.heap.size, 1, none⟩ (.int .i64 m1)).setCell ⟨w5.heap.size, 2, none⟩ (.bool h1)) (some w5.heap.size) := grown_setr (grown_setr (World.grownBy.refl _ _))
    have k1 : Below w.heap.size w w8 := by
      rw [hw8]
      exact (HF1.out.grown g8 HF1.out.size (fun k hk => by cases hk; have := HS5.out; omega)).drew
    have k4 : w8.heap[w.heap.size + 2]? = some (.cells #[.int .i64 0, .int .i64 0, .bool false, .string ⟨#[]⟩, .int .i64 0, .string ⟨#[]⟩] 24 (0, 0)) := by
      rw [hw8]
      have h := HS5.out
      exact (heap_setCell_other _ ⟨w5.heap.size, 2, none⟩ _ _ (by simp; omega)).trans ((heap_setCell_other w7 ⟨w5.heap.size, 1, none⟩ _ _ (by simp; omega)).trans HF4.out)
    rw [← hw8]
    clear g8 hw8 HN HF1 HF4 HBB HS7 HW7
    obtain ⟨q0, q1, q2, q3, q4, q5⟩ := six_facts e8
    obtain ⟨x0, x1, x2, x3, x4, x5⟩ := six_facts k4
    obtain ⟨y0, y1, y2, y3, y4, y5⟩ := six_frozen k4
    have z := six_set k4 (.int .i64 c0) (.int .i64 m1) (.bool h1) (.string t1) (.int .i64 k0) (.string b0)
    have HB : Hid (Below w.heap.size w (set6 w8 (w.heap.size + 2) (.int .i64 c0) (.int .i64 m1) (.bool h1) (.string t1) (.int .i64 k0) (.string b0))) := Lib.hid (k1.grown (grown_set6 _ _ _ _ _ _ _ _) k1.size (fun k hk => by cases hk; omega))
    unfold set6 at z HB
    obtain ⟨z0, z1, z2, z3, z4, z5⟩ := six_facts z
    have HZ := Lib.hid (And.intro z0 (And.intro z1 (And.intro z2 (And.intro z3 (And.intro z4 z5)))))
    clear k1 k4 e8 z z0 z1 z2 z3 z4 z5
    go_wp2_with fail
    obtain ⟨z0, z1, z2, z3, z4, z5⟩ := HZ.out
    refine bodyPost_ret (v := .tuple #[.agg #[.int .i64 c0, .int .i64 m1, .bool h1, .string t1, .int .i64 k0, .string b0], .bool true]) (by simp [results, Tryd.results28, go_sem, z0, z1, z2, z3, z4, z5]) rfl ?_
    exact ⟨rfl, HB.out⟩

  · rw [decide_eq_false cs]
    have e3 : (t1.toList == t0.toList) = false := by rw [Lib.toList_data, Lib.toList_data]; exact beq_eq_false_iff_ne.2 (fun h => cs (str_inj2 h))
    clear cs
    rw [show (B0 && (B1 && (true && ((!false) && false)))) = false from by simp, if_neg (by simp)]
    go_enter Tryd.func28, Tryd.ntmps28
    go_wp2_with fail
    refine (HS.out _).mono ?_
    rintro e w1 ⟨rfl, rfl⟩
    go_wp2_with fail
    refine (HU.out _).mono ?_
    rintro e w1 ⟨rfl, rfl⟩
    go_wp2_with fail
    rw [← HW.out]
    refine (HR0.out _ (HX.out _ hbb).1).mono ?_
    rintro e w2 ⟨rfl, hb2⟩
    clear q0 q1 q2 q3 q4 q5 p0 p1 p2 p3 p4 p5
    replace hbb := hb2
    clear hb2
    cases B0
    · obtain ⟨_, k1, k2, k3, k4⟩ := HX.out _ hbb
      obtain ⟨q0, q1, q2, q3, q4, q5⟩ := six_facts k2
      obtain ⟨p0, p1, p2, p3, p4, p5⟩ := six_facts k3
      obtain ⟨x0, x1, x2, x3, x4, x5⟩ := six_facts k4
      obtain ⟨y0, y1, y2, y3, y4, y5⟩ := six_frozen k4
      have z := six_set k4 (.int .i64 0) (.int .i64 0) (.bool false) (.string ⟨#[]⟩) (.int .i64 0) (.string ⟨#[]⟩)
      have HB : Hid (Below w.heap.size w (set6 _ (w.heap.size + 2) (.int .i64 0) (.int .i64 0) (.bool false) (.string ⟨#[]⟩) (.int .i64 0) (.string ⟨#[]⟩))) := Lib.hid (k1.grown (grown_set6 _ _ _ _ _ _ _ _) k1.size (fun k hk => by cases hk; omega))
      unfold set6 at z HB
      obtain ⟨z0, z1, z2, z3, z4, z5⟩ := six_facts z
      have HZ := Lib.hid (And.intro z0 (And.intro z1 (And.intro z2 (And.intro z3 (And.intro z4 z5)))))
      clear hbb k1 k2 k3 k4 z z0 z1 z2 z3 z4 z5
      go_wp2_with fail
      obtain ⟨z0, z1, z2, z3, z4, z5⟩ := HZ.out
      refine bodyPost_ret (v := .tuple #[.agg #[.int .i64 0, .int .i64 0, .bool false, .string ⟨#[]⟩, .int .i64 0, .string ⟨#[]⟩], .bool false]) (by simp [results, Tryd.results28, go_sem, z0, z1, z2, z3, z4, z5]) rfl ?_
      exact ⟨rfl, HB.out⟩
    obtain ⟨_, k1, k2, k3, k4⟩ := HX.out _ hbb
    obtain ⟨q0, q1, q2, q3, q4, q5⟩ := six_facts k2
    obtain ⟨p0, p1, p2, p3, p4, p5⟩ := six_facts k3
    clear k1 k2 k3 k4
    go_wp2_with fail
    refine (HR1.out _ (HX.out _ hbb).1).mono ?_
    rintro e w3 ⟨rfl, hb3⟩
    replace hbb := hbb.trans (hb3.mono hbb.size)
    clear q0 q1 q2 q3 q4 q5 p0 p1 p2 p3 p4 p5
    clear hb3
    cases B1
    · obtain ⟨_, k1, k2, k3, k4⟩ := HX.out _ hbb
      obtain ⟨q0, q1, q2, q3, q4, q5⟩ := six_facts k2
      obtain ⟨p0, p1, p2, p3, p4, p5⟩ := six_facts k3
      obtain ⟨x0, x1, x2, x3, x4, x5⟩ := six_facts k4
      obtain ⟨y0, y1, y2, y3, y4, y5⟩ := six_frozen k4
      have z := six_set k4 (.int .i64 0) (.int .i64 0) (.bool false) (.string ⟨#[]⟩) (.int .i64 0) (.string ⟨#[]⟩)
      have HB : Hid (Below w.heap.size w (set6 _ (w.heap.size + 2) (.int .i64 0) (.int .i64 0) (.bool false) (.string ⟨#[]⟩) (.int .i64 0) (.string ⟨#[]⟩))) := Lib.hid (k1.grown (grown_set6 _ _ _ _ _ _ _ _) k1.size (fun k hk => by cases hk; omega))
      unfold set6 at z HB
      obtain ⟨z0, z1, z2, z3, z4, z5⟩ := six_facts z
      have HZ := Lib.hid (And.intro z0 (And.intro z1 (And.intro z2 (And.intro z3 (And.intro z4 z5)))))
      clear hbb k1 k2 k3 k4 z z0 z1 z2 z3 z4 z5
      go_wp2_with fail
      obtain ⟨z0, z1, z2, z3, z4, z5⟩ := HZ.out
      refine bodyPost_ret (v := .tuple #[.agg #[.int .i64 0, .int .i64 0, .bool false, .string ⟨#[]⟩, .int .i64 0, .string ⟨#[]⟩], .bool false]) (by simp [results, Tryd.results28, go_sem, z0, z1, z2, z3, z4, z5]) rfl ?_
      exact ⟨rfl, HB.out⟩
    · obtain ⟨_, k1, k2, k3, k4⟩ := HX.out _ hbb
      obtain ⟨q0, q1, q2, q3, q4, q5⟩ := six_facts k2
      obtain ⟨p0, p1, p2, p3, p4, p5⟩ := six_facts k3
      obtain ⟨x0, x1, x2, x3, x4, x5⟩ := six_facts k4
      obtain ⟨y0, y1, y2, y3, y4, y5⟩ := six_frozen k4
      have z := six_set k4 (.int .i64 0) (.int .i64 0) (.bool false) (.string ⟨#[]⟩) (.int .i64 0) (.string ⟨#[]⟩)
      have HB : Hid (Below w.heap.size w (set6 _ (w.heap.size + 2) (.int .i64 0) (.int .i64 0) (.bool false) (.string ⟨#[]⟩) (.int .i64 0) (.string ⟨#[]⟩))) := Lib.hid (k1.grown (grown_set6 _ _ _ _ _ _ _ _) k1.size (fun k hk => by cases hk; omega))
      unfold set6 at z HB
      obtain ⟨z0, z1, z2, z3, z4, z5⟩ := six_facts z
      have HZ := Lib.hid (And.intro z0 (And.intro z1 (And.intro z2 (And.intro z3 (And.intro z4 z5)))))
      clear hbb k1 k2 k3 k4 z z0 z1 z2 z3 z4 z5
      go_wp2_with fail
      obtain ⟨z0, z1, z2, z3, z4, z5⟩ := HZ.out
      refine bodyPost_ret (v := .tuple #[.agg #[.int .i64 0, .int .i64 0, .bool false, .string ⟨#[]⟩, .int .i64 0, .string ⟨#[]⟩], .bool false]) (by simp [results, Tryd.results28, go_sem, z0, z1, z2, z3, z4, z5]) rfl ?_
      exact ⟨rfl, HB.out⟩

end Go.Proofs.YtjhgibmeokghmaaDoor
