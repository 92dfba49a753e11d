/- Walks: answers, by the program: their age, whether they are fresh, whether they may be kept. -/
import Derived.Test.YtjhgibmeokghmaaDoorRsI2
import Derived.Test.YtjhgibmeokghmaaDoorReg
import Derived.Test.YtjhgibmeokghmaaDoorRegR
namespace Go.Proofs.YtjhgibmeokghmaaDoor
open Go.RowKit

theorem age_yes {a n : Int} (h : timesB a n = true) : ageN a n = n - a := by
  unfold timesB at h
  rw [decide_eq_true_eq] at h
  unfold ageN; rw [if_pos h]
theorem age_no {a n : Int} (h : timesB a n = false) : ageN a n = 0 := by
  unfold timesB at h
  rw [decide_eq_false_iff_not] at h
  unfold ageN; rw [if_neg h]
theorem times_iff {a n : Int} : timesB a n = true ↔ 0 ≤ a ∧ a ≤ n ∧ n ≤ 999999 := by unfold timesB; rw [decide_eq_true_eq]

set_option maxRecDepth 100000 in
set_option maxHeartbeats 800000 in
theorem impl_age (a n : Int) (w : World) :
    Calls Tryd.prog 20 #[.int .i64 a, .int .i64 n] w fun e w' => e = .returned (.int .i64 (ageN a n)) ∧ w = w' := by
  have hT := fun W => times_ok a n W
  by_cases h : timesB a n = true
  · rw [age_yes h]
    rw [h] at hT
    obtain ⟨i0, i1, i2⟩ := times_iff.1 h
    clear h
    go_enter Tryd.func20, Tryd.ntmps20
    go_wp2_with fail
    refine (hT _).mono ?_
    rintro e w1 ⟨rfl, rfl⟩
    go_wp2
    go_ret
    exact ⟨rfl, rfl⟩
  · rw [Bool.not_eq_true] at h
    rw [age_no h]
    rw [h] at hT
    clear h
    go_enter Tryd.func20, Tryd.ntmps20
    go_wp2_with fail
    refine (hT _).mono ?_
    rintro e w1 ⟨rfl, rfl⟩
    go_wp2
    go_ret
    exact ⟨rfl, rfl⟩

set_option maxRecDepth 100000 in
set_option maxHeartbeats 1600000 in
theorem impl_fresh (r : Rp) (a n : Int) (w : World) (ht : r.tag.size ≤ maxLen) (hb : r.body.size ≤ maxLen) (hcls : Cls w) :
    Calls Tryd.prog 15 #[rspV r, .int .i64 a, .int .i64 n] w fun e w' => e = .returned (.bool (freshB r a n)) ∧ Below w.heap.size w w' := by
  have hR := fun W (h : Cls W) => impl_rspok r W ht hb h
  have hT := fun W => times_ok a n W
  have hA := fun W => impl_age a n W
  have hag := @age_yes a n
  obtain ⟨c, m, hd, t, k, b⟩ := r
  have hdef : freshB ⟨c, m, hd, t, k, b⟩ a n = (rspB ⟨c, m, hd, t, k, b⟩ && (timesB a n && decide (n - a < m))) := rfl
  rw [hdef]
  unfold rspV at hR ⊢
  dsimp only at hR ⊢
  generalize rspB ⟨c, m, hd, t, k, b⟩ = B0 at *
  generalize timesB a n = B1 at *
  clear hdef ht hb
  obtain ⟨wA, hwA⟩ : ∃ wA, wA = w.alloc (.cells #[.int .i64 c, .int .i64 m, .bool hd, .string t, .int .i64 k, .string b] 24) := ⟨_, rfl⟩
  have hsA : wA.heap.size = w.heap.size + 1 := by rw [hwA]; simp
  have hbA : Below w.heap.size w wA := by rw [hwA]; exact (Below.refl _ _).alloc (Nat.le_refl _) _
  have hH : wA.heap[w.heap.size]? = some (.cells #[.int .i64 c, .int .i64 m, .bool hd, .string t, .int .i64 k, .string b] 24 (0, 0)) := by rw [hwA]; exact heap_alloc_new w _
  have HX : Hid (∀ W, Below wA.heap.size wA W → Cls W ∧ Below w.heap.size w W ∧ W.heap[w.heap.size]? = some (.cells #[.int .i64 c, .int .i64 m, .bool hd, .string t, .int .i64 k, .string b] 24 (0, 0))) := Lib.hid fun W hW => by
    have hb' := hbA.trans (hW.mono (by omega))
    exact ⟨hcls.below hb' (Nat.le_refl _), hb', (hW.block _ (by omega)).trans hH⟩
  have HW := Lib.hid hwA
  have hb0 : Below wA.heap.size wA wA := Below.refl _ _
  obtain ⟨q0, q1, q2, q3, q4, q5⟩ := six_facts hH
  rw [hwA] at q0 q1 q2 q3 q4 q5
  have HR := Lib.hid hR; have HT := Lib.hid hT; have HA := Lib.hid hA; have HG := Lib.hid hag
  clear hR hT hA hag hwA hbA hcls hH
  clear q0 q1 q2 q3 q4 q5
  cases B0
  · go_enter Tryd.func15, Tryd.ntmps15
    go_wp2_with fail
    rw [← HW.out]
    refine wp_region_last (by kernel_rfl) 15 (by kernel_rfl) (by kernel_rfl) (by kernel_rfl)
      (fun z => { tmps := #[.agg #[.int .i64 c, .int .i64 m, .bool hd, .string t, .int .i64 k, .string b], .int .i64 a, .int .i64 n, .pointer (some ⟨w.heap.size, 0, none⟩), undef, undef, .bool false, z 0, z 1, z 2, z 3, z 4, z 5, z 6, z 7, z 8, z 9, z 10, z 11, z 12, z 13, z 14], defers := [] })
      (fun _ W => Below wA.heap.size wA W)
      (fun i x _ => x = ([.agg #[.int .i64 c, .int .i64 m, .bool hd, .string t, .int .i64 k, .string b], .bool false, .bool false, undef, undef, undef, .bool false, .bool false, undef, undef, undef, undef, undef, undef, .bool false] : List Value).getD i undef)
      (fun _ _ => True) (fun _ => undef) (Below.refl _ _).drew
      (fun _ _ _ _ _ h _ => h) ?_ ?_
    · intro i hi z w7 kk hkk hC hdp
      match i, hi with
      | 0, _ =>
        obtain ⟨q0, q1, q2, q3, q4, q5⟩ := six_facts (HX.out w7 hC).2.2
        refine wpOp_step rfl (fun K hK => ?_)
        clear hdp
        go_simp
        exact hK _ _ ⟨.agg #[.int .i64 c, .int .i64 m, .bool hd, .string t, .int .i64 k, .string b], rfl, rfl, trivial, hC⟩
      | 1, _ =>
        have e0 : z 0 = .agg #[.int .i64 c, .int .i64 m, .bool hd, .string t, .int .i64 k, .string b] := hdp 0 (dep_of (by kernel_rfl))
        have hT := HR.out w7 (HX.out w7 hC).1
        refine wpOp_step rfl (fun K hK => ?_)
        clear hdp
        go_simp
        refine hT.mono ?_
        rintro e w8 ⟨rfl, hb8⟩
        exact hK _ _ ⟨.bool false, by simp [upd, e0], rfl, trivial, hC.trans (hb8.mono hC.size)⟩
      | 2, _ =>
        have e1 : z 1 = .bool false := hdp 1 (dep_of (by kernel_rfl))
        refine wpOp_step rfl (fun K hK => ?_)
        clear hdp
        go_simp
        exact hK _ _ ⟨.bool false, by simp [upd, e1], rfl, trivial, hC⟩
      | 3, _ =>
        have e2 : z 2 = .bool false := hdp 2 (dep_of (by kernel_rfl))
        refine wpOp_step rfl (fun K hK => ?_)
        clear hdp
        go_simp
        exact hK _ _ ⟨undef, by simp [upd, e2], rfl, trivial, hC⟩
      | 4, _ =>
        have e2 : z 2 = .bool false := hdp 2 (dep_of (by kernel_rfl))
        refine wpOp_step rfl (fun K hK => ?_)
        clear hdp
        go_simp
        exact hK _ _ ⟨undef, by simp [upd, e2], rfl, trivial, hC⟩
      | 5, _ =>
        have e2 : z 2 = .bool false := hdp 2 (dep_of (by kernel_rfl))
        refine wpOp_step rfl (fun K hK => ?_)
        clear hdp
        go_simp
        exact hK _ _ ⟨undef, by simp [upd, e2], rfl, trivial, hC⟩
      | 6, _ =>
        have e2 : z 2 = .bool false := hdp 2 (dep_of (by kernel_rfl))
        have e5 : z 5 = undef := hdp 5 (dep_of (by kernel_rfl))
        refine wpOp_step rfl (fun K hK => ?_)
        clear hdp
        go_simp
        exact hK _ _ ⟨.bool false, by simp [upd, e2, e5], rfl, trivial, hC⟩
      | 7, _ =>
        have e6 : z 6 = .bool false := hdp 6 (dep_of (by kernel_rfl))
        refine wpOp_step rfl (fun K hK => ?_)
        clear hdp
        go_simp
        exact hK _ _ ⟨.bool false, by simp [upd, e6], rfl, trivial, hC⟩
      | 8, _ =>
        have e7 : z 7 = .bool false := hdp 7 (dep_of (by kernel_rfl))
        refine wpOp_step rfl (fun K hK => ?_)
        clear hdp
        go_simp
        exact hK _ _ ⟨undef, by simp [upd, e7], rfl, trivial, hC⟩
      | 9, _ =>
        have e7 : z 7 = .bool false := hdp 7 (dep_of (by kernel_rfl))
        refine wpOp_step rfl (fun K hK => ?_)
        clear hdp
        go_simp
        exact hK _ _ ⟨undef, by simp [upd, e7], rfl, trivial, hC⟩
      | 10, _ =>
        have e7 : z 7 = .bool false := hdp 7 (dep_of (by kernel_rfl))
        refine wpOp_step rfl (fun K hK => ?_)
        clear hdp
        go_simp
        exact hK _ _ ⟨undef, by simp [upd, e7], rfl, trivial, hC⟩
      | 11, _ =>
        have e7 : z 7 = .bool false := hdp 7 (dep_of (by kernel_rfl))
        refine wpOp_step rfl (fun K hK => ?_)
        clear hdp
        go_simp
        exact hK _ _ ⟨undef, by simp [upd, e7], rfl, trivial, hC⟩
      | 12, _ =>
        have e7 : z 7 = .bool false := hdp 7 (dep_of (by kernel_rfl))
        refine wpOp_step rfl (fun K hK => ?_)
        clear hdp
        go_simp
        exact hK _ _ ⟨undef, by simp [upd, e7], rfl, trivial, hC⟩
      | 13, _ =>
        have e7 : z 7 = .bool false := hdp 7 (dep_of (by kernel_rfl))
        refine wpOp_step rfl (fun K hK => ?_)
        clear hdp
        go_simp
        exact hK _ _ ⟨undef, by simp [upd, e7], rfl, trivial, hC⟩
      | 14, _ =>
        have e7 : z 7 = .bool false := hdp 7 (dep_of (by kernel_rfl))
        have e13 : z 13 = undef := hdp 13 (dep_of (by kernel_rfl))
        refine wpOp_step rfl (fun K hK => ?_)
        clear hdp
        go_simp
        exact hK _ _ ⟨.bool false, by simp [upd, e7, e13], rfl, trivial, hC⟩
      | n + 15, hn => exact absurd hn (by omega)
    · intro z w7 kk hkk hC hdp
      have e14 : z 14 = .bool false := hdp 14 (by decide)
      refine wpOp_step rfl (fun K hK => ?_)
      clear hdp
      go_simp
      refine hK _ _ ?_
      clear hK K
      have HB := Lib.hid (HX.out _ hC).2.1
      clear hC
      go_wp2
      go_ret
      exact ⟨rfl, HB.out⟩
  · cases B1
    · go_enter Tryd.func15, Tryd.ntmps15
      go_wp2_with fail
      rw [← HW.out]
      refine wp_region_last (by kernel_rfl) 15 (by kernel_rfl) (by kernel_rfl) (by kernel_rfl)
        (fun z => { tmps := #[.agg #[.int .i64 c, .int .i64 m, .bool hd, .string t, .int .i64 k, .string b], .int .i64 a, .int .i64 n, .pointer (some ⟨w.heap.size, 0, none⟩), undef, undef, .bool false, z 0, z 1, z 2, z 3, z 4, z 5, z 6, z 7, z 8, z 9, z 10, z 11, z 12, z 13, z 14], defers := [] })
        (fun _ W => Below wA.heap.size wA W)
        (fun i x _ => x = ([.agg #[.int .i64 c, .int .i64 m, .bool hd, .string t, .int .i64 k, .string b], .bool true, .bool true, .int .i64 a, .int .i64 n, .bool false, .bool false, .bool false, undef, undef, undef, undef, undef, undef, .bool false] : List Value).getD i undef)
        (fun _ _ => True) (fun _ => undef) (Below.refl _ _).drew
        (fun _ _ _ _ _ h _ => h) ?_ ?_
      · intro i hi z w7 kk hkk hC hdp
        match i, hi with
        | 0, _ =>
          obtain ⟨q0, q1, q2, q3, q4, q5⟩ := six_facts (HX.out w7 hC).2.2
          refine wpOp_step rfl (fun K hK => ?_)
          clear hdp
          go_simp
          exact hK _ _ ⟨.agg #[.int .i64 c, .int .i64 m, .bool hd, .string t, .int .i64 k, .string b], rfl, rfl, trivial, hC⟩
        | 1, _ =>
          have e0 : z 0 = .agg #[.int .i64 c, .int .i64 m, .bool hd, .string t, .int .i64 k, .string b] := hdp 0 (dep_of (by kernel_rfl))
          have hT := HR.out w7 (HX.out w7 hC).1
          refine wpOp_step rfl (fun K hK => ?_)
          clear hdp
          go_simp
          refine hT.mono ?_
          rintro e w8 ⟨rfl, hb8⟩
          exact hK _ _ ⟨.bool true, by simp [upd, e0], rfl, trivial, hC.trans (hb8.mono hC.size)⟩
        | 2, _ =>
          have e1 : z 1 = .bool true := hdp 1 (dep_of (by kernel_rfl))
          refine wpOp_step rfl (fun K hK => ?_)
          clear hdp
          go_simp
          exact hK _ _ ⟨.bool true, by simp [upd, e1], rfl, trivial, hC⟩
        | 3, _ =>
          have e2 : z 2 = .bool true := hdp 2 (dep_of (by kernel_rfl))
          refine wpOp_step rfl (fun K hK => ?_)
          clear hdp
          go_simp
          exact hK _ _ ⟨.int .i64 a, by simp [upd, e2], rfl, trivial, hC⟩
        | 4, _ =>
          have e2 : z 2 = .bool true := hdp 2 (dep_of (by kernel_rfl))
          refine wpOp_step rfl (fun K hK => ?_)
          clear hdp
          go_simp
          exact hK _ _ ⟨.int .i64 n, by simp [upd, e2], rfl, trivial, hC⟩
        | 5, _ =>
          have e2 : z 2 = .bool true := hdp 2 (dep_of (by kernel_rfl))
          have e3 : z 3 = .int .i64 a := hdp 3 (dep_of (by kernel_rfl))
          have e4 : z 4 = .int .i64 n := hdp 4 (dep_of (by kernel_rfl))
          have hT := HT.out w7
          refine wpOp_step rfl (fun K hK => ?_)
          clear hdp
          go_simp
          refine hT.mono ?_
          rintro e w8 ⟨rfl, rfl⟩
          exact hK _ _ ⟨.bool false, by simp [upd, e2, e3, e4], rfl, trivial, hC⟩
        | 6, _ =>
          have e2 : z 2 = .bool true := hdp 2 (dep_of (by kernel_rfl))
          have e5 : z 5 = .bool false := hdp 5 (dep_of (by kernel_rfl))
          refine wpOp_step rfl (fun K hK => ?_)
          clear hdp
          go_simp
          exact hK _ _ ⟨.bool false, by simp [upd, e2, e5], rfl, trivial, hC⟩
        | 7, _ =>
          have e6 : z 6 = .bool false := hdp 6 (dep_of (by kernel_rfl))
          refine wpOp_step rfl (fun K hK => ?_)
          clear hdp
          go_simp
          exact hK _ _ ⟨.bool false, by simp [upd, e6], rfl, trivial, hC⟩
        | 8, _ =>
          have e7 : z 7 = .bool false := hdp 7 (dep_of (by kernel_rfl))
          refine wpOp_step rfl (fun K hK => ?_)
          clear hdp
          go_simp
          exact hK _ _ ⟨undef, by simp [upd, e7], rfl, trivial, hC⟩
        | 9, _ =>
          have e7 : z 7 = .bool false := hdp 7 (dep_of (by kernel_rfl))
          refine wpOp_step rfl (fun K hK => ?_)
          clear hdp
          go_simp
          exact hK _ _ ⟨undef, by simp [upd, e7], rfl, trivial, hC⟩
        | 10, _ =>
          have e7 : z 7 = .bool false := hdp 7 (dep_of (by kernel_rfl))
          refine wpOp_step rfl (fun K hK => ?_)
          clear hdp
          go_simp
          exact hK _ _ ⟨undef, by simp [upd, e7], rfl, trivial, hC⟩
        | 11, _ =>
          have e7 : z 7 = .bool false := hdp 7 (dep_of (by kernel_rfl))
          refine wpOp_step rfl (fun K hK => ?_)
          clear hdp
          go_simp
          exact hK _ _ ⟨undef, by simp [upd, e7], rfl, trivial, hC⟩
        | 12, _ =>
          have e7 : z 7 = .bool false := hdp 7 (dep_of (by kernel_rfl))
          refine wpOp_step rfl (fun K hK => ?_)
          clear hdp
          go_simp
          exact hK _ _ ⟨undef, by simp [upd, e7], rfl, trivial, hC⟩
        | 13, _ =>
          have e7 : z 7 = .bool false := hdp 7 (dep_of (by kernel_rfl))
          refine wpOp_step rfl (fun K hK => ?_)
          clear hdp
          go_simp
          exact hK _ _ ⟨undef, by simp [upd, e7], rfl, trivial, hC⟩
        | 14, _ =>
          have e7 : z 7 = .bool false := hdp 7 (dep_of (by kernel_rfl))
          have e13 : z 13 = undef := hdp 13 (dep_of (by kernel_rfl))
          refine wpOp_step rfl (fun K hK => ?_)
          clear hdp
          go_simp
          exact hK _ _ ⟨.bool false, by simp [upd, e7, e13], rfl, trivial, hC⟩
        | n + 15, hn => exact absurd hn (by omega)
      · intro z w7 kk hkk hC hdp
        have e14 : z 14 = .bool false := hdp 14 (by decide)
        refine wpOp_step rfl (fun K hK => ?_)
        clear hdp
        go_simp
        refine hK _ _ ?_
        clear hK K
        have HB := Lib.hid (HX.out _ hC).2.1
        clear hC
        go_wp2
        go_ret
        exact ⟨rfl, HB.out⟩
    · have hag := HG.out rfl
      have hq : (true && (true && decide (n - a < m))) = decide (ageN a n < m) := by rw [hag]; rfl
      rw [hq]
      clear hq hag HG
      go_enter Tryd.func15, Tryd.ntmps15
      go_wp2_with fail
      rw [← HW.out]
      refine wp_region_last (by kernel_rfl) 15 (by kernel_rfl) (by kernel_rfl) (by kernel_rfl)
        (fun z => { tmps := #[.agg #[.int .i64 c, .int .i64 m, .bool hd, .string t, .int .i64 k, .string b], .int .i64 a, .int .i64 n, .pointer (some ⟨w.heap.size, 0, none⟩), undef, undef, .bool false, z 0, z 1, z 2, z 3, z 4, z 5, z 6, z 7, z 8, z 9, z 10, z 11, z 12, z 13, z 14], defers := [] })
        (fun _ W => Below wA.heap.size wA W)
        (fun i x _ => x = ([.agg #[.int .i64 c, .int .i64 m, .bool hd, .string t, .int .i64 k, .string b], .bool true, .bool true, .int .i64 a, .int .i64 n, .bool true, .bool true, .bool true, .int .i64 a, .int .i64 n, .int .i64 (ageN a n), .pointer (some ⟨w.heap.size, 1, none⟩), .int .i64 m, .bool (decide (ageN a n < m)), .bool (decide (ageN a n < m))] : List Value).getD i undef)
        (fun _ _ => True) (fun _ => undef) (Below.refl _ _).drew
        (fun _ _ _ _ _ h _ => h) ?_ ?_
      · intro i hi z w7 kk hkk hC hdp
        match i, hi with
        | 0, _ =>
          obtain ⟨q0, q1, q2, q3, q4, q5⟩ := six_facts (HX.out w7 hC).2.2
          refine wpOp_step rfl (fun K hK => ?_)
          clear hdp
          go_simp
          exact hK _ _ ⟨.agg #[.int .i64 c, .int .i64 m, .bool hd, .string t, .int .i64 k, .string b], rfl, rfl, trivial, hC⟩
        | 1, _ =>
          have e0 : z 0 = .agg #[.int .i64 c, .int .i64 m, .bool hd, .string t, .int .i64 k, .string b] := hdp 0 (dep_of (by kernel_rfl))
          have hT := HR.out w7 (HX.out w7 hC).1
          refine wpOp_step rfl (fun K hK => ?_)
          clear hdp
          go_simp
          refine hT.mono ?_
          rintro e w8 ⟨rfl, hb8⟩
          exact hK _ _ ⟨.bool true, by simp [upd, e0], rfl, trivial, hC.trans (hb8.mono hC.size)⟩
        | 2, _ =>
          have e1 : z 1 = .bool true := hdp 1 (dep_of (by kernel_rfl))
          refine wpOp_step rfl (fun K hK => ?_)
          clear hdp
          go_simp
          exact hK _ _ ⟨.bool true, by simp [upd, e1], rfl, trivial, hC⟩
        | 3, _ =>
          have e2 : z 2 = .bool true := hdp 2 (dep_of (by kernel_rfl))
          refine wpOp_step rfl (fun K hK => ?_)
          clear hdp
          go_simp
          exact hK _ _ ⟨.int .i64 a, by simp [upd, e2], rfl, trivial, hC⟩
        | 4, _ =>
          have e2 : z 2 = .bool true := hdp 2 (dep_of (by kernel_rfl))
          refine wpOp_step rfl (fun K hK => ?_)
          clear hdp
          go_simp
          exact hK _ _ ⟨.int .i64 n, by simp [upd, e2], rfl, trivial, hC⟩
        | 5, _ =>
          have e2 : z 2 = .bool true := hdp 2 (dep_of (by kernel_rfl))
          have e3 : z 3 = .int .i64 a := hdp 3 (dep_of (by kernel_rfl))
          have e4 : z 4 = .int .i64 n := hdp 4 (dep_of (by kernel_rfl))
          have hT := HT.out w7
          refine wpOp_step rfl (fun K hK => ?_)
          clear hdp
          go_simp
          refine hT.mono ?_
          rintro e w8 ⟨rfl, rfl⟩
          exact hK _ _ ⟨.bool true, by simp [upd, e2, e3, e4], rfl, trivial, hC⟩
        | 6, _ =>
          have e2 : z 2 = .bool true := hdp 2 (dep_of (by kernel_rfl))
          have e5 : z 5 = .bool true := hdp 5 (dep_of (by kernel_rfl))
          refine wpOp_step rfl (fun K hK => ?_)
          clear hdp
          go_simp
          exact hK _ _ ⟨.bool true, by simp [upd, e2, e5], rfl, trivial, hC⟩
        | 7, _ =>
          have e6 : z 6 = .bool true := hdp 6 (dep_of (by kernel_rfl))
          refine wpOp_step rfl (fun K hK => ?_)
          clear hdp
          go_simp
          exact hK _ _ ⟨.bool true, by simp [upd, e6], rfl, trivial, hC⟩
        | 8, _ =>
          have e7 : z 7 = .bool true := hdp 7 (dep_of (by kernel_rfl))
          refine wpOp_step rfl (fun K hK => ?_)
          clear hdp
          go_simp
          exact hK _ _ ⟨.int .i64 a, by simp [upd, e7], rfl, trivial, hC⟩
        | 9, _ =>
          have e7 : z 7 = .bool true := hdp 7 (dep_of (by kernel_rfl))
          refine wpOp_step rfl (fun K hK => ?_)
          clear hdp
          go_simp
          exact hK _ _ ⟨.int .i64 n, by simp [upd, e7], rfl, trivial, hC⟩
        | 10, _ =>
          have e7 : z 7 = .bool true := hdp 7 (dep_of (by kernel_rfl))
          have e8 : z 8 = .int .i64 a := hdp 8 (dep_of (by kernel_rfl))
          have e9 : z 9 = .int .i64 n := hdp 9 (dep_of (by kernel_rfl))
          have hT := HA.out w7
          refine wpOp_step rfl (fun K hK => ?_)
          clear hdp
          go_simp
          refine hT.mono ?_
          rintro e w8 ⟨rfl, rfl⟩
          exact hK _ _ ⟨.int .i64 (ageN a n), by simp [upd, e7, e8, e9], rfl, trivial, hC⟩
        | 11, _ =>
          have e7 : z 7 = .bool true := hdp 7 (dep_of (by kernel_rfl))
          refine wpOp_step rfl (fun K hK => ?_)
          clear hdp
          go_simp
          exact hK _ _ ⟨.pointer (some ⟨w.heap.size, 1, none⟩), by simp [upd, e7], rfl, trivial, hC⟩
        | 12, _ =>
          obtain ⟨q0, q1, q2, q3, q4, q5⟩ := six_facts (HX.out w7 hC).2.2
          have e7 : z 7 = .bool true := hdp 7 (dep_of (by kernel_rfl))
          have e11 : z 11 = .pointer (some ⟨w.heap.size, 1, none⟩) := hdp 11 (dep_of (by kernel_rfl))
          refine wpOp_step rfl (fun K hK => ?_)
          clear hdp
          go_simp
          exact hK _ _ ⟨.int .i64 m, by simp [upd, e7, e11], rfl, trivial, hC⟩
        | 13, _ =>
          have e7 : z 7 = .bool true := hdp 7 (dep_of (by kernel_rfl))
          have e10 : z 10 = .int .i64 (ageN a n) := hdp 10 (dep_of (by kernel_rfl))
          have e12 : z 12 = .int .i64 m := hdp 12 (dep_of (by kernel_rfl))
          refine wpOp_step rfl (fun K hK => ?_)
          clear hdp
          go_simp
          exact hK _ _ ⟨.bool (decide (ageN a n < m)), by simp [upd, e7, e10, e12], rfl, trivial, hC⟩
        | 14, _ =>
          have e7 : z 7 = .bool true := hdp 7 (dep_of (by kernel_rfl))
          have e13 : z 13 = .bool (decide (ageN a n < m)) := hdp 13 (dep_of (by kernel_rfl))
          refine wpOp_step rfl (fun K hK => ?_)
          clear hdp
          go_simp
          exact hK _ _ ⟨.bool (decide (ageN a n < m)), by simp [upd, e7, e13], rfl, trivial, hC⟩
        | n + 15, hn => exact absurd hn (by omega)
      · intro z w7 kk hkk hC hdp
        have e14 : z 14 = .bool (decide (ageN a n < m)) := hdp 14 (by decide)
        refine wpOp_step rfl (fun K hK => ?_)
        clear hdp
        go_simp
        refine hK _ _ ?_
        clear hK K
        have HB := Lib.hid (HX.out _ hC).2.1
        clear hC
        go_wp2
        go_ret
        exact ⟨rfl, HB.out⟩

set_option maxRecDepth 100000 in
set_option maxHeartbeats 1600000 in
theorem impl_keep (r : Rp) (x : Int) (w : World) (ht : r.tag.size ≤ maxLen) (hb : r.body.size ≤ maxLen) (hcls : Cls w) :
    Calls Tryd.prog 24 #[rspV r, .int .i64 x] w fun e w' => e = .returned (.bool (keepB r x)) ∧ Below w.heap.size w w' := by
  have hR := fun W (h : Cls W) => impl_rspok r W ht hb h
  obtain ⟨c, m, hd, t, k, b⟩ := r
  have hS := fun W => status_of c W
  have hU := fun W => use_of c W
  have hI := fun W => impl_codin x k W
  have hdef : keepB ⟨c, m, hd, t, k, b⟩ x = (rspB ⟨c, m, hd, t, k, b⟩ && (((useN c == 1) && (decide (0 < m) && !hd)) && inB x k)) := by
    unfold keepB
    have e : (useN c == 1) = decide (c = 200 ∨ c = 404) := by
      unfold useN
      by_cases h : c = 200 ∨ c = 404
      · rw [if_pos h, decide_eq_true h]; rfl
      · rw [if_neg h, decide_eq_false h]
        split <;> rfl
    rw [e]
    dsimp only
    simp only [Bool.and_assoc]
  rw [hdef]
  unfold rspV at hR ⊢
  dsimp only at hR ⊢
  generalize rspB ⟨c, m, hd, t, k, b⟩ = B0 at *
  generalize inB x k = B2 at *
  generalize useN c = U at *
  generalize stV c = S at *
  clear hdef ht hb
  obtain ⟨wA, hwA⟩ : ∃ wA, wA = w.alloc (.cells #[.int .i64 c, .int .i64 m, .bool hd, .string t, .int .i64 k, .string b] 24) := ⟨_, rfl⟩
  have hsA : wA.heap.size = w.heap.size + 1 := by rw [hwA]; simp
  have hbA : Below w.heap.size w wA := by rw [hwA]; exact (Below.refl _ _).alloc (Nat.le_refl _) _
  have hH : wA.heap[w.heap.size]? = some (.cells #[.int .i64 c, .int .i64 m, .bool hd, .string t, .int .i64 k, .string b] 24 (0, 0)) := by rw [hwA]; exact heap_alloc_new w _
  have HX : Hid (∀ W, Below wA.heap.size wA W → Cls W ∧ Below w.heap.size w W ∧ W.heap[w.heap.size]? = some (.cells #[.int .i64 c, .int .i64 m, .bool hd, .string t, .int .i64 k, .string b] 24 (0, 0))) := Lib.hid fun W hW => by
    have hb' := hbA.trans (hW.mono (by omega))
    exact ⟨hcls.below hb' (Nat.le_refl _), hb', (hW.block _ (by omega)).trans hH⟩
  have HW := Lib.hid hwA
  have hb0 : Below wA.heap.size wA wA := Below.refl _ _
  obtain ⟨q0, q1, q2, q3, q4, q5⟩ := six_facts hH
  rw [hwA] at q0 q1 q2 q3 q4 q5
  have HR := Lib.hid hR; have HS := Lib.hid hS; have HU := Lib.hid hU; have HI := Lib.hid hI
  clear hR hS hU hI hwA hbA hcls hH
  generalize hE : (U == 1) = E at *
  cases E
  · rw [show (B0 && ((false && (decide (0 < m) && !hd)) && B2)) = (B0 && false) from rfl]
    go_enter Tryd.func24, Tryd.ntmps24
    go_wp2_with fail
    refine (HS.out _).mono ?_
    rintro e w1 ⟨rfl, rfl⟩
    go_wp2_with fail
    refine (HU.out _).mono ?_
    rintro e w1 ⟨rfl, rfl⟩
    go_wp2_with fail
    rw [← HW.out]
    refine (HR.out _ (HX.out _ hb0).1).mono ?_
    rintro e w2 ⟨rfl, hb2⟩
    clear q0 q1 q2 q3 q4 q5
    obtain ⟨q0, q1, q2, q3, q4, q5⟩ := six_facts (HX.out _ hb2).2.2
    have HB := Lib.hid (HX.out _ hb2).2.1
    clear hb0 hb2
    cases B0
    · go_wp2
      go_ret
      exact ⟨rfl, HB.out⟩
    · go_wp2
      go_ret
      exact ⟨rfl, HB.out⟩
  · by_cases hm : 0 < m
    · rw [decide_eq_true hm]
      cases hd
      · rw [show (B0 && ((true && (true && !false)) && B2)) = (B0 && B2) from rfl]
        go_enter Tryd.func24, Tryd.ntmps24
        go_wp2_with fail
        refine (HS.out _).mono ?_
        rintro e w1 ⟨rfl, rfl⟩
        go_wp2_with fail
        refine (HU.out _).mono ?_
        rintro e w1 ⟨rfl, rfl⟩
        go_wp2_with fail
        rw [← HW.out]
        refine (HR.out _ (HX.out _ hb0).1).mono ?_
        rintro e w2 ⟨rfl, hb2⟩
        clear q0 q1 q2 q3 q4 q5
        obtain ⟨q0, q1, q2, q3, q4, q5⟩ := six_facts (HX.out _ hb2).2.2
        have HB := Lib.hid (HX.out _ hb2).2.1
        clear hb0 hb2
        cases B0
        · go_wp2
          go_ret
          exact ⟨rfl, HB.out⟩
        · go_wp2_with fail
          refine (HI.out _).mono ?_
          rintro e w3 ⟨rfl, rfl⟩
          go_wp2
          go_ret
          exact ⟨rfl, HB.out⟩
      · rw [show (B0 && ((true && (true && !true)) && B2)) = (B0 && false) from rfl]
        go_enter Tryd.func24, Tryd.ntmps24
        go_wp2_with fail
        refine (HS.out _).mono ?_
        rintro e w1 ⟨rfl, rfl⟩
        go_wp2_with fail
        refine (HU.out _).mono ?_
        rintro e w1 ⟨rfl, rfl⟩
        go_wp2_with fail
        rw [← HW.out]
        refine (HR.out _ (HX.out _ hb0).1).mono ?_
        rintro e w2 ⟨rfl, hb2⟩
        clear q0 q1 q2 q3 q4 q5
        obtain ⟨q0, q1, q2, q3, q4, q5⟩ := six_facts (HX.out _ hb2).2.2
        have HB := Lib.hid (HX.out _ hb2).2.1
        clear hb0 hb2
        cases B0
        · go_wp2
          go_ret
          exact ⟨rfl, HB.out⟩
        · go_wp2
          go_ret
          exact ⟨rfl, HB.out⟩
    · rw [decide_eq_false hm, show (B0 && ((true && (false && !hd)) && B2)) = (B0 && false) from rfl]
      go_enter Tryd.func24, Tryd.ntmps24
      go_wp2_with fail
      refine (HS.out _).mono ?_
      rintro e w1 ⟨rfl, rfl⟩
      go_wp2_with fail
      refine (HU.out _).mono ?_
      rintro e w1 ⟨rfl, rfl⟩
      go_wp2_with fail
      rw [← HW.out]
      refine (HR.out _ (HX.out _ hb0).1).mono ?_
      rintro e w2 ⟨rfl, hb2⟩
      clear q0 q1 q2 q3 q4 q5
      obtain ⟨q0, q1, q2, q3, q4, q5⟩ := six_facts (HX.out _ hb2).2.2
      have HB := Lib.hid (HX.out _ hb2).2.1
      clear hb0 hb2
      cases B0
      · go_wp2
        go_ret
        exact ⟨rfl, HB.out⟩
      · go_wp2
        go_ret
        exact ⟨rfl, HB.out⟩

end Go.Proofs.YtjhgibmeokghmaaDoor
