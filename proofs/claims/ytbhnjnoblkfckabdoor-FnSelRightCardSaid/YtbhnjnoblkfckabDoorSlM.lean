/- Walks: whether a seal is right, by the program and by the specification. -/
import Derived.Test.YtbhnjnoblkfckabDoorSlL
import Derived.Test.YtbhnjnoblkfckabDoorReg
namespace Go.Proofs.YtbhnjnoblkfckabDoor
open Go.RowKit

theorem right_no {key : Int} {s : Sl} {now last : Int} (h : sealB key s.path s.til s.nonce = false) : rightS key s now last = false := by unfold rightS; rw [h]; rfl
set_option maxRecDepth 100000 in
set_option maxHeartbeats 3200000 in
theorem impl_right (key : Int) (s : Sl) (now last : Int) (w : World) (hp : s.path.size ≤ maxLen) :
    Calls Tryd.prog 10 #[.int .i64 key, slV s, .int .i64 now, .int .i64 last] w fun e w' => e = .returned (.bool (rightS key s now last)) ∧ Below w.heap.size w w' := by
  have HS := Lib.hid fun W => impl_sealable key s W hp
  have HV := Lib.hid fun W => impl_selof key s.path s.under s.til s.nonce W hp
  obtain ⟨p, u, t, n, c⟩ := s
  unfold slV at HS ⊢
  unfold rightS
  dsimp only at HS HV ⊢
  obtain ⟨wA, hwA⟩ : ∃ wA, wA = w.alloc (.cells #[.string p, .bool u, .int .i64 t, .int .i64 n, .int .i64 c] 29) := ⟨_, rfl⟩
  have hsA : wA.heap.size = w.heap.size + 1 := by rw [hwA]; simp
  have hbA : Below w.heap.size w wA := by rw [hwA]; exact (Below.refl _ _).alloc (Nat.le_refl _) _
  have hH : wA.heap[w.heap.size]? = some (.cells #[.string p, .bool u, .int .i64 t, .int .i64 n, .int .i64 c] 29 (0, 0)) := by rw [hwA]; exact heap_alloc_new w _
  have HX : Hid (∀ W, Below wA.heap.size wA W → Below w.heap.size w W ∧ W.heap[w.heap.size]? = some (.cells #[.string p, .bool u, .int .i64 t, .int .i64 n, .int .i64 c] 29 (0, 0))) := Lib.hid fun W hW =>
    ⟨hbA.trans (hW.mono (by omega)), (hW.block _ (by omega)).trans hH⟩
  have HW := Lib.hid hwA
  clear hwA hH hbA
  generalize sealB key p t n = B at *
  generalize selS key p u t n = V at *
  cases B
  · rw [show (((false && decide (c = V)) && decide (now < t)) && decide (last < n)) = false from rfl]
    go_enter Tryd.func10, Tryd.ntmps10
    go_wp2_with fail
    rw [← HW.out]
    refine wp_region_last (by kernel_rfl) 18 (by kernel_rfl) (by kernel_rfl) (by kernel_rfl)
      (fun z => { tmps := #[.int .i64 key, .agg #[.string p, .bool u, .int .i64 t, .int .i64 n, .int .i64 c], .int .i64 now, .int .i64 last, undef, .pointer (some ⟨w.heap.size, 0, none⟩), undef, undef, .bool false, undef, z 0, z 1, z 2, z 3, z 4, z 5, z 6, z 7, z 8, z 9, z 10, z 11, z 12, z 13, z 14, z 15, z 16, z 17, undef, undef, undef, undef, undef, undef, undef, undef, undef, undef, undef, undef, undef], defers := [] })
      (fun _ W => Below wA.heap.size wA W)
      (fun i xv _ => xv = ([.int .i64 key, .agg #[.string p, .bool u, .int .i64 t, .int .i64 n, .int .i64 c], .bool false, .bool false, undef, undef, undef, undef, undef, undef, undef, undef, undef, undef, undef, undef, undef, .bool false] : List Value).getD i undef)
      (fun _ _ => True) (fun _ => undef) (Below.refl _ _).drew
      (fun _ _ _ _ _ h _ => h) ?_ ?_
    · intro i hi z w7 kk hkk hC hdp
      match i, hi with
      | 0, _ =>
        refine wpOp_step rfl (fun K hK => ?_)
        clear hdp
        go_simp
        exact hK _ _ ⟨.int .i64 key, rfl, rfl, trivial, hC⟩
      | 1, _ =>
        obtain ⟨q0, q1, q2, q3, q4⟩ := sl_facts (HX.out w7 hC).2
        refine wpOp_step rfl (fun K hK => ?_)
        clear hdp
        go_simp
        exact hK _ _ ⟨.agg #[.string p, .bool u, .int .i64 t, .int .i64 n, .int .i64 c], rfl, rfl, trivial, hC⟩
      | 2, _ =>
        have e0 : z 0 = .int .i64 key := hdp 0 (dep_of (by kernel_rfl))
        have e1 : z 1 = .agg #[.string p, .bool u, .int .i64 t, .int .i64 n, .int .i64 c] := hdp 1 (dep_of (by kernel_rfl))
        have hT := HS.out w7
        refine wpOp_step rfl (fun K hK => ?_)
        clear hdp
        go_simp
        refine hT.mono ?_
        rintro e w8 ⟨rfl, hb8⟩
        exact hK _ _ ⟨.bool false, by simp [upd, e0, e1], rfl, trivial, hC.trans (hb8.mono hC.size)⟩
      | 3, _ =>
        have e2 : z 2 = .bool false := hdp 2 (dep_of (by kernel_rfl))
        refine wpOp_step rfl (fun K hK => ?_)
        clear hdp
        go_simp
        exact hK _ _ ⟨.bool false, by simp [upd, e2], rfl, trivial, hC⟩
      | 4, _ =>
        have e3 : z 3 = .bool false := hdp 3 (dep_of (by kernel_rfl))
        refine wpOp_step rfl (fun K hK => ?_)
        clear hdp
        go_simp
        exact hK _ _ ⟨undef, by simp [upd, e3], rfl, trivial, hC⟩
      | 5, _ =>
        have e3 : z 3 = .bool false := hdp 3 (dep_of (by kernel_rfl))
        refine wpOp_step rfl (fun K hK => ?_)
        clear hdp
        go_simp
        exact hK _ _ ⟨undef, by simp [upd, e3], rfl, trivial, hC⟩
      | 6, _ =>
        have e3 : z 3 = .bool false := hdp 3 (dep_of (by kernel_rfl))
        refine wpOp_step rfl (fun K hK => ?_)
        clear hdp
        go_simp
        exact hK _ _ ⟨undef, by simp [upd, e3], rfl, trivial, hC⟩
      | 7, _ =>
        have e3 : z 3 = .bool false := hdp 3 (dep_of (by kernel_rfl))
        refine wpOp_step rfl (fun K hK => ?_)
        clear hdp
        go_simp
        exact hK _ _ ⟨undef, by simp [upd, e3], rfl, trivial, hC⟩
      | 8, _ =>
        have e3 : z 3 = .bool false := hdp 3 (dep_of (by kernel_rfl))
        refine wpOp_step rfl (fun K hK => ?_)
        clear hdp
        go_simp
        exact hK _ _ ⟨undef, by simp [upd, e3], rfl, trivial, hC⟩
      | 9, _ =>
        have e3 : z 3 = .bool false := hdp 3 (dep_of (by kernel_rfl))
        refine wpOp_step rfl (fun K hK => ?_)
        clear hdp
        go_simp
        exact hK _ _ ⟨undef, by simp [upd, e3], rfl, trivial, hC⟩
      | 10, _ =>
        have e3 : z 3 = .bool false := hdp 3 (dep_of (by kernel_rfl))
        refine wpOp_step rfl (fun K hK => ?_)
        clear hdp
        go_simp
        exact hK _ _ ⟨undef, by simp [upd, e3], rfl, trivial, hC⟩
      | 11, _ =>
        have e3 : z 3 = .bool false := hdp 3 (dep_of (by kernel_rfl))
        refine wpOp_step rfl (fun K hK => ?_)
        clear hdp
        go_simp
        exact hK _ _ ⟨undef, by simp [upd, e3], rfl, trivial, hC⟩
      | 12, _ =>
        have e3 : z 3 = .bool false := hdp 3 (dep_of (by kernel_rfl))
        refine wpOp_step rfl (fun K hK => ?_)
        clear hdp
        go_simp
        exact hK _ _ ⟨undef, by simp [upd, e3], rfl, trivial, hC⟩
      | 13, _ =>
        have e3 : z 3 = .bool false := hdp 3 (dep_of (by kernel_rfl))
        refine wpOp_step rfl (fun K hK => ?_)
        clear hdp
        go_simp
        exact hK _ _ ⟨undef, by simp [upd, e3], rfl, trivial, hC⟩
      | 14, _ =>
        have e3 : z 3 = .bool false := hdp 3 (dep_of (by kernel_rfl))
        refine wpOp_step rfl (fun K hK => ?_)
        clear hdp
        go_simp
        exact hK _ _ ⟨undef, by simp [upd, e3], rfl, trivial, hC⟩
      | 15, _ =>
        have e3 : z 3 = .bool false := hdp 3 (dep_of (by kernel_rfl))
        refine wpOp_step rfl (fun K hK => ?_)
        clear hdp
        go_simp
        exact hK _ _ ⟨undef, by simp [upd, e3], rfl, trivial, hC⟩
      | 16, _ =>
        have e3 : z 3 = .bool false := hdp 3 (dep_of (by kernel_rfl))
        refine wpOp_step rfl (fun K hK => ?_)
        clear hdp
        go_simp
        exact hK _ _ ⟨undef, by simp [upd, e3], rfl, trivial, hC⟩
      | 17, _ =>
        have e3 : z 3 = .bool false := hdp 3 (dep_of (by kernel_rfl))
        have e16 : z 16 = undef := hdp 16 (dep_of (by kernel_rfl))
        refine wpOp_step rfl (fun K hK => ?_)
        clear hdp
        go_simp
        exact hK _ _ ⟨.bool false, by simp [upd, e3, e16], rfl, trivial, hC⟩
      | n + 18, hn => exact absurd hn (by omega)
    · intro z w7 kk hkk hC hdp
      have e17 : z 17 = .bool false := hdp 17 (by decide)
      refine wpOp_step rfl (fun K hK => ?_)
      clear hdp
      go_simp
      refine hK _ _ ?_
      clear hK K e17
      have HBw := Lib.hid (HX.out w7 hC).1
      obtain ⟨q0, q1, q2, q3, q4⟩ := sl_facts (HX.out w7 hC).2
      clear hC
      go_wp2
      go_ret
      exact ⟨rfl, HBw.out⟩
  by_cases hc : c = V
  · subst hc
    have hcc : (c == c) = true := by simp
    rw [show (((true && decide (c = c)) && decide (now < t)) && decide (last < n)) = (decide (now < t) && decide (last < n)) from by simp]
    go_enter Tryd.func10, Tryd.ntmps10
    go_wp2_with fail
    rw [← HW.out]
    refine wp_region_last (by kernel_rfl) 18 (by kernel_rfl) (by kernel_rfl) (by kernel_rfl)
      (fun z => { tmps := #[.int .i64 key, .agg #[.string p, .bool u, .int .i64 t, .int .i64 n, .int .i64 c], .int .i64 now, .int .i64 last, undef, .pointer (some ⟨w.heap.size, 0, none⟩), undef, undef, .bool false, undef, z 0, z 1, z 2, z 3, z 4, z 5, z 6, z 7, z 8, z 9, z 10, z 11, z 12, z 13, z 14, z 15, z 16, z 17, undef, undef, undef, undef, undef, undef, undef, undef, undef, undef, undef, undef, undef], defers := [] })
      (fun _ W => Below wA.heap.size wA W)
      (fun i xv _ => xv = ([.int .i64 key, .agg #[.string p, .bool u, .int .i64 t, .int .i64 n, .int .i64 c], .bool true, .bool true, .pointer (some ⟨w.heap.size, 4, none⟩), .int .i64 c, .int .i64 key, .pointer (some ⟨w.heap.size, 0, none⟩), .string p, .pointer (some ⟨w.heap.size, 1, none⟩), .bool u, .pointer (some ⟨w.heap.size, 2, none⟩), .int .i64 t, .pointer (some ⟨w.heap.size, 3, none⟩), .int .i64 n, .int .i64 c, .bool true, .bool true] : List Value).getD i undef)
      (fun _ _ => True) (fun _ => undef) (Below.refl _ _).drew
      (fun _ _ _ _ _ h _ => h) ?_ ?_
    · intro i hi z w7 kk hkk hC hdp
      match i, hi with
      | 0, _ =>
        refine wpOp_step rfl (fun K hK => ?_)
        clear hdp
        go_simp
        exact hK _ _ ⟨.int .i64 key, rfl, rfl, trivial, hC⟩
      | 1, _ =>
        obtain ⟨q0, q1, q2, q3, q4⟩ := sl_facts (HX.out w7 hC).2
        refine wpOp_step rfl (fun K hK => ?_)
        clear hdp
        go_simp
        exact hK _ _ ⟨.agg #[.string p, .bool u, .int .i64 t, .int .i64 n, .int .i64 c], rfl, rfl, trivial, hC⟩
      | 2, _ =>
        have e0 : z 0 = .int .i64 key := hdp 0 (dep_of (by kernel_rfl))
        have e1 : z 1 = .agg #[.string p, .bool u, .int .i64 t, .int .i64 n, .int .i64 c] := hdp 1 (dep_of (by kernel_rfl))
        have hT := HS.out w7
        refine wpOp_step rfl (fun K hK => ?_)
        clear hdp
        go_simp
        refine hT.mono ?_
        rintro e w8 ⟨rfl, hb8⟩
        exact hK _ _ ⟨.bool true, by simp [upd, e0, e1], rfl, trivial, hC.trans (hb8.mono hC.size)⟩
      | 3, _ =>
        have e2 : z 2 = .bool true := hdp 2 (dep_of (by kernel_rfl))
        refine wpOp_step rfl (fun K hK => ?_)
        clear hdp
        go_simp
        exact hK _ _ ⟨.bool true, by simp [upd, e2], rfl, trivial, hC⟩
      | 4, _ =>
        have e3 : z 3 = .bool true := hdp 3 (dep_of (by kernel_rfl))
        refine wpOp_step rfl (fun K hK => ?_)
        clear hdp
        go_simp
        exact hK _ _ ⟨.pointer (some ⟨w.heap.size, 4, none⟩), by simp [upd, e3], rfl, trivial, hC⟩
      | 5, _ =>
        obtain ⟨q0, q1, q2, q3, q4⟩ := sl_facts (HX.out w7 hC).2
        have e3 : z 3 = .bool true := hdp 3 (dep_of (by kernel_rfl))
        have e4 : z 4 = .pointer (some ⟨w.heap.size, 4, none⟩) := hdp 4 (dep_of (by kernel_rfl))
        refine wpOp_step rfl (fun K hK => ?_)
        clear hdp
        go_simp
        exact hK _ _ ⟨.int .i64 c, by simp [upd, e3, e4], rfl, trivial, hC⟩
      | 6, _ =>
        have e3 : z 3 = .bool true := hdp 3 (dep_of (by kernel_rfl))
        refine wpOp_step rfl (fun K hK => ?_)
        clear hdp
        go_simp
        exact hK _ _ ⟨.int .i64 key, by simp [upd, e3], rfl, trivial, hC⟩
      | 7, _ =>
        have e3 : z 3 = .bool true := hdp 3 (dep_of (by kernel_rfl))
        refine wpOp_step rfl (fun K hK => ?_)
        clear hdp
        go_simp
        exact hK _ _ ⟨.pointer (some ⟨w.heap.size, 0, none⟩), by simp [upd, e3], rfl, trivial, hC⟩
      | 8, _ =>
        obtain ⟨q0, q1, q2, q3, q4⟩ := sl_facts (HX.out w7 hC).2
        have e3 : z 3 = .bool true := hdp 3 (dep_of (by kernel_rfl))
        have e7 : z 7 = .pointer (some ⟨w.heap.size, 0, none⟩) := hdp 7 (dep_of (by kernel_rfl))
        refine wpOp_step rfl (fun K hK => ?_)
        clear hdp
        go_simp
        exact hK _ _ ⟨.string p, by simp [upd, e3, e7], rfl, trivial, hC⟩
      | 9, _ =>
        have e3 : z 3 = .bool true := hdp 3 (dep_of (by kernel_rfl))
        refine wpOp_step rfl (fun K hK => ?_)
        clear hdp
        go_simp
        exact hK _ _ ⟨.pointer (some ⟨w.heap.size, 1, none⟩), by simp [upd, e3], rfl, trivial, hC⟩
      | 10, _ =>
        obtain ⟨q0, q1, q2, q3, q4⟩ := sl_facts (HX.out w7 hC).2
        have e3 : z 3 = .bool true := hdp 3 (dep_of (by kernel_rfl))
        have e9 : z 9 = .pointer (some ⟨w.heap.size, 1, none⟩) := hdp 9 (dep_of (by kernel_rfl))
        refine wpOp_step rfl (fun K hK => ?_)
        clear hdp
        go_simp
        exact hK _ _ ⟨.bool u, by simp [upd, e3, e9], rfl, trivial, hC⟩
      | 11, _ =>
        have e3 : z 3 = .bool true := hdp 3 (dep_of (by kernel_rfl))
        refine wpOp_step rfl (fun K hK => ?_)
        clear hdp
        go_simp
        exact hK _ _ ⟨.pointer (some ⟨w.heap.size, 2, none⟩), by simp [upd, e3], rfl, trivial, hC⟩
      | 12, _ =>
        obtain ⟨q0, q1, q2, q3, q4⟩ := sl_facts (HX.out w7 hC).2
        have e3 : z 3 = .bool true := hdp 3 (dep_of (by kernel_rfl))
        have e11 : z 11 = .pointer (some ⟨w.heap.size, 2, none⟩) := hdp 11 (dep_of (by kernel_rfl))
        refine wpOp_step rfl (fun K hK => ?_)
        clear hdp
        go_simp
        exact hK _ _ ⟨.int .i64 t, by simp [upd, e3, e11], rfl, trivial, hC⟩
      | 13, _ =>
        have e3 : z 3 = .bool true := hdp 3 (dep_of (by kernel_rfl))
        refine wpOp_step rfl (fun K hK => ?_)
        clear hdp
        go_simp
        exact hK _ _ ⟨.pointer (some ⟨w.heap.size, 3, none⟩), by simp [upd, e3], rfl, trivial, hC⟩
      | 14, _ =>
        obtain ⟨q0, q1, q2, q3, q4⟩ := sl_facts (HX.out w7 hC).2
        have e3 : z 3 = .bool true := hdp 3 (dep_of (by kernel_rfl))
        have e13 : z 13 = .pointer (some ⟨w.heap.size, 3, none⟩) := hdp 13 (dep_of (by kernel_rfl))
        refine wpOp_step rfl (fun K hK => ?_)
        clear hdp
        go_simp
        exact hK _ _ ⟨.int .i64 n, by simp [upd, e3, e13], rfl, trivial, hC⟩
      | 15, _ =>
        have e3 : z 3 = .bool true := hdp 3 (dep_of (by kernel_rfl))
        have e6 : z 6 = .int .i64 key := hdp 6 (dep_of (by kernel_rfl))
        have e8 : z 8 = .string p := hdp 8 (dep_of (by kernel_rfl))
        have e10 : z 10 = .bool u := hdp 10 (dep_of (by kernel_rfl))
        have e12 : z 12 = .int .i64 t := hdp 12 (dep_of (by kernel_rfl))
        have e14 : z 14 = .int .i64 n := hdp 14 (dep_of (by kernel_rfl))
        have hT := HV.out w7
        refine wpOp_step rfl (fun K hK => ?_)
        clear hdp
        go_simp
        refine hT.mono ?_
        rintro e w8 ⟨rfl, hb8⟩
        exact hK _ _ ⟨.int .i64 c, by simp [upd, e3, e6, e8, e10, e12, e14], rfl, trivial, hC.trans (hb8.mono hC.size)⟩
      | 16, _ =>
        have e3 : z 3 = .bool true := hdp 3 (dep_of (by kernel_rfl))
        have e5 : z 5 = .int .i64 c := hdp 5 (dep_of (by kernel_rfl))
        have e15 : z 15 = .int .i64 c := hdp 15 (dep_of (by kernel_rfl))
        refine wpOp_step rfl (fun K hK => ?_)
        clear hdp
        go_simp
        exact hK _ _ ⟨.bool true, by simp [upd, e3, e5, e15], rfl, trivial, hC⟩
      | 17, _ =>
        have e3 : z 3 = .bool true := hdp 3 (dep_of (by kernel_rfl))
        have e16 : z 16 = .bool true := hdp 16 (dep_of (by kernel_rfl))
        refine wpOp_step rfl (fun K hK => ?_)
        clear hdp
        go_simp
        exact hK _ _ ⟨.bool true, by simp [upd, e3, e16], rfl, trivial, hC⟩
      | n + 18, hn => exact absurd hn (by omega)
    · intro z w7 kk hkk hC hdp
      have e17 : z 17 = .bool true := hdp 17 (by decide)
      refine wpOp_step rfl (fun K hK => ?_)
      clear hdp
      go_simp
      refine hK _ _ ?_
      clear hK K e17
      have HBw := Lib.hid (HX.out w7 hC).1
      obtain ⟨q0, q1, q2, q3, q4⟩ := sl_facts (HX.out w7 hC).2
      clear hC
      by_cases j1 : now < t
      · by_cases j2 : last < n
        all_goals
          go_wp2
          go_ret
          exact ⟨by first | (simp; done) | (simp; omega), HBw.out⟩
      · go_wp2
        go_ret
        exact ⟨by first | (simp; done) | (simp; omega), HBw.out⟩
  · have hcc : (c == V) = false := by simpa using hc
    rw [decide_eq_false hc]
    rw [show (((true && false) && decide (now < t)) && decide (last < n)) = false from rfl]
    clear hc
    go_enter Tryd.func10, Tryd.ntmps10
    go_wp2_with fail
    rw [← HW.out]
    refine wp_region_last (by kernel_rfl) 18 (by kernel_rfl) (by kernel_rfl) (by kernel_rfl)
      (fun z => { tmps := #[.int .i64 key, .agg #[.string p, .bool u, .int .i64 t, .int .i64 n, .int .i64 c], .int .i64 now, .int .i64 last, undef, .pointer (some ⟨w.heap.size, 0, none⟩), undef, undef, .bool false, undef, z 0, z 1, z 2, z 3, z 4, z 5, z 6, z 7, z 8, z 9, z 10, z 11, z 12, z 13, z 14, z 15, z 16, z 17, undef, undef, undef, undef, undef, undef, undef, undef, undef, undef, undef, undef, undef], defers := [] })
      (fun _ W => Below wA.heap.size wA W)
      (fun i xv _ => xv = ([.int .i64 key, .agg #[.string p, .bool u, .int .i64 t, .int .i64 n, .int .i64 c], .bool true, .bool true, .pointer (some ⟨w.heap.size, 4, none⟩), .int .i64 c, .int .i64 key, .pointer (some ⟨w.heap.size, 0, none⟩), .string p, .pointer (some ⟨w.heap.size, 1, none⟩), .bool u, .pointer (some ⟨w.heap.size, 2, none⟩), .int .i64 t, .pointer (some ⟨w.heap.size, 3, none⟩), .int .i64 n, .int .i64 V, .bool false, .bool false] : List Value).getD i undef)
      (fun _ _ => True) (fun _ => undef) (Below.refl _ _).drew
      (fun _ _ _ _ _ h _ => h) ?_ ?_
    · intro i hi z w7 kk hkk hC hdp
      match i, hi with
      | 0, _ =>
        refine wpOp_step rfl (fun K hK => ?_)
        clear hdp
        go_simp
        exact hK _ _ ⟨.int .i64 key, rfl, rfl, trivial, hC⟩
      | 1, _ =>
        obtain ⟨q0, q1, q2, q3, q4⟩ := sl_facts (HX.out w7 hC).2
        refine wpOp_step rfl (fun K hK => ?_)
        clear hdp
        go_simp
        exact hK _ _ ⟨.agg #[.string p, .bool u, .int .i64 t, .int .i64 n, .int .i64 c], rfl, rfl, trivial, hC⟩
      | 2, _ =>
        have e0 : z 0 = .int .i64 key := hdp 0 (dep_of (by kernel_rfl))
        have e1 : z 1 = .agg #[.string p, .bool u, .int .i64 t, .int .i64 n, .int .i64 c] := hdp 1 (dep_of (by kernel_rfl))
        have hT := HS.out w7
        refine wpOp_step rfl (fun K hK => ?_)
        clear hdp
        go_simp
        refine hT.mono ?_
        rintro e w8 ⟨rfl, hb8⟩
        exact hK _ _ ⟨.bool true, by simp [upd, e0, e1], rfl, trivial, hC.trans (hb8.mono hC.size)⟩
      | 3, _ =>
        have e2 : z 2 = .bool true := hdp 2 (dep_of (by kernel_rfl))
        refine wpOp_step rfl (fun K hK => ?_)
        clear hdp
        go_simp
        exact hK _ _ ⟨.bool true, by simp [upd, e2], rfl, trivial, hC⟩
      | 4, _ =>
        have e3 : z 3 = .bool true := hdp 3 (dep_of (by kernel_rfl))
        refine wpOp_step rfl (fun K hK => ?_)
        clear hdp
        go_simp
        exact hK _ _ ⟨.pointer (some ⟨w.heap.size, 4, none⟩), by simp [upd, e3], rfl, trivial, hC⟩
      | 5, _ =>
        obtain ⟨q0, q1, q2, q3, q4⟩ := sl_facts (HX.out w7 hC).2
        have e3 : z 3 = .bool true := hdp 3 (dep_of (by kernel_rfl))
        have e4 : z 4 = .pointer (some ⟨w.heap.size, 4, none⟩) := hdp 4 (dep_of (by kernel_rfl))
        refine wpOp_step rfl (fun K hK => ?_)
        clear hdp
        go_simp
        exact hK _ _ ⟨.int .i64 c, by simp [upd, e3, e4], rfl, trivial, hC⟩
      | 6, _ =>
        have e3 : z 3 = .bool true := hdp 3 (dep_of (by kernel_rfl))
        refine wpOp_step rfl (fun K hK => ?_)
        clear hdp
        go_simp
        exact hK _ _ ⟨.int .i64 key, by simp [upd, e3], rfl, trivial, hC⟩
      | 7, _ =>
        have e3 : z 3 = .bool true := hdp 3 (dep_of (by kernel_rfl))
        refine wpOp_step rfl (fun K hK => ?_)
        clear hdp
        go_simp
        exact hK _ _ ⟨.pointer (some ⟨w.heap.size, 0, none⟩), by simp [upd, e3], rfl, trivial, hC⟩
      | 8, _ =>
        obtain ⟨q0, q1, q2, q3, q4⟩ := sl_facts (HX.out w7 hC).2
        have e3 : z 3 = .bool true := hdp 3 (dep_of (by kernel_rfl))
        have e7 : z 7 = .pointer (some ⟨w.heap.size, 0, none⟩) := hdp 7 (dep_of (by kernel_rfl))
        refine wpOp_step rfl (fun K hK => ?_)
        clear hdp
        go_simp
        exact hK _ _ ⟨.string p, by simp [upd, e3, e7], rfl, trivial, hC⟩
      | 9, _ =>
        have e3 : z 3 = .bool true := hdp 3 (dep_of (by kernel_rfl))
        refine wpOp_step rfl (fun K hK => ?_)
        clear hdp
        go_simp
        exact hK _ _ ⟨.pointer (some ⟨w.heap.size, 1, none⟩), by simp [upd, e3], rfl, trivial, hC⟩
      | 10, _ =>
        obtain ⟨q0, q1, q2, q3, q4⟩ := sl_facts (HX.out w7 hC).2
        have e3 : z 3 = .bool true := hdp 3 (dep_of (by kernel_rfl))
        have e9 : z 9 = .pointer (some ⟨w.heap.size, 1, none⟩) := hdp 9 (dep_of (by kernel_rfl))
        refine wpOp_step rfl (fun K hK => ?_)
        clear hdp
        go_simp
        exact hK _ _ ⟨.bool u, by simp [upd, e3, e9], rfl, trivial, hC⟩
      | 11, _ =>
        have e3 : z 3 = .bool true := hdp 3 (dep_of (by kernel_rfl))
        refine wpOp_step rfl (fun K hK => ?_)
        clear hdp
        go_simp
        exact hK _ _ ⟨.pointer (some ⟨w.heap.size, 2, none⟩), by simp [upd, e3], rfl, trivial, hC⟩
      | 12, _ =>
        obtain ⟨q0, q1, q2, q3, q4⟩ := sl_facts (HX.out w7 hC).2
        have e3 : z 3 = .bool true := hdp 3 (dep_of (by kernel_rfl))
        have e11 : z 11 = .pointer (some ⟨w.heap.size, 2, none⟩) := hdp 11 (dep_of (by kernel_rfl))
        refine wpOp_step rfl (fun K hK => ?_)
        clear hdp
        go_simp
        exact hK _ _ ⟨.int .i64 t, by simp [upd, e3, e11], rfl, trivial, hC⟩
      | 13, _ =>
        have e3 : z 3 = .bool true := hdp 3 (dep_of (by kernel_rfl))
        refine wpOp_step rfl (fun K hK => ?_)
        clear hdp
        go_simp
        exact hK _ _ ⟨.pointer (some ⟨w.heap.size, 3, none⟩), by simp [upd, e3], rfl, trivial, hC⟩
      | 14, _ =>
        obtain ⟨q0, q1, q2, q3, q4⟩ := sl_facts (HX.out w7 hC).2
        have e3 : z 3 = .bool true := hdp 3 (dep_of (by kernel_rfl))
        have e13 : z 13 = .pointer (some ⟨w.heap.size, 3, none⟩) := hdp 13 (dep_of (by kernel_rfl))
        refine wpOp_step rfl (fun K hK => ?_)
        clear hdp
        go_simp
        exact hK _ _ ⟨.int .i64 n, by simp [upd, e3, e13], rfl, trivial, hC⟩
      | 15, _ =>
        have e3 : z 3 = .bool true := hdp 3 (dep_of (by kernel_rfl))
        have e6 : z 6 = .int .i64 key := hdp 6 (dep_of (by kernel_rfl))
        have e8 : z 8 = .string p := hdp 8 (dep_of (by kernel_rfl))
        have e10 : z 10 = .bool u := hdp 10 (dep_of (by kernel_rfl))
        have e12 : z 12 = .int .i64 t := hdp 12 (dep_of (by kernel_rfl))
        have e14 : z 14 = .int .i64 n := hdp 14 (dep_of (by kernel_rfl))
        have hT := HV.out w7
        refine wpOp_step rfl (fun K hK => ?_)
        clear hdp
        go_simp
        refine hT.mono ?_
        rintro e w8 ⟨rfl, hb8⟩
        exact hK _ _ ⟨.int .i64 V, by simp [upd, e3, e6, e8, e10, e12, e14], rfl, trivial, hC.trans (hb8.mono hC.size)⟩
      | 16, _ =>
        have e3 : z 3 = .bool true := hdp 3 (dep_of (by kernel_rfl))
        have e5 : z 5 = .int .i64 c := hdp 5 (dep_of (by kernel_rfl))
        have e15 : z 15 = .int .i64 V := hdp 15 (dep_of (by kernel_rfl))
        refine wpOp_step rfl (fun K hK => ?_)
        clear hdp
        go_simp
        exact hK _ _ ⟨.bool false, by simp [upd, e3, e5, e15], rfl, trivial, hC⟩
      | 17, _ =>
        have e3 : z 3 = .bool true := hdp 3 (dep_of (by kernel_rfl))
        have e16 : z 16 = .bool false := hdp 16 (dep_of (by kernel_rfl))
        refine wpOp_step rfl (fun K hK => ?_)
        clear hdp
        go_simp
        exact hK _ _ ⟨.bool false, by simp [upd, e3, e16], rfl, trivial, hC⟩
      | n + 18, hn => exact absurd hn (by omega)
    · intro z w7 kk hkk hC hdp
      have e17 : z 17 = .bool false := hdp 17 (by decide)
      refine wpOp_step rfl (fun K hK => ?_)
      clear hdp
      go_simp
      refine hK _ _ ?_
      clear hK K e17
      have HBw := Lib.hid (HX.out w7 hC).1
      obtain ⟨q0, q1, q2, q3, q4⟩ := sl_facts (HX.out w7 hC).2
      clear hC
      go_wp2
      go_ret
      exact ⟨rfl, HBw.out⟩

end Go.Proofs.YtbhnjnoblkfckabDoor
