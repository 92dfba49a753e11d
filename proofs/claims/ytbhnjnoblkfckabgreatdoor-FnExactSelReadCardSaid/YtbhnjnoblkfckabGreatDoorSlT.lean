/- Walks: what a request that clears says, by the program. -/
import Derived.Test.YtbhnjnoblkfckabGreatDoorSlS
import Derived.Test.YtbhnjnoblkfckabGreatDoorGA14
import Derived.Test.YtbhnjnoblkfckabGreatDoorGA08
namespace Go.Proofs.YtbhnjnoblkfckabGreatDoor
open Go.RowKit

theorem ok8 {fs : List Fd} (h : FOk fs 1048576) : FOk fs 281474976710656 := fun f hf => ⟨Nat.le_trans (h f hf).1 (by decide), Nat.le_trans (h f hf).2 (by decide)⟩
theorem str_same9 (a : ByteArray) : (a.toList == a.toList) = true := by simp
theorem str_ne9 {a b : ByteArray} (h : a ≠ b) : (a.toList == b.toList) = false := by
  rw [Bool.eq_false_iff]; intro e
  have := eq_of_beq e
  rw [Lib.toList_data, Lib.toList_data] at this
  exact h (by cases a; cases b; simpa [Array.toList_inj] using this)
theorem clear_split (h : Hd) : clearB h = (((h.verb.toList == [112, 117, 114, 103, 101]) && decide ((⟨(pathL h.target.data.toList).toArray⟩ : ByteArray) = h.target)) && hedB h) := by
  unfold clearB
  rw [Lib.toList_data]
  have e1 : (pathL h.target.data.toList == h.target.data.toList) = decide ((⟨(pathL h.target.data.toList).toArray⟩ : ByteArray) = h.target) := by
    rw [Bool.eq_iff_iff, beq_iff_eq, decide_eq_true_eq]
    constructor
    · intro e; rw [e]
    · intro e
      have := congrArg (fun b : ByteArray => b.data.toList) e
      simpa using this
  rw [e1]; rfl
set_option maxRecDepth 100000 in
set_option maxHeartbeats 3200000 in
theorem impl_clears (h : Hd) (v : Value) (w : World) (hv : FRow w v h.fs) (hz : HSz h) (hcls : Cls w) (htab : Tab w) :
    Calls Tryz.prog 42 #[.agg #[.string h.verb, .string h.target, .string h.host, v, .string h.body]] w fun e w' => e = .returned (.bool (clearB h)) ∧ Below w.heap.size w w' := by
  obtain ⟨va, vn, vc, rfl⟩ : ∃ a l c, v = .slice a l c := by obtain ⟨a, c, hh, _⟩ := hv; exact ⟨a, _, c, hh⟩
  obtain ⟨wA, hwA⟩ : ∃ wA, wA = w.alloc (.cells #[.string h.verb, .string h.target, .string h.host, .slice va vn vc, .string h.body] 32) := ⟨_, rfl⟩
  have hsA : wA.heap.size = w.heap.size + 1 := by rw [hwA]; simp
  have hbA : Below w.heap.size w wA := by rw [hwA]; exact (Below.refl _ _).alloc (Nat.le_refl _) _
  have hH : wA.heap[w.heap.size]? = some (.cells #[.string h.verb, .string h.target, .string h.host, .slice va vn vc, .string h.body] 32 (0, 0)) := by rw [hwA]; exact heap_alloc_new w _
  have HX : Hid (∀ W, Below wA.heap.size wA W → (Cls W ∧ Tab W ∧ FRow W (.slice va vn vc) h.fs) ∧ Below w.heap.size w W ∧ W.heap[w.heap.size]? = some (.cells #[.string h.verb, .string h.target, .string h.host, .slice va vn vc, .string h.body] 32 (0, 0))) := Lib.hid fun W hW => by
    have hb := hbA.trans (hW.mono (by omega))
    exact ⟨⟨hcls.below hb (Nat.le_refl _), htab.below hb (Nat.le_refl _), hv.below (Nat.le_refl _) hb⟩, hb, (hW.block _ (by omega)).trans hH⟩
  have HHed : Hid (∀ W, (Cls W ∧ Tab W ∧ FRow W (.slice va vn vc) h.fs) → Calls Tryz.prog 32 #[.agg #[.string h.verb, .string h.target, .string h.host, .slice va vn vc, .string h.body]] W fun e w' => e = .returned (.bool (hedB h)) ∧ Below W.heap.size W w') := Lib.hid fun W hW => impl_hedok h _ W hW.2.2 (ok8 hz.fs) hz.verb hz.target hz.host hz.body hW.1 hW.2.1
  have HP := Lib.hid fun W => impl_path h.target W (Nat.le_trans hz.target (by decide))
  rw [clear_split]
  unfold strV at HP
  generalize hP : (⟨(pathL h.target.data.toList).toArray⟩ : ByteArray) = P at *
  generalize hedB h = HK at *
  have HW := Lib.hid hwA
  clear hwA hH hbA hv hz hcls htab hP
  generalize hV : (h.verb.toList == [112, 117, 114, 103, 101]) = X at *
  cases X
  · rw [show ((false && decide (P = h.target)) && HK) = false from rfl]
    go_enter Tryz.func42, Tryz.ntmps42
    go_wp2_with fail
    rw [← HW.out]
    refine wp_region_last (by kernel_rfl) 15 (by kernel_rfl) (by kernel_rfl) (by kernel_rfl)
      (fun z => { tmps := #[.agg #[.string h.verb, .string h.target, .string h.host, .slice va vn vc, .string h.body], .pointer (some ⟨w.heap.size, 0, none⟩), .bool false, z 0, z 1, z 2, z 3, z 4, z 5, z 6, z 7, z 8, z 9, z 10, z 11, z 12, z 13, z 14], defers := [] })
      (fun _ W => Below wA.heap.size wA W)
      (fun i xv _ => xv = ([.pointer (some ⟨w.heap.size, 0, none⟩), .string h.verb, .bool false, .bool false, undef, undef, undef, undef, undef, undef, .bool false, .bool false, undef, undef, .bool false] : List Value).getD i undef)
      (fun _ _ => True) (fun _ => undef) (Below.refl _ _).drew
      (fun _ _ _ _ _ h _ => h) ?_ ?_
    · intro i hi z w7 kk hkk hC hdp
      match i, hi with
      | 0, _ =>
        refine wpOp_step rfl (fun K hK => ?_)
        clear hdp
        go_simp
        exact hK _ _ ⟨.pointer (some ⟨w.heap.size, 0, none⟩), rfl, rfl, trivial, hC⟩
      | 1, _ =>
        obtain ⟨q0, q1, q2, q3, q4⟩ := sl_facts (HX.out w7 hC).2.2
        have e0 : z 0 = .pointer (some ⟨w.heap.size, 0, none⟩) := hdp 0 (dep_of (by kernel_rfl))
        refine wpOp_step rfl (fun K hK => ?_)
        clear hdp
        go_simp
        exact hK _ _ ⟨.string h.verb, by simp [upd, e0], rfl, trivial, hC⟩
      | 2, _ =>
        have e1 : z 1 = .string h.verb := hdp 1 (dep_of (by kernel_rfl))
        refine wpOp_step rfl (fun K hK => ?_)
        clear hdp
        go_simp
        exact hK _ _ ⟨.bool false, by simp [upd, e1], rfl, trivial, hC⟩
      | 3, _ =>
        have e2 : z 2 = .bool false := hdp 2 (dep_of (by kernel_rfl))
        refine wpOp_step rfl (fun K hK => ?_)
        clear hdp
        go_simp
        exact hK _ _ ⟨.bool false, by simp [upd, e2], rfl, trivial, hC⟩
      | 4, _ =>
        have e3 : z 3 = .bool false := hdp 3 (dep_of (by kernel_rfl))
        refine wpOp_step rfl (fun K hK => ?_)
        clear hdp
        go_simp
        exact hK _ _ ⟨undef, by simp [upd, e3], rfl, trivial, hC⟩
      | 5, _ =>
        have e3 : z 3 = .bool false := hdp 3 (dep_of (by kernel_rfl))
        refine wpOp_step rfl (fun K hK => ?_)
        clear hdp
        go_simp
        exact hK _ _ ⟨undef, by simp [upd, e3], rfl, trivial, hC⟩
      | 6, _ =>
        have e3 : z 3 = .bool false := hdp 3 (dep_of (by kernel_rfl))
        refine wpOp_step rfl (fun K hK => ?_)
        clear hdp
        go_simp
        exact hK _ _ ⟨undef, by simp [upd, e3], rfl, trivial, hC⟩
      | 7, _ =>
        have e3 : z 3 = .bool false := hdp 3 (dep_of (by kernel_rfl))
        refine wpOp_step rfl (fun K hK => ?_)
        clear hdp
        go_simp
        exact hK _ _ ⟨undef, by simp [upd, e3], rfl, trivial, hC⟩
      | 8, _ =>
        have e3 : z 3 = .bool false := hdp 3 (dep_of (by kernel_rfl))
        refine wpOp_step rfl (fun K hK => ?_)
        clear hdp
        go_simp
        exact hK _ _ ⟨undef, by simp [upd, e3], rfl, trivial, hC⟩
      | 9, _ =>
        have e3 : z 3 = .bool false := hdp 3 (dep_of (by kernel_rfl))
        refine wpOp_step rfl (fun K hK => ?_)
        clear hdp
        go_simp
        exact hK _ _ ⟨undef, by simp [upd, e3], rfl, trivial, hC⟩
      | 10, _ =>
        have e3 : z 3 = .bool false := hdp 3 (dep_of (by kernel_rfl))
        have e9 : z 9 = undef := hdp 9 (dep_of (by kernel_rfl))
        refine wpOp_step rfl (fun K hK => ?_)
        clear hdp
        go_simp
        exact hK _ _ ⟨.bool false, by simp [upd, e3, e9], rfl, trivial, hC⟩
      | 11, _ =>
        have e10 : z 10 = .bool false := hdp 10 (dep_of (by kernel_rfl))
        refine wpOp_step rfl (fun K hK => ?_)
        clear hdp
        go_simp
        exact hK _ _ ⟨.bool false, by simp [upd, e10], rfl, trivial, hC⟩
      | 12, _ =>
        have e11 : z 11 = .bool false := hdp 11 (dep_of (by kernel_rfl))
        refine wpOp_step rfl (fun K hK => ?_)
        clear hdp
        go_simp
        exact hK _ _ ⟨undef, by simp [upd, e11], rfl, trivial, hC⟩
      | 13, _ =>
        have e11 : z 11 = .bool false := hdp 11 (dep_of (by kernel_rfl))
        refine wpOp_step rfl (fun K hK => ?_)
        clear hdp
        go_simp
        exact hK _ _ ⟨undef, by simp [upd, e11], rfl, trivial, hC⟩
      | 14, _ =>
        have e11 : z 11 = .bool false := hdp 11 (dep_of (by kernel_rfl))
        have e13 : z 13 = undef := hdp 13 (dep_of (by kernel_rfl))
        refine wpOp_step rfl (fun K hK => ?_)
        clear hdp
        go_simp
        exact hK _ _ ⟨.bool false, by simp [upd, e11, e13], rfl, trivial, hC⟩
      | n + 15, hn => exact absurd hn (by omega)
    · intro z w7 kk hkk hC hdp
      have e14 : z 14 = .bool false := hdp 14 (by decide)
      refine wpOp_step rfl (fun K hK => ?_)
      clear hdp
      go_simp
      refine hK _ _ ?_
      clear hK K e14
      have HBw := Lib.hid (HX.out w7 hC).2.1
      clear hC
      go_wp2
      go_ret
      exact ⟨rfl, HBw.out⟩
  by_cases hP : P = h.target
  rotate_left
  · have hn := str_ne9 hP
    rw [decide_eq_false hP, show ((true && false) && HK) = false from rfl]
    clear hP
    go_enter Tryz.func42, Tryz.ntmps42
    go_wp2_with fail
    rw [← HW.out]
    refine wp_region_last (by kernel_rfl) 15 (by kernel_rfl) (by kernel_rfl) (by kernel_rfl)
      (fun z => { tmps := #[.agg #[.string h.verb, .string h.target, .string h.host, .slice va vn vc, .string h.body], .pointer (some ⟨w.heap.size, 0, none⟩), .bool false, z 0, z 1, z 2, z 3, z 4, z 5, z 6, z 7, z 8, z 9, z 10, z 11, z 12, z 13, z 14], defers := [] })
      (fun _ W => Below wA.heap.size wA W)
      (fun i xv _ => xv = ([.pointer (some ⟨w.heap.size, 0, none⟩), .string h.verb, .bool true, .bool true, .pointer (some ⟨w.heap.size, 1, none⟩), .string h.target, .string P, .pointer (some ⟨w.heap.size, 1, none⟩), .string h.target, .bool false, .bool false, .bool false, undef, undef, .bool false] : List Value).getD i undef)
      (fun _ _ => True) (fun _ => undef) (Below.refl _ _).drew
      (fun _ _ _ _ _ h _ => h) ?_ ?_
    · intro i hi z w7 kk hkk hC hdp
      match i, hi with
      | 0, _ =>
        refine wpOp_step rfl (fun K hK => ?_)
        clear hdp
        go_simp
        exact hK _ _ ⟨.pointer (some ⟨w.heap.size, 0, none⟩), rfl, rfl, trivial, hC⟩
      | 1, _ =>
        obtain ⟨q0, q1, q2, q3, q4⟩ := sl_facts (HX.out w7 hC).2.2
        have e0 : z 0 = .pointer (some ⟨w.heap.size, 0, none⟩) := hdp 0 (dep_of (by kernel_rfl))
        refine wpOp_step rfl (fun K hK => ?_)
        clear hdp
        go_simp
        exact hK _ _ ⟨.string h.verb, by simp [upd, e0], rfl, trivial, hC⟩
      | 2, _ =>
        have e1 : z 1 = .string h.verb := hdp 1 (dep_of (by kernel_rfl))
        refine wpOp_step rfl (fun K hK => ?_)
        clear hdp
        go_simp
        exact hK _ _ ⟨.bool true, by simp [upd, e1], rfl, trivial, hC⟩
      | 3, _ =>
        have e2 : z 2 = .bool true := hdp 2 (dep_of (by kernel_rfl))
        refine wpOp_step rfl (fun K hK => ?_)
        clear hdp
        go_simp
        exact hK _ _ ⟨.bool true, by simp [upd, e2], rfl, trivial, hC⟩
      | 4, _ =>
        have e3 : z 3 = .bool true := hdp 3 (dep_of (by kernel_rfl))
        refine wpOp_step rfl (fun K hK => ?_)
        clear hdp
        go_simp
        exact hK _ _ ⟨.pointer (some ⟨w.heap.size, 1, none⟩), by simp [upd, e3], rfl, trivial, hC⟩
      | 5, _ =>
        obtain ⟨q0, q1, q2, q3, q4⟩ := sl_facts (HX.out w7 hC).2.2
        have e3 : z 3 = .bool true := hdp 3 (dep_of (by kernel_rfl))
        have e4 : z 4 = .pointer (some ⟨w.heap.size, 1, none⟩) := hdp 4 (dep_of (by kernel_rfl))
        refine wpOp_step rfl (fun K hK => ?_)
        clear hdp
        go_simp
        exact hK _ _ ⟨.string h.target, by simp [upd, e3, e4], rfl, trivial, hC⟩
      | 6, _ =>
        have e3 : z 3 = .bool true := hdp 3 (dep_of (by kernel_rfl))
        have e5 : z 5 = .string h.target := hdp 5 (dep_of (by kernel_rfl))
        have hT := HP.out w7
        refine wpOp_step rfl (fun K hK => ?_)
        clear hdp
        go_simp
        refine hT.mono ?_
        rintro e w8 ⟨rfl, hb8⟩
        exact hK _ _ ⟨.string P, by simp [upd, e3, e5], rfl, trivial, hC.trans (hb8.mono hC.size)⟩
      | 7, _ =>
        have e3 : z 3 = .bool true := hdp 3 (dep_of (by kernel_rfl))
        refine wpOp_step rfl (fun K hK => ?_)
        clear hdp
        go_simp
        exact hK _ _ ⟨.pointer (some ⟨w.heap.size, 1, none⟩), by simp [upd, e3], rfl, trivial, hC⟩
      | 8, _ =>
        obtain ⟨q0, q1, q2, q3, q4⟩ := sl_facts (HX.out w7 hC).2.2
        have e3 : z 3 = .bool true := hdp 3 (dep_of (by kernel_rfl))
        have e7 : z 7 = .pointer (some ⟨w.heap.size, 1, none⟩) := hdp 7 (dep_of (by kernel_rfl))
        refine wpOp_step rfl (fun K hK => ?_)
        clear hdp
        go_simp
        exact hK _ _ ⟨.string h.target, by simp [upd, e3, e7], rfl, trivial, hC⟩
      | 9, _ =>
        have e3 : z 3 = .bool true := hdp 3 (dep_of (by kernel_rfl))
        have e6 : z 6 = .string P := hdp 6 (dep_of (by kernel_rfl))
        have e8 : z 8 = .string h.target := hdp 8 (dep_of (by kernel_rfl))
        refine wpOp_step rfl (fun K hK => ?_)
        clear hdp
        go_simp
        exact hK _ _ ⟨.bool false, by simp [upd, e3, e6, e8], rfl, trivial, hC⟩
      | 10, _ =>
        have e3 : z 3 = .bool true := hdp 3 (dep_of (by kernel_rfl))
        have e9 : z 9 = .bool false := hdp 9 (dep_of (by kernel_rfl))
        refine wpOp_step rfl (fun K hK => ?_)
        clear hdp
        go_simp
        exact hK _ _ ⟨.bool false, by simp [upd, e3, e9], rfl, trivial, hC⟩
      | 11, _ =>
        have e10 : z 10 = .bool false := hdp 10 (dep_of (by kernel_rfl))
        refine wpOp_step rfl (fun K hK => ?_)
        clear hdp
        go_simp
        exact hK _ _ ⟨.bool false, by simp [upd, e10], rfl, trivial, hC⟩
      | 12, _ =>
        have e11 : z 11 = .bool false := hdp 11 (dep_of (by kernel_rfl))
        refine wpOp_step rfl (fun K hK => ?_)
        clear hdp
        go_simp
        exact hK _ _ ⟨undef, by simp [upd, e11], rfl, trivial, hC⟩
      | 13, _ =>
        have e11 : z 11 = .bool false := hdp 11 (dep_of (by kernel_rfl))
        refine wpOp_step rfl (fun K hK => ?_)
        clear hdp
        go_simp
        exact hK _ _ ⟨undef, by simp [upd, e11], rfl, trivial, hC⟩
      | 14, _ =>
        have e11 : z 11 = .bool false := hdp 11 (dep_of (by kernel_rfl))
        have e13 : z 13 = undef := hdp 13 (dep_of (by kernel_rfl))
        refine wpOp_step rfl (fun K hK => ?_)
        clear hdp
        go_simp
        exact hK _ _ ⟨.bool false, by simp [upd, e11, e13], rfl, trivial, hC⟩
      | n + 15, hn => exact absurd hn (by omega)
    · intro z w7 kk hkk hC hdp
      have e14 : z 14 = .bool false := hdp 14 (by decide)
      refine wpOp_step rfl (fun K hK => ?_)
      clear hdp
      go_simp
      refine hK _ _ ?_
      clear hK K e14
      have HBw := Lib.hid (HX.out w7 hC).2.1
      clear hC
      go_wp2
      go_ret
      exact ⟨rfl, HBw.out⟩
  have hn := str_same9 h.target
  rw [decide_eq_true hP, show ((true && true) && HK) = HK from rfl]
  subst hP
  go_enter Tryz.func42, Tryz.ntmps42
  go_wp2_with fail
  rw [← HW.out]
  refine wp_region_last (by kernel_rfl) 15 (by kernel_rfl) (by kernel_rfl) (by kernel_rfl)
    (fun z => { tmps := #[.agg #[.string h.verb, .string h.target, .string h.host, .slice va vn vc, .string h.body], .pointer (some ⟨w.heap.size, 0, none⟩), .bool false, z 0, z 1, z 2, z 3, z 4, z 5, z 6, z 7, z 8, z 9, z 10, z 11, z 12, z 13, z 14], defers := [] })
    (fun _ W => Below wA.heap.size wA W)
    (fun i xv _ => xv = ([.pointer (some ⟨w.heap.size, 0, none⟩), .string h.verb, .bool true, .bool true, .pointer (some ⟨w.heap.size, 1, none⟩), .string h.target, .string h.target, .pointer (some ⟨w.heap.size, 1, none⟩), .string h.target, .bool true, .bool true, .bool true, .agg #[.string h.verb, .string h.target, .string h.host, .slice va vn vc, .string h.body], .bool HK, .bool HK] : List Value).getD i undef)
    (fun _ _ => True) (fun _ => undef) (Below.refl _ _).drew
    (fun _ _ _ _ _ h _ => h) ?_ ?_
  · intro i hi z w7 kk hkk hC hdp
    match i, hi with
    | 0, _ =>
      refine wpOp_step rfl (fun K hK => ?_)
      clear hdp
      go_simp
      exact hK _ _ ⟨.pointer (some ⟨w.heap.size, 0, none⟩), rfl, rfl, trivial, hC⟩
    | 1, _ =>
      obtain ⟨q0, q1, q2, q3, q4⟩ := sl_facts (HX.out w7 hC).2.2
      have e0 : z 0 = .pointer (some ⟨w.heap.size, 0, none⟩) := hdp 0 (dep_of (by kernel_rfl))
      refine wpOp_step rfl (fun K hK => ?_)
      clear hdp
      go_simp
      exact hK _ _ ⟨.string h.verb, by simp [upd, e0], rfl, trivial, hC⟩
    | 2, _ =>
      have e1 : z 1 = .string h.verb := hdp 1 (dep_of (by kernel_rfl))
      refine wpOp_step rfl (fun K hK => ?_)
      clear hdp
      go_simp
      exact hK _ _ ⟨.bool true, by simp [upd, e1], rfl, trivial, hC⟩
    | 3, _ =>
      have e2 : z 2 = .bool true := hdp 2 (dep_of (by kernel_rfl))
      refine wpOp_step rfl (fun K hK => ?_)
      clear hdp
      go_simp
      exact hK _ _ ⟨.bool true, by simp [upd, e2], rfl, trivial, hC⟩
    | 4, _ =>
      have e3 : z 3 = .bool true := hdp 3 (dep_of (by kernel_rfl))
      refine wpOp_step rfl (fun K hK => ?_)
      clear hdp
      go_simp
      exact hK _ _ ⟨.pointer (some ⟨w.heap.size, 1, none⟩), by simp [upd, e3], rfl, trivial, hC⟩
    | 5, _ =>
      obtain ⟨q0, q1, q2, q3, q4⟩ := sl_facts (HX.out w7 hC).2.2
      have e3 : z 3 = .bool true := hdp 3 (dep_of (by kernel_rfl))
      have e4 : z 4 = .pointer (some ⟨w.heap.size, 1, none⟩) := hdp 4 (dep_of (by kernel_rfl))
      refine wpOp_step rfl (fun K hK => ?_)
      clear hdp
      go_simp
      exact hK _ _ ⟨.string h.target, by simp [upd, e3, e4], rfl, trivial, hC⟩
    | 6, _ =>
      have e3 : z 3 = .bool true := hdp 3 (dep_of (by kernel_rfl))
      have e5 : z 5 = .string h.target := hdp 5 (dep_of (by kernel_rfl))
      have hT := HP.out w7
      refine wpOp_step rfl (fun K hK => ?_)
      clear hdp
      go_simp
      refine hT.mono ?_
      rintro e w8 ⟨rfl, hb8⟩
      exact hK _ _ ⟨.string h.target, by simp [upd, e3, e5], rfl, trivial, hC.trans (hb8.mono hC.size)⟩
    | 7, _ =>
      have e3 : z 3 = .bool true := hdp 3 (dep_of (by kernel_rfl))
      refine wpOp_step rfl (fun K hK => ?_)
      clear hdp
      go_simp
      exact hK _ _ ⟨.pointer (some ⟨w.heap.size, 1, none⟩), by simp [upd, e3], rfl, trivial, hC⟩
    | 8, _ =>
      obtain ⟨q0, q1, q2, q3, q4⟩ := sl_facts (HX.out w7 hC).2.2
      have e3 : z 3 = .bool true := hdp 3 (dep_of (by kernel_rfl))
      have e7 : z 7 = .pointer (some ⟨w.heap.size, 1, none⟩) := hdp 7 (dep_of (by kernel_rfl))
      refine wpOp_step rfl (fun K hK => ?_)
      clear hdp
      go_simp
      exact hK _ _ ⟨.string h.target, by simp [upd, e3, e7], rfl, trivial, hC⟩
    | 9, _ =>
      have e3 : z 3 = .bool true := hdp 3 (dep_of (by kernel_rfl))
      have e6 : z 6 = .string h.target := hdp 6 (dep_of (by kernel_rfl))
      have e8 : z 8 = .string h.target := hdp 8 (dep_of (by kernel_rfl))
      refine wpOp_step rfl (fun K hK => ?_)
      clear hdp
      go_simp
      exact hK _ _ ⟨.bool true, by simp [upd, e3, e6, e8], rfl, trivial, hC⟩
    | 10, _ =>
      have e3 : z 3 = .bool true := hdp 3 (dep_of (by kernel_rfl))
      have e9 : z 9 = .bool true := hdp 9 (dep_of (by kernel_rfl))
      refine wpOp_step rfl (fun K hK => ?_)
      clear hdp
      go_simp
      exact hK _ _ ⟨.bool true, by simp [upd, e3, e9], rfl, trivial, hC⟩
    | 11, _ =>
      have e10 : z 10 = .bool true := hdp 10 (dep_of (by kernel_rfl))
      refine wpOp_step rfl (fun K hK => ?_)
      clear hdp
      go_simp
      exact hK _ _ ⟨.bool true, by simp [upd, e10], rfl, trivial, hC⟩
    | 12, _ =>
      obtain ⟨q0, q1, q2, q3, q4⟩ := sl_facts (HX.out w7 hC).2.2
      have e11 : z 11 = .bool true := hdp 11 (dep_of (by kernel_rfl))
      refine wpOp_step rfl (fun K hK => ?_)
      clear hdp
      go_simp
      exact hK _ _ ⟨.agg #[.string h.verb, .string h.target, .string h.host, .slice va vn vc, .string h.body], by simp [upd, e11], rfl, trivial, hC⟩
    | 13, _ =>
      have e11 : z 11 = .bool true := hdp 11 (dep_of (by kernel_rfl))
      have e12 : z 12 = .agg #[.string h.verb, .string h.target, .string h.host, .slice va vn vc, .string h.body] := hdp 12 (dep_of (by kernel_rfl))
      have hT := HHed.out w7 (HX.out w7 hC).1
      refine wpOp_step rfl (fun K hK => ?_)
      clear hdp
      go_simp
      refine hT.mono ?_
      rintro e w8 ⟨rfl, hb8⟩
      exact hK _ _ ⟨.bool HK, by simp [upd, e11, e12], rfl, trivial, hC.trans (hb8.mono hC.size)⟩
    | 14, _ =>
      have e11 : z 11 = .bool true := hdp 11 (dep_of (by kernel_rfl))
      have e13 : z 13 = .bool HK := hdp 13 (dep_of (by kernel_rfl))
      refine wpOp_step rfl (fun K hK => ?_)
      clear hdp
      go_simp
      exact hK _ _ ⟨.bool HK, by simp [upd, e11, e13], rfl, trivial, hC⟩
    | n + 15, hn => exact absurd hn (by omega)
  · intro z w7 kk hkk hC hdp
    have e14 : z 14 = .bool HK := hdp 14 (by decide)
    refine wpOp_step rfl (fun K hK => ?_)
    clear hdp
    go_simp
    refine hK _ _ ?_
    clear hK K e14
    have HBw := Lib.hid (HX.out w7 hC).2.1
    clear hC
    go_wp2
    go_ret
    exact ⟨rfl, HBw.out⟩

theorem sl_set {W : World} {b : Nat} {a0 a1 a2 a3 a4 : Value} {T : TypeId} (h : W.heap[b]? = some (.cells #[a0, a1, a2, a3, a4] T (0, 0))) (x0 x1 x2 x3 x4 : Value) :
    (((((W.setCell ⟨b, 0, none⟩ x0).setCell ⟨b, 1, none⟩ x1).setCell ⟨b, 2, none⟩ x2).setCell ⟨b, 3, none⟩ x3).setCell ⟨b, 4, none⟩ x4).heap[b]? = some (.cells #[x0, x1, x2, x3, x4] T (0, 0)) :=
  heap_setCell_same _ b 4 _ _ _ (heap_setCell_same _ b 3 _ _ _ (heap_setCell_same _ b 2 _ _ _ (heap_setCell_same _ b 1 _ _ _ (heap_setCell_same _ b 0 _ _ _ h))))
theorem sl_below {B b : Nat} {w W : World} (h : Below B w W) (hb : B ≤ b) (x0 x1 x2 x3 x4 : Value) : Below B w (((((W.setCell ⟨b, 0, none⟩ x0).setCell ⟨b, 1, none⟩ x1).setCell ⟨b, 2, none⟩ x2).setCell ⟨b, 3, none⟩ x3).setCell ⟨b, 4, none⟩ x4) :=
  ((((h.setCell (p := ⟨b, 0, none⟩) hb _).setCell (p := ⟨b, 1, none⟩) hb _).setCell (p := ⟨b, 2, none⟩) hb _).setCell (p := ⟨b, 3, none⟩) hb _).setCell (p := ⟨b, 4, none⟩) hb _
theorem sl_frozen {W : World} {b : Nat} {a0 a1 a2 a3 a4 : Value} {T : TypeId} (h : W.heap[b]? = some (.cells #[a0, a1, a2, a3, a4] T (0, 0))) :
    W.frozen? ⟨b, 0, none⟩ = false ∧ W.frozen? ⟨b, 1, none⟩ = false ∧ W.frozen? ⟨b, 2, none⟩ = false ∧ W.frozen? ⟨b, 3, none⟩ = false ∧ W.frozen? ⟨b, 4, none⟩ = false := by
  refine ⟨?_, ?_, ?_, ?_, ?_⟩ <;> simp [World.frozen?, h]
theorem read_split (h : Hd) : readB h = (clearB h && (scopeB h.fs && ((numF h.fs bUntil).2 && ((numF h.fs bNonce).2 && (numF h.fs bSeal).2)))) := rfl
def SelRet (h : Hd) (w : World) (e : Ending) (w' : World) : Prop := e = .returned (.tuple #[slV (readS h), .bool (readB h)]) ∧ Below w.heap.size w w'

set_option maxRecDepth 100000 in
set_option maxHeartbeats 6400000 in
theorem impl_selread (hq : Hd) (v : Value) (w : World) (hv : FRow w v hq.fs) (hz : HSz hq) (hcls : Cls w) (htab : Tab w) (hers : Errs w) :
    Calls Tryz.prog 11 #[.agg #[.string hq.verb, .string hq.target, .string hq.host, v, .string hq.body]] w (SelRet hq w) := by
  have hle := hz.len
  obtain ⟨wA, hwA⟩ : ∃ wA, wA = (w.alloc (.cells #[.string hq.verb, .string hq.target, .string hq.host, v, .string hq.body] 32)).alloc (.cells #[.string ⟨#[]⟩, .bool false, .int .i64 0, .int .i64 0, .int .i64 0] 27) := ⟨_, rfl⟩
  have hsA : wA.heap.size = w.heap.size + 2 := by rw [hwA]; simp
  have hbA : Below w.heap.size w wA := by rw [hwA]; exact ((Below.refl _ _).alloc (Nat.le_refl _) _).alloc (by simp) _
  have hH : wA.heap[w.heap.size]? = some (.cells #[.string hq.verb, .string hq.target, .string hq.host, v, .string hq.body] 32 (0, 0)) := by rw [hwA]; exact (Below.heap_alloc _ _ _ (by simp)).trans (heap_alloc_new w _)
  have hS : wA.heap[w.heap.size + 1]? = some (.cells #[.string ⟨#[]⟩, .bool false, .int .i64 0, .int .i64 0, .int .i64 0] 27 (0, 0)) := by
    rw [hwA]
    have := heap_alloc_new (w.alloc (.cells #[.string hq.verb, .string hq.target, .string hq.host, v, .string hq.body] 32)) (.cells #[.string ⟨#[]⟩, .bool false, .int .i64 0, .int .i64 0, .int .i64 0] 27)
    rwa [World.size_alloc] at this
  have HX : Hid (∀ W, Below wA.heap.size wA W → (Cls W ∧ Tab W ∧ Errs W ∧ FRow W v hq.fs) ∧ Below w.heap.size w W ∧ W.heap[w.heap.size]? = some (.cells #[.string hq.verb, .string hq.target, .string hq.host, v, .string hq.body] 32 (0, 0)) ∧ W.heap[w.heap.size + 1]? = some (.cells #[.string ⟨#[]⟩, .bool false, .int .i64 0, .int .i64 0, .int .i64 0] 27 (0, 0))) := Lib.hid fun W hW => by
    have hb := hbA.trans (hW.mono (by omega))
    exact ⟨⟨hcls.below hb (Nat.le_refl _), htab.below hb (Nat.le_refl _), hers.below hb (Nat.le_refl _), hv.below (Nat.le_refl _) hb⟩, hb, (hW.block _ (by omega)).trans hH, (hW.block _ (by omega)).trans hS⟩
  have HSc := Lib.hid fun W (hW : FRow W v hq.fs) => impl_readscope v hq.fs W hW (ok8 hz.fs) (by omega)
  have HNu : Hid (∀ (name : List UInt8) W, (ByteArray.mk name.toArray).size ≤ maxLen → (Cls W ∧ Tab W ∧ Errs W ∧ FRow W v hq.fs) → Calls Tryz.prog 41 #[v, .string ⟨name.toArray⟩] W fun e w' => e = .returned (.tuple #[.int .i64 ((numF hq.fs name).1 : Int), .bool (numF hq.fs name).2]) ∧ Below W.heap.size W w') := Lib.hid fun name W hs hW => impl_readnum v hq.fs name W hW.2.2.2 (ok8 hz.fs) (by omega) hs hW.2.1 hW.2.2.1
  have HCl := Lib.hid fun W (hW : Cls W ∧ Tab W ∧ Errs W ∧ FRow W v hq.fs) => impl_clears hq v W hW.2.2.2 hz hW.1 hW.2.1
  have HFr := Lib.hid fun W => fresh hq.target W (Nat.le_trans hz.target (by decide))
  have hRd : readS hq = if readB hq = true then ⟨hq.target, underF hq.fs, ((numF hq.fs bUntil).1 : Int), ((numF hq.fs bNonce).1 : Int), ((numF hq.fs bSeal).1 : Int)⟩ else noSl := rfl
  unfold SelRet
  rw [hRd, read_split]
  have hb0 : Below wA.heap.size wA wA := Below.refl _ _
  have hU := HNu.out bUntil
  have hNo := HNu.out bNonce
  have hSe := HNu.out bSeal
  generalize clearB hq = CB at *
  generalize underF hq.fs = UN at *
  generalize scopeB hq.fs = SB at *
  generalize numF hq.fs bUntil = U at *
  generalize numF hq.fs bNonce = No at *
  generalize numF hq.fs bSeal = Se at *
  obtain ⟨y1, b1⟩ := U
  obtain ⟨y2, b2⟩ := No
  obtain ⟨y3, b3⟩ := Se
  dsimp only at hU hNo hSe ⊢
  obtain ⟨va, vn, vc, rfl⟩ : ∃ a l c, v = .slice a l c := by obtain ⟨a, c, hh, _⟩ := hv; exact ⟨a, _, c, hh⟩
  obtain ⟨q0, q1, q2, q3, q4⟩ := sl_facts hH
  rw [hwA] at q0 q1 q2 q3 q4
  have HW := Lib.hid hwA
  have HU : Hid (∀ W, (Cls W ∧ Tab W ∧ Errs W ∧ FRow W (.slice va vn vc) hq.fs) → Calls Tryz.prog 41 #[.slice va vn vc, .string ⟨#[117, 110, 116, 105, 108]⟩] W fun e w' => e = .returned (.tuple #[.int .i64 (y1 : Int), .bool b1]) ∧ Below W.heap.size W w') := Lib.hid fun W hW => hU W (by decide) hW
  have HNo : Hid (∀ W, (Cls W ∧ Tab W ∧ Errs W ∧ FRow W (.slice va vn vc) hq.fs) → Calls Tryz.prog 41 #[.slice va vn vc, .string ⟨#[110, 111, 110, 99, 101]⟩] W fun e w' => e = .returned (.tuple #[.int .i64 (y2 : Int), .bool b2]) ∧ Below W.heap.size W w') := Lib.hid fun W hW => hNo W (by decide) hW
  have HSe : Hid (∀ W, (Cls W ∧ Tab W ∧ Errs W ∧ FRow W (.slice va vn vc) hq.fs) → Calls Tryz.prog 41 #[.slice va vn vc, .string ⟨#[115, 101, 97, 108]⟩] W fun e w' => e = .returned (.tuple #[.int .i64 (y3 : Int), .bool b3]) ∧ Below W.heap.size W w') := Lib.hid fun W hW => hSe W (by decide) hW
  clear hwA hH hS hbA hv hz hcls htab hers hU hNo hSe HNu hRd hle
  go_enter Tryz.func11, Tryz.ntmps11
  go_wp2_with fail
  rw [← HW.out]
  refine (HSc.out _ (HX.out _ hb0).1.2.2.2).mono ?_
  rintro e w1 ⟨rfl, hb1⟩
  clear q0 q1 q2 q3 q4 hb0
  obtain ⟨q0, q1, q2, q3, q4⟩ := sl_facts (HX.out _ hb1).2.2.1
  go_wp2_with fail
  refine (HU.out _ (HX.out _ hb1).1).mono ?_
  rintro e w2 ⟨rfl, hb2⟩
  have hb02 := hb1.trans (hb2.mono hb1.size)
  clear q0 q1 q2 q3 q4 hb1 hb2
  obtain ⟨q0, q1, q2, q3, q4⟩ := sl_facts (HX.out _ hb02).2.2.1
  go_wp2_with fail
  refine (HNo.out _ (HX.out _ hb02).1).mono ?_
  rintro e w3 ⟨rfl, hb3⟩
  have hb03 := hb02.trans (hb3.mono hb02.size)
  clear q0 q1 q2 q3 q4 hb02 hb3
  obtain ⟨q0, q1, q2, q3, q4⟩ := sl_facts (HX.out _ hb03).2.2.1
  go_wp2_with fail
  refine (HSe.out _ (HX.out _ hb03).1).mono ?_
  rintro e w4 ⟨rfl, hb4⟩
  have hb04 := hb03.trans (hb4.mono hb03.size)
  clear q0 q1 q2 q3 q4 hb03 hb4
  obtain ⟨q0, q1, q2, q3, q4⟩ := sl_facts (HX.out _ hb04).2.2.1
  go_wp2_with fail
  refine (HCl.out _ (HX.out _ hb04).1).mono ?_
  rintro e w5 ⟨rfl, hb5⟩
  have hb05 := hb04.trans (hb5.mono hb04.size)
  clear q0 q1 q2 q3 q4 hb04 hb5
  obtain ⟨q0, q1, q2, q3, q4⟩ := sl_facts (HX.out _ hb05).2.2.1
  have hbox := (HX.out _ hb05).2.2.2
  obtain ⟨r0, r1, r2, r3, r4⟩ := sl_facts hbox
  obtain ⟨f0, f1, f2, f3, f4⟩ := sl_frozen hbox
  have HB5 := Lib.hid (HX.out _ hb05).2.1
  have HBx := Lib.hid hbox
  clear hbox
  cases CB
  · clear HFr hb05
    have HZ := Lib.hid (sl_facts (sl_set HBx.out (.string ⟨#[]⟩) (.bool false) (.int .i64 0) (.int .i64 0) (.int .i64 0)))
    have HBl := Lib.hid (sl_below HB5.out (b := w.heap.size + 1) (by omega) (.string ⟨#[]⟩) (.bool false) (.int .i64 0) (.int .i64 0) (.int .i64 0))
    go_wp2
    obtain ⟨z0, z1, z2, z3, z4⟩ := HZ.out
    exact bodyPost_ret (v := .tuple #[.agg #[.string ⟨#[]⟩, .bool false, .int .i64 0, .int .i64 0, .int .i64 0], .bool false]) (by simp [results, Tryz.results11, go_sem, z0, z1, z2, z3, z4]) rfl ⟨rfl, HBl.out⟩
  cases SB
  · clear HFr hb05
    have HZ := Lib.hid (sl_facts (sl_set HBx.out (.string ⟨#[]⟩) (.bool false) (.int .i64 0) (.int .i64 0) (.int .i64 0)))
    have HBl := Lib.hid (sl_below HB5.out (b := w.heap.size + 1) (by omega) (.string ⟨#[]⟩) (.bool false) (.int .i64 0) (.int .i64 0) (.int .i64 0))
    go_wp2
    obtain ⟨z0, z1, z2, z3, z4⟩ := HZ.out
    exact bodyPost_ret (v := .tuple #[.agg #[.string ⟨#[]⟩, .bool false, .int .i64 0, .int .i64 0, .int .i64 0], .bool false]) (by simp [results, Tryz.results11, go_sem, z0, z1, z2, z3, z4]) rfl ⟨rfl, HBl.out⟩
  cases b1
  · clear HFr hb05
    have HZ := Lib.hid (sl_facts (sl_set HBx.out (.string ⟨#[]⟩) (.bool false) (.int .i64 0) (.int .i64 0) (.int .i64 0)))
    have HBl := Lib.hid (sl_below HB5.out (b := w.heap.size + 1) (by omega) (.string ⟨#[]⟩) (.bool false) (.int .i64 0) (.int .i64 0) (.int .i64 0))
    go_wp2
    obtain ⟨z0, z1, z2, z3, z4⟩ := HZ.out
    exact bodyPost_ret (v := .tuple #[.agg #[.string ⟨#[]⟩, .bool false, .int .i64 0, .int .i64 0, .int .i64 0], .bool false]) (by simp [results, Tryz.results11, go_sem, z0, z1, z2, z3, z4]) rfl ⟨rfl, HBl.out⟩
  cases b2
  · clear HFr hb05
    have HZ := Lib.hid (sl_facts (sl_set HBx.out (.string ⟨#[]⟩) (.bool false) (.int .i64 0) (.int .i64 0) (.int .i64 0)))
    have HBl := Lib.hid (sl_below HB5.out (b := w.heap.size + 1) (by omega) (.string ⟨#[]⟩) (.bool false) (.int .i64 0) (.int .i64 0) (.int .i64 0))
    go_wp2
    obtain ⟨z0, z1, z2, z3, z4⟩ := HZ.out
    exact bodyPost_ret (v := .tuple #[.agg #[.string ⟨#[]⟩, .bool false, .int .i64 0, .int .i64 0, .int .i64 0], .bool false]) (by simp [results, Tryz.results11, go_sem, z0, z1, z2, z3, z4]) rfl ⟨rfl, HBl.out⟩
  cases b3
  · clear HFr hb05
    have HZ := Lib.hid (sl_facts (sl_set HBx.out (.string ⟨#[]⟩) (.bool false) (.int .i64 0) (.int .i64 0) (.int .i64 0)))
    have HBl := Lib.hid (sl_below HB5.out (b := w.heap.size + 1) (by omega) (.string ⟨#[]⟩) (.bool false) (.int .i64 0) (.int .i64 0) (.int .i64 0))
    go_wp2
    obtain ⟨z0, z1, z2, z3, z4⟩ := HZ.out
    exact bodyPost_ret (v := .tuple #[.agg #[.string ⟨#[]⟩, .bool false, .int .i64 0, .int .i64 0, .int .i64 0], .bool false]) (by simp [results, Tryz.results11, go_sem, z0, z1, z2, z3, z4]) rfl ⟨rfl, HBl.out⟩
  clear r0 r1 r2 r3 r4 f0 f1 f2 f3 f4
  go_wp2_with fail
  refine (HFr.out _).mono ?_
  rintro e w6 ⟨rfl, hb6⟩
  have hb06 := hb05.trans (hb6.mono hb05.size)
  clear q0 q1 q2 q3 q4 hb05 hb6 HB5 HBx
  have HB5 := Lib.hid (HX.out _ hb06).2.1
  have HBx := Lib.hid (HX.out _ hb06).2.2.2
  obtain ⟨r0, r1, r2, r3, r4⟩ := sl_facts (HX.out _ hb06).2.2.2
  obtain ⟨f0, f1, f2, f3, f4⟩ := sl_frozen (HX.out _ hb06).2.2.2
  clear hb06
  have HZ := Lib.hid (sl_facts (sl_set HBx.out (.string hq.target) (.bool UN) (.int .i64 (y1 : Int)) (.int .i64 (y2 : Int)) (.int .i64 (y3 : Int))))
  have HBl := Lib.hid (sl_below HB5.out (b := w.heap.size + 1) (by omega) (.string hq.target) (.bool UN) (.int .i64 (y1 : Int)) (.int .i64 (y2 : Int)) (.int .i64 (y3 : Int)))
  go_wp2
  obtain ⟨z0, z1, z2, z3, z4⟩ := HZ.out
  exact bodyPost_ret (v := .tuple #[.agg #[.string hq.target, .bool UN, .int .i64 (y1 : Int), .int .i64 (y2 : Int), .int .i64 (y3 : Int)], .bool true]) (by simp [results, Tryz.results11, go_sem, z0, z1, z2, z3, z4]) rfl ⟨rfl, HBl.out⟩
end Go.Proofs.YtbhnjnoblkfckabGreatDoor
