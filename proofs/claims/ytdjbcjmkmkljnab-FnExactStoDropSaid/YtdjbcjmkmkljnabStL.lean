/- Walks: storage, by the program: what is at a path, or under it, goes. -/
import Derived.Test.YtdjbcjmkmkljnabStK
namespace Go.Proofs.Ytdjbcjmkmkljnab
open Go.RowKit Go.Maps

theorem bytes_beq (a b : ByteArray) : (a.toList == b.toList) = decide (a.data.toList = b.data.toList) := by
  rw [Lib.toList_data, Lib.toList_data, Bool.eq_iff_iff, beq_iff_eq, decide_eq_true_eq]

set_option maxRecDepth 100000 in
set_option maxHeartbeats 3200000 in
theorem drop_test (j : Nat) (e : En) (p1 p2 : Nat) (path : ByteArray) (under : Bool) (w : World) (he : EnOk 1048576 e) (hpl : path.size ≤ 1048576) (h1 : Boxed w p1 9 (.string path)) (h2 : Boxed w p2 4 (.bool under)) :
    Calls Try.prog 33 #[.int .i64 (j : Int), enV e, .pointer (some ⟨p1, 0, none⟩), .pointer (some ⟨p2, 0, none⟩)] w fun e' w' => e' = .returned (.bool (goneB path.data.toList under e)) ∧ Below w.heap.size w w' := by
  have hp := he.place
  obtain ⟨p, m, ⟨c, x, hd, t, k, b⟩, a⟩ := e
  unfold enV
  dsimp only at hp ⊢
  obtain ⟨ps, hps⟩ : ∃ ps : ByteArray, ps = ⟨(pathL p.data.toList).toArray⟩ := ⟨_, rfl⟩
  have HPath : Hid (∀ W, Calls Try.prog 34 #[.string p] W fun e w' => e = .returned (.string ps) ∧ Below W.heap.size W w') := Lib.hid fun W => by rw [hps]; exact impl_path p W (by omega)
  have HUn : Hid (∀ W, Calls Try.prog 35 #[.string path, .string p] W fun e w' => e = .returned (.bool (underB path.data.toList p.data.toList)) ∧ Below W.heap.size W w') := Lib.hid fun W => impl_under path p W (by omega) (by omega)
  obtain ⟨wA, hwA⟩ : ∃ wA, wA = w.alloc (.cells #[.string p, .int .i64 m, .int .i64 c, .int .i64 x, .bool hd, .string t, .int .i64 k, .string b, .int .i64 a] 43) := ⟨_, rfl⟩
  have hbA : Below w.heap.size w wA := by rw [hwA]; exact (Below.refl _ _).alloc (Nat.le_refl _) _
  have h0 : wA.heap[w.heap.size]? = some (.cells #[.string p, .int .i64 m, .int .i64 c, .int .i64 x, .bool hd, .string t, .int .i64 k, .string b, .int .i64 a] 43 (0, 0)) := by rw [hwA]; exact heap_alloc_new w _
  have HX : Hid (∀ W, Below wA.heap.size wA W → W.heap[w.heap.size]? = some (.cells #[.string p, .int .i64 m, .int .i64 c, .int .i64 x, .bool hd, .string t, .int .i64 k, .string b, .int .i64 a] 43 (0, 0)) ∧ Boxed W p1 9 (.string path) ∧ Boxed W p2 4 (.bool under) ∧ Below w.heap.size w W) := Lib.hid fun W hW => by
    have hb := hbA.trans (hW.mono hbA.size)
    exact ⟨(hW.block _ (Array.getElem?_eq_some_iff.1 h0).1).trans h0, h1.kept (grown_of_below hb none) (by simp), h2.kept (grown_of_below hb none) (by simp), hb⟩
  have HW := Lib.hid hwA
  have hgd : goneB path.data.toList under ⟨p, m, ⟨c, x, hd, t, k, b⟩, a⟩ = (decide (pathL p.data.toList = path.data.toList) || (under && underB path.data.toList p.data.toList)) := rfl
  rw [hgd]
  have hbeq := bytes_beq ps path
  rw [show ps.data.toList = pathL p.data.toList from by rw [hps]] at hbeq
  clear hbA h0 hwA hp hpl he h1 h2 hgd hps
  cases hq : decide (pathL p.data.toList = path.data.toList) with
  | true =>
    rw [hq] at hbeq
    rw [show (true || (under && underB path.data.toList p.data.toList)) = true from rfl]
    clear hq
    go_enter Try.func33, Try.ntmps33
    go_wp2_with fail
    rw [← HW.out]
    refine wp_region_last (by kernel_rfl) 14 (by kernel_rfl) (by kernel_rfl) (by kernel_rfl)
      (fun z => { tmps := #[.int .i64 (j : Int), .agg #[.string p, .int .i64 m, .int .i64 c, .int .i64 x, .bool hd, .string t, .int .i64 k, .string b, .int .i64 a], .pointer (some ⟨p1, 0, none⟩), .pointer (some ⟨p2, 0, none⟩), undef, .pointer (some ⟨w.heap.size, 0, none⟩), .bool false, z 0, z 1, z 2, z 3, z 4, z 5, z 6, z 7, z 8, z 9, z 10, z 11, z 12, z 13], defers := [] })
      (fun _ W => Below wA.heap.size wA W)
      (fun i xv _ => xv = ([.pointer (some ⟨w.heap.size, 0, none⟩), .string p, .string ps, .string path, .bool true, .bool true, undef, undef, undef, undef, undef, undef, undef, .bool true] : List Value).getD i undef)
      (fun _ _ => True) (fun _ => undef) (Below.refl _ _).drew
      (fun _ _ _ _ _ h _ => h) ?_ ?_
    · intro i hi z w7 kk hkk hC hdp
      match i, hi with
      | 0, _ =>
        refine wpOp_step rfl (fun K hK => ?_)
        clear hdp
        go_simp
        exact hK _ _ ⟨.pointer (some ⟨w.heap.size, 0, none⟩), rfl, rfl, trivial, hC⟩
      | 1, _ =>
        have k0 := (HX.out w7 hC).1
        obtain ⟨q0, q1, q2, q3, q4, q5, q6, q7, q8⟩ := nine_facts k0
        have e0 : z 0 = .pointer (some ⟨w.heap.size, 0, none⟩) := hdp 0 (dep_of (by kernel_rfl))
        refine wpOp_step rfl (fun K hK => ?_)
        clear hdp
        go_simp
        exact hK _ _ ⟨.string p, by simp [upd, e0], rfl, trivial, hC⟩
      | 2, _ =>
        have e1 : z 1 = .string p := hdp 1 (dep_of (by kernel_rfl))
        have hT := HPath.out w7
        refine wpOp_step rfl (fun K hK => ?_)
        clear hdp
        go_simp
        refine hT.mono ?_
        rintro e w8 ⟨rfl, hb8⟩
        exact hK _ _ ⟨.string ps, by simp [upd, e1], rfl, trivial, hC.trans (hb8.mono hC.size)⟩
      | 3, _ =>
        have k1 := (HX.out w7 hC).2.1.cell
        refine wpOp_step rfl (fun K hK => ?_)
        clear hdp
        go_simp
        exact hK _ _ ⟨.string path, rfl, rfl, trivial, hC⟩
      | 4, _ =>
        have e2 : z 2 = .string ps := hdp 2 (dep_of (by kernel_rfl))
        have e3 : z 3 = .string path := hdp 3 (dep_of (by kernel_rfl))
        refine wpOp_step rfl (fun K hK => ?_)
        clear hdp
        go_simp
        exact hK _ _ ⟨.bool true, by simp [upd, e2, e3], rfl, trivial, hC⟩
      | 5, _ =>
        have e4 : z 4 = .bool true := hdp 4 (dep_of (by kernel_rfl))
        refine wpOp_step rfl (fun K hK => ?_)
        clear hdp
        go_simp
        exact hK _ _ ⟨.bool true, by simp [upd, e4], rfl, trivial, hC⟩
      | 6, _ =>
        have e5 : z 5 = .bool true := hdp 5 (dep_of (by kernel_rfl))
        refine wpOp_step rfl (fun K hK => ?_)
        clear hdp
        go_simp
        exact hK _ _ ⟨undef, by simp [upd, e5], rfl, trivial, hC⟩
      | 7, _ =>
        have e5 : z 5 = .bool true := hdp 5 (dep_of (by kernel_rfl))
        refine wpOp_step rfl (fun K hK => ?_)
        clear hdp
        go_simp
        exact hK _ _ ⟨undef, by simp [upd, e5], rfl, trivial, hC⟩
      | 8, _ =>
        have e7 : z 7 = undef := hdp 7 (dep_of (by kernel_rfl))
        refine wpOp_step rfl (fun K hK => ?_)
        clear hdp
        go_simp
        exact hK _ _ ⟨undef, by simp [upd, e7], rfl, trivial, hC⟩
      | 9, _ =>
        have e7 : z 7 = undef := hdp 7 (dep_of (by kernel_rfl))
        refine wpOp_step rfl (fun K hK => ?_)
        clear hdp
        go_simp
        exact hK _ _ ⟨undef, by simp [upd, e7], rfl, trivial, hC⟩
      | 10, _ =>
        have e7 : z 7 = undef := hdp 7 (dep_of (by kernel_rfl))
        refine wpOp_step rfl (fun K hK => ?_)
        clear hdp
        go_simp
        exact hK _ _ ⟨undef, by simp [upd, e7], rfl, trivial, hC⟩
      | 11, _ =>
        have e7 : z 7 = undef := hdp 7 (dep_of (by kernel_rfl))
        refine wpOp_step rfl (fun K hK => ?_)
        clear hdp
        go_simp
        exact hK _ _ ⟨undef, by simp [upd, e7], rfl, trivial, hC⟩
      | 12, _ =>
        have e5 : z 5 = .bool true := hdp 5 (dep_of (by kernel_rfl))
        refine wpOp_step rfl (fun K hK => ?_)
        clear hdp
        go_simp
        exact hK _ _ ⟨undef, by simp [upd, e5], rfl, trivial, hC⟩
      | 13, _ =>
        have e5 : z 5 = .bool true := hdp 5 (dep_of (by kernel_rfl))
        have e12 : z 12 = undef := hdp 12 (dep_of (by kernel_rfl))
        refine wpOp_step rfl (fun K hK => ?_)
        clear hdp
        go_simp
        exact hK _ _ ⟨.bool true, by simp [upd, e5, e12], rfl, trivial, hC⟩
      | n + 14, hn => exact absurd hn (by omega)
    · intro z w7 kk hkk hC hdp
      have e13 : z 13 = .bool true := hdp 13 (by decide)
      refine wpOp_step rfl (fun K hK => ?_)
      clear hdp
      go_simp
      refine hK _ _ ?_
      clear hK K e13
      have HB := Lib.hid (HX.out w7 hC).2.2.2
      clear hC
      go_wp2
      go_ret
      exact ⟨rfl, HB.out⟩
  | false =>
    rw [hq] at hbeq
    clear hq
    cases under with
    | false =>
      rw [show (false || (false && underB path.data.toList p.data.toList)) = false from rfl]
      go_enter Try.func33, Try.ntmps33
      go_wp2_with fail
      rw [← HW.out]
      refine wp_region_last (by kernel_rfl) 14 (by kernel_rfl) (by kernel_rfl) (by kernel_rfl)
        (fun z => { tmps := #[.int .i64 (j : Int), .agg #[.string p, .int .i64 m, .int .i64 c, .int .i64 x, .bool hd, .string t, .int .i64 k, .string b, .int .i64 a], .pointer (some ⟨p1, 0, none⟩), .pointer (some ⟨p2, 0, none⟩), undef, .pointer (some ⟨w.heap.size, 0, none⟩), .bool false, z 0, z 1, z 2, z 3, z 4, z 5, z 6, z 7, z 8, z 9, z 10, z 11, z 12, z 13], defers := [] })
        (fun _ W => Below wA.heap.size wA W)
        (fun i xv _ => xv = ([.pointer (some ⟨w.heap.size, 0, none⟩), .string p, .string ps, .string path, .bool false, .bool false, .bool false, .bool false, undef, undef, undef, undef, .bool false, .bool false] : List Value).getD i undef)
        (fun _ _ => True) (fun _ => undef) (Below.refl _ _).drew
        (fun _ _ _ _ _ h _ => h) ?_ ?_
      · intro i hi z w7 kk hkk hC hdp
        match i, hi with
        | 0, _ =>
          refine wpOp_step rfl (fun K hK => ?_)
          clear hdp
          go_simp
          exact hK _ _ ⟨.pointer (some ⟨w.heap.size, 0, none⟩), rfl, rfl, trivial, hC⟩
        | 1, _ =>
          have k0 := (HX.out w7 hC).1
          obtain ⟨q0, q1, q2, q3, q4, q5, q6, q7, q8⟩ := nine_facts k0
          have e0 : z 0 = .pointer (some ⟨w.heap.size, 0, none⟩) := hdp 0 (dep_of (by kernel_rfl))
          refine wpOp_step rfl (fun K hK => ?_)
          clear hdp
          go_simp
          exact hK _ _ ⟨.string p, by simp [upd, e0], rfl, trivial, hC⟩
        | 2, _ =>
          have e1 : z 1 = .string p := hdp 1 (dep_of (by kernel_rfl))
          have hT := HPath.out w7
          refine wpOp_step rfl (fun K hK => ?_)
          clear hdp
          go_simp
          refine hT.mono ?_
          rintro e w8 ⟨rfl, hb8⟩
          exact hK _ _ ⟨.string ps, by simp [upd, e1], rfl, trivial, hC.trans (hb8.mono hC.size)⟩
        | 3, _ =>
          have k1 := (HX.out w7 hC).2.1.cell
          refine wpOp_step rfl (fun K hK => ?_)
          clear hdp
          go_simp
          exact hK _ _ ⟨.string path, rfl, rfl, trivial, hC⟩
        | 4, _ =>
          have e2 : z 2 = .string ps := hdp 2 (dep_of (by kernel_rfl))
          have e3 : z 3 = .string path := hdp 3 (dep_of (by kernel_rfl))
          refine wpOp_step rfl (fun K hK => ?_)
          clear hdp
          go_simp
          exact hK _ _ ⟨.bool false, by simp [upd, e2, e3], rfl, trivial, hC⟩
        | 5, _ =>
          have e4 : z 4 = .bool false := hdp 4 (dep_of (by kernel_rfl))
          refine wpOp_step rfl (fun K hK => ?_)
          clear hdp
          go_simp
          exact hK _ _ ⟨.bool false, by simp [upd, e4], rfl, trivial, hC⟩
        | 6, _ =>
          have k2 := (HX.out w7 hC).2.2.1.cell
          have e5 : z 5 = .bool false := hdp 5 (dep_of (by kernel_rfl))
          refine wpOp_step rfl (fun K hK => ?_)
          clear hdp
          go_simp
          exact hK _ _ ⟨.bool false, by simp [upd, e5], rfl, trivial, hC⟩
        | 7, _ =>
          have e5 : z 5 = .bool false := hdp 5 (dep_of (by kernel_rfl))
          have e6 : z 6 = .bool false := hdp 6 (dep_of (by kernel_rfl))
          refine wpOp_step rfl (fun K hK => ?_)
          clear hdp
          go_simp
          exact hK _ _ ⟨.bool false, by simp [upd, e5, e6], rfl, trivial, hC⟩
        | 8, _ =>
          have e7 : z 7 = .bool false := hdp 7 (dep_of (by kernel_rfl))
          refine wpOp_step rfl (fun K hK => ?_)
          clear hdp
          go_simp
          exact hK _ _ ⟨undef, by simp [upd, e7], rfl, trivial, hC⟩
        | 9, _ =>
          have e7 : z 7 = .bool false := hdp 7 (dep_of (by kernel_rfl))
          refine wpOp_step rfl (fun K hK => ?_)
          clear hdp
          go_simp
          exact hK _ _ ⟨undef, by simp [upd, e7], rfl, trivial, hC⟩
        | 10, _ =>
          have e7 : z 7 = .bool false := hdp 7 (dep_of (by kernel_rfl))
          refine wpOp_step rfl (fun K hK => ?_)
          clear hdp
          go_simp
          exact hK _ _ ⟨undef, by simp [upd, e7], rfl, trivial, hC⟩
        | 11, _ =>
          have e7 : z 7 = .bool false := hdp 7 (dep_of (by kernel_rfl))
          refine wpOp_step rfl (fun K hK => ?_)
          clear hdp
          go_simp
          exact hK _ _ ⟨undef, by simp [upd, e7], rfl, trivial, hC⟩
        | 12, _ =>
          have e5 : z 5 = .bool false := hdp 5 (dep_of (by kernel_rfl))
          have e7 : z 7 = .bool false := hdp 7 (dep_of (by kernel_rfl))
          have e11 : z 11 = undef := hdp 11 (dep_of (by kernel_rfl))
          refine wpOp_step rfl (fun K hK => ?_)
          clear hdp
          go_simp
          exact hK _ _ ⟨.bool false, by simp [upd, e5, e7, e11], rfl, trivial, hC⟩
        | 13, _ =>
          have e5 : z 5 = .bool false := hdp 5 (dep_of (by kernel_rfl))
          have e12 : z 12 = .bool false := hdp 12 (dep_of (by kernel_rfl))
          refine wpOp_step rfl (fun K hK => ?_)
          clear hdp
          go_simp
          exact hK _ _ ⟨.bool false, by simp [upd, e5, e12], rfl, trivial, hC⟩
        | n + 14, hn => exact absurd hn (by omega)
      · intro z w7 kk hkk hC hdp
        have e13 : z 13 = .bool false := hdp 13 (by decide)
        refine wpOp_step rfl (fun K hK => ?_)
        clear hdp
        go_simp
        refine hK _ _ ?_
        clear hK K e13
        have HB := Lib.hid (HX.out w7 hC).2.2.2
        clear hC
        go_wp2
        go_ret
        exact ⟨rfl, HB.out⟩
    | true =>
      rw [show (false || (true && underB path.data.toList p.data.toList)) = underB path.data.toList p.data.toList from by simp]
      go_enter Try.func33, Try.ntmps33
      go_wp2_with fail
      rw [← HW.out]
      refine wp_region_last (by kernel_rfl) 14 (by kernel_rfl) (by kernel_rfl) (by kernel_rfl)
        (fun z => { tmps := #[.int .i64 (j : Int), .agg #[.string p, .int .i64 m, .int .i64 c, .int .i64 x, .bool hd, .string t, .int .i64 k, .string b, .int .i64 a], .pointer (some ⟨p1, 0, none⟩), .pointer (some ⟨p2, 0, none⟩), undef, .pointer (some ⟨w.heap.size, 0, none⟩), .bool false, z 0, z 1, z 2, z 3, z 4, z 5, z 6, z 7, z 8, z 9, z 10, z 11, z 12, z 13], defers := [] })
        (fun _ W => Below wA.heap.size wA W)
        (fun i xv _ => xv = ([.pointer (some ⟨w.heap.size, 0, none⟩), .string p, .string ps, .string path, .bool false, .bool false, .bool true, .bool true, .string path, .pointer (some ⟨w.heap.size, 0, none⟩), .string p, .bool (underB path.data.toList p.data.toList), .bool (underB path.data.toList p.data.toList), .bool (underB path.data.toList p.data.toList)] : List Value).getD i undef)
        (fun _ _ => True) (fun _ => undef) (Below.refl _ _).drew
        (fun _ _ _ _ _ h _ => h) ?_ ?_
      · intro i hi z w7 kk hkk hC hdp
        match i, hi with
        | 0, _ =>
          refine wpOp_step rfl (fun K hK => ?_)
          clear hdp
          go_simp
          exact hK _ _ ⟨.pointer (some ⟨w.heap.size, 0, none⟩), rfl, rfl, trivial, hC⟩
        | 1, _ =>
          have k0 := (HX.out w7 hC).1
          obtain ⟨q0, q1, q2, q3, q4, q5, q6, q7, q8⟩ := nine_facts k0
          have e0 : z 0 = .pointer (some ⟨w.heap.size, 0, none⟩) := hdp 0 (dep_of (by kernel_rfl))
          refine wpOp_step rfl (fun K hK => ?_)
          clear hdp
          go_simp
          exact hK _ _ ⟨.string p, by simp [upd, e0], rfl, trivial, hC⟩
        | 2, _ =>
          have e1 : z 1 = .string p := hdp 1 (dep_of (by kernel_rfl))
          have hT := HPath.out w7
          refine wpOp_step rfl (fun K hK => ?_)
          clear hdp
          go_simp
          refine hT.mono ?_
          rintro e w8 ⟨rfl, hb8⟩
          exact hK _ _ ⟨.string ps, by simp [upd, e1], rfl, trivial, hC.trans (hb8.mono hC.size)⟩
        | 3, _ =>
          have k1 := (HX.out w7 hC).2.1.cell
          refine wpOp_step rfl (fun K hK => ?_)
          clear hdp
          go_simp
          exact hK _ _ ⟨.string path, rfl, rfl, trivial, hC⟩
        | 4, _ =>
          have e2 : z 2 = .string ps := hdp 2 (dep_of (by kernel_rfl))
          have e3 : z 3 = .string path := hdp 3 (dep_of (by kernel_rfl))
          refine wpOp_step rfl (fun K hK => ?_)
          clear hdp
          go_simp
          exact hK _ _ ⟨.bool false, by simp [upd, e2, e3], rfl, trivial, hC⟩
        | 5, _ =>
          have e4 : z 4 = .bool false := hdp 4 (dep_of (by kernel_rfl))
          refine wpOp_step rfl (fun K hK => ?_)
          clear hdp
          go_simp
          exact hK _ _ ⟨.bool false, by simp [upd, e4], rfl, trivial, hC⟩
        | 6, _ =>
          have k2 := (HX.out w7 hC).2.2.1.cell
          have e5 : z 5 = .bool false := hdp 5 (dep_of (by kernel_rfl))
          refine wpOp_step rfl (fun K hK => ?_)
          clear hdp
          go_simp
          exact hK _ _ ⟨.bool true, by simp [upd, e5], rfl, trivial, hC⟩
        | 7, _ =>
          have e5 : z 5 = .bool false := hdp 5 (dep_of (by kernel_rfl))
          have e6 : z 6 = .bool true := hdp 6 (dep_of (by kernel_rfl))
          refine wpOp_step rfl (fun K hK => ?_)
          clear hdp
          go_simp
          exact hK _ _ ⟨.bool true, by simp [upd, e5, e6], rfl, trivial, hC⟩
        | 8, _ =>
          have k1 := (HX.out w7 hC).2.1.cell
          have e7 : z 7 = .bool true := hdp 7 (dep_of (by kernel_rfl))
          refine wpOp_step rfl (fun K hK => ?_)
          clear hdp
          go_simp
          exact hK _ _ ⟨.string path, by simp [upd, e7], rfl, trivial, hC⟩
        | 9, _ =>
          have e7 : z 7 = .bool true := hdp 7 (dep_of (by kernel_rfl))
          refine wpOp_step rfl (fun K hK => ?_)
          clear hdp
          go_simp
          exact hK _ _ ⟨.pointer (some ⟨w.heap.size, 0, none⟩), by simp [upd, e7], rfl, trivial, hC⟩
        | 10, _ =>
          have k0 := (HX.out w7 hC).1
          obtain ⟨q0, q1, q2, q3, q4, q5, q6, q7, q8⟩ := nine_facts k0
          have e7 : z 7 = .bool true := hdp 7 (dep_of (by kernel_rfl))
          have e9 : z 9 = .pointer (some ⟨w.heap.size, 0, none⟩) := hdp 9 (dep_of (by kernel_rfl))
          refine wpOp_step rfl (fun K hK => ?_)
          clear hdp
          go_simp
          exact hK _ _ ⟨.string p, by simp [upd, e7, e9], rfl, trivial, hC⟩
        | 11, _ =>
          have e7 : z 7 = .bool true := hdp 7 (dep_of (by kernel_rfl))
          have e8 : z 8 = .string path := hdp 8 (dep_of (by kernel_rfl))
          have e10 : z 10 = .string p := hdp 10 (dep_of (by kernel_rfl))
          have hT := HUn.out w7
          refine wpOp_step rfl (fun K hK => ?_)
          clear hdp
          go_simp
          refine hT.mono ?_
          rintro e w8 ⟨rfl, hb8⟩
          exact hK _ _ ⟨.bool (underB path.data.toList p.data.toList), by simp [upd, e7, e8, e10], rfl, trivial, hC.trans (hb8.mono hC.size)⟩
        | 12, _ =>
          have e5 : z 5 = .bool false := hdp 5 (dep_of (by kernel_rfl))
          have e7 : z 7 = .bool true := hdp 7 (dep_of (by kernel_rfl))
          have e11 : z 11 = .bool (underB path.data.toList p.data.toList) := hdp 11 (dep_of (by kernel_rfl))
          refine wpOp_step rfl (fun K hK => ?_)
          clear hdp
          go_simp
          exact hK _ _ ⟨.bool (underB path.data.toList p.data.toList), by simp [upd, e5, e7, e11], rfl, trivial, hC⟩
        | 13, _ =>
          have e5 : z 5 = .bool false := hdp 5 (dep_of (by kernel_rfl))
          have e12 : z 12 = .bool (underB path.data.toList p.data.toList) := hdp 12 (dep_of (by kernel_rfl))
          refine wpOp_step rfl (fun K hK => ?_)
          clear hdp
          go_simp
          exact hK _ _ ⟨.bool (underB path.data.toList p.data.toList), by simp [upd, e5, e12], rfl, trivial, hC⟩
        | n + 14, hn => exact absurd hn (by omega)
      · intro z w7 kk hkk hC hdp
        have e13 : z 13 = .bool (underB path.data.toList p.data.toList) := hdp 13 (by decide)
        refine wpOp_step rfl (fun K hK => ?_)
        clear hdp
        go_simp
        refine hK _ _ ?_
        clear hK K e13
        have HB := Lib.hid (HX.out w7 hC).2.2.2
        clear hC
        go_wp2
        go_ret
        exact ⟨rfl, HB.out⟩

theorem keptK_const (q : En → Bool) : ∀ (M : List (Nat × En)) (d : Nat → Bool) (k : Nat), (∀ j x, M[j]? = some x → d (k + j) = q x.2) → (keptK d k M).map (·.2) = (M.map (·.2)).filter (fun e => !q e) ∧ cntK d k M = (M.map (·.2)).countP q
  | [], _, _, _ => ⟨rfl, rfl⟩
  | x :: r, d, k, h => by
    have h0 := h 0 x rfl
    obtain ⟨i1, i2⟩ := keptK_const q r d (k + 1) fun j y hj => by
      have := h (j + 1) y hj
      rw [show k + 1 + j = k + (j + 1) from by omega]; exact this
    rw [Nat.add_zero] at h0
    unfold keptK cntK
    rw [List.map_cons, List.filter_cons, List.countP_cons, h0]
    cases hq : q x.2 with
    | true => simp only [if_true, Bool.not_true, Bool.false_eq_true, if_false]; exact ⟨i1, by rw [i2]; omega⟩
    | false => simp only [Bool.false_eq_true, if_false, Bool.not_false, if_true, List.map_cons]; exact ⟨by rw [i1], by rw [i2]; omega⟩

def goneAt (M : List (Nat × En)) (path : List UInt8) (under : Bool) (k : Nat) : Bool := match M[k]? with | some x => goneB path under x.2 | none => false
/-- Storage and a number handed back. -/
def SRet2 (w : World) (L : List En) (n : Int) (e' : Ending) (w' : World) : Prop := ∃ v, e' = .returned (.tuple #[.agg #[v], .int .i64 n]) ∧ w'.ownsRow w.heap.size 43 9 v L.length (ecells L) ∧ Below w.heap.size w w'

set_option maxRecDepth 100000 in
set_option maxHeartbeats 1600000 in
theorem impl_stodrop (v : Value) (L : List En) (path : ByteArray) (under : Bool) (w : World) (hR : ERow w v L) (hE : EnsOk 1048576 L) (hn : L.length ≤ 1100000) (hp : path.size ≤ 1048576) :
    Calls Try.prog 16 #[.agg #[v], .string path, .bool under] w (SRet2 w (dropE L path.data.toList under) (goneN L path.data.toList under : Int)) := by
  obtain ⟨wA, hwA⟩ : ∃ wA, wA = (((w.alloc (.cells #[v] 28)).alloc (.cells #[.string path] 9)).alloc (.cells #[.bool under] 4)).alloc (.cells #[.slice none 0 0] 28) := ⟨_, rfl⟩
  have hbA : Below w.heap.size w wA := by rw [hwA]; exact ((((Below.refl _ _).alloc (Nat.le_refl _) _).alloc (by simp) _).alloc (by simp; omega) _).alloc (by simp; omega) _
  have hsA : wA.heap.size = w.heap.size + 4 := by rw [hwA]; simp
  have h0 : Boxed wA w.heap.size 28 v := by rw [hwA]; exact (((Boxed.new w _ _).alloc _).alloc _).alloc _
  have h1 : Boxed wA (w.heap.size + 1) 9 (.string path) := by
    rw [hwA]
    have := Boxed.new (w.alloc (.cells #[v] 28)) 9 (.string path)
    rw [World.size_alloc] at this
    exact (this.alloc _).alloc _
  have h2 : Boxed wA (w.heap.size + 2) 4 (.bool under) := by
    rw [hwA]
    have := Boxed.new ((w.alloc (.cells #[v] 28)).alloc (.cells #[.string path] 9)) 4 (.bool under)
    rw [World.size_alloc, World.size_alloc] at this
    exact this.alloc _
  have h3 : Boxed wA (w.heap.size + 3) 28 (.slice none 0 0) := by
    rw [hwA]
    have := Boxed.new (((w.alloc (.cells #[v] 28)).alloc (.cells #[.string path] 9)).alloc (.cells #[.bool under] 4)) 28 (.slice none 0 0)
    rw [World.size_alloc, World.size_alloc, World.size_alloc] at this
    exact this
  have hC := entries_any v L wA (hR.below (Nat.le_refl _) hbA) hE (by omega)
  obtain ⟨a, c0, rfl, -⟩ := hR
  have t0 := h0.cell
  rw [hwA] at t0
  have HW := Lib.hid hwA
  have H1 := Lib.hid h1
  have H2 := Lib.hid h2
  have H3 := Lib.hid h3
  have HbA := Lib.hid hbA
  have HEn := Lib.hid hE
  have hmf : ∀ (fn : Fn) (first cap : Array Value) (w : World), (Instr.makeFunc fn first cap).run Try.prog w = .ok (.func fn first cap) w := fun _ _ _ _ => rfl
  clear hwA hE h0 h1 h2 h3 hbA
  go_enter Try.func16, Try.ntmps16
  go_wp2_with fail
  rw [← HW.out]
  refine hC.mono ?_
  rintro e w1 ⟨c, mb, M, rfl, hM, hML, hb1⟩
  have hlM : M.length = L.length := by rw [← hML, List.length_map]
  have hR2 := remove_all_drop c mb wA.heap.size L.length (w.heap.size + 1) (w.heap.size + 1 + 1) M w1 hM (by omega) (by omega) (goneAt M path.data.toList under)
    (fun _ W => Boxed W (w.heap.size + 1) 9 (.string path) ∧ Boxed W (w.heap.size + 2) 4 (.bool under)) (fun j => j = w.heap.size + 1 ∨ j = w.heap.size + 2)
    (fun j hj => by
      have := hb1.size
      refine ⟨by omega, fun hc => by have := (hM.cs hc).1; omega⟩)
    (fun k W W' hg hk => ⟨(hk _ (.inl rfl)).trans hg.1, (hk _ (.inr rfl)).trans hg.2⟩)
    (fun k x W hx hg => by
      rw [show goneAt M path.data.toList under k = goneB path.data.toList under x.2 from by unfold goneAt; rw [hx]]
      exact (drop_test k x.2 _ _ path under W (hM.ok x (List.mem_of_getElem? hx)) hp hg.1 hg.2).mono fun e' w' ⟨q1, q2⟩ => ⟨q1, ⟨hg.1.kept (grown_of_below q2 none) (by simp), hg.2.kept (grown_of_below q2 none) (by simp)⟩, only_of_below q2⟩)
    ⟨H1.out.kept (grown_of_below hb1 none) (by simp), H2.out.kept (grown_of_below hb1 none) (by simp)⟩
  obtain ⟨d1, d2⟩ := keptK_const (goneB path.data.toList under) M (goneAt M path.data.toList under) 0 (fun j x hj => by rw [Nat.zero_add]; unfold goneAt; rw [hj])
  rw [hML] at d1 d2
  clear t0
  generalize goneAt M path.data.toList under = d at *
  rw [d2] at hR2
  clear hC
  go_wp2_with fail
  refine hR2.mono ?_
  rintro e w2 ⟨rfl, hM2, -, hO2⟩
  have hs1 := hb1.size
  have hb2 : Below w.heap.size w w2 := (HbA.out.trans (hb1.mono (by omega))).trans (hO2.below (by omega) fun j hj => by
    rcases hj with hj | hj | hj
    · have := (hM.cs hj).1; omega
    · omega
    · omega)
  have h32 : Boxed w2 (w.heap.size + 3) 28 (.slice none 0 0) := by
    have h31 := H3.out.kept (grown_of_below hb1 none) (by simp)
    refine (hO2.block _ h31.lt fun hj => ?_).trans h31
    rcases hj with hj | hj | hj
    · have := (hM.cs hj).1; omega
    · omega
    · omega
  have hKl : (keptK d 0 M).length = (dropE L path.data.toList under).length := by rw [← List.length_map (f := (·.2)), d1]; rfl
  have hdl : (dropE L path.data.toList under).length ≤ L.length := List.length_filter_le _ _
  have hC3 := store_of c mb _ _ _ w2 hM2 (by omega)
  rw [show (keptK d 0 M).map (·.2) = dropE L path.data.toList under from d1, hKl] at hC3
  have HB := Lib.hid hb2
  have HS2 : Hid (w.heap.size + 4 ≤ w2.heap.size) := Lib.hid (by have := hO2.size; omega)
  clear hR2 hM hM2 hML hO2 hb1 hb2 hKl hdl d1 d2 hlM hs1
  go_wp2_with fail
  refine hC3.mono ?_
  rintro e w3 ⟨v', rfl, ho3, hb3⟩
  obtain ⟨a', c', rfl⟩ := own_slice ho3
  have h33 := h32.kept (grown_of_below hb3 none) (by simp)
  have u1 := h33.cell
  have u2 := h33.frozen
  obtain ⟨k1, k2⟩ := told_row h33 (by decide) ho3
  have k3 := k1.cell
  have hs2 := HS2.out
  have HF := Lib.hid (And.intro k3 (And.intro (own_lowB k2 (show w.heap.size ≤ w2.heap.size from by omega)) ((HB.out.trans (hb3.mono (by omega))).setCell (p := ⟨w.heap.size + 3, 0, none⟩) (by simp) (.slice a' (dropE L path.data.toList under).length c'))))
  clear hC3 hb3 h33 h32 k1 k2 k3 ho3 hs2
  go_wp2
  obtain ⟨k3, k2, k4⟩ := HF.out
  refine bodyPost_ret (v := .tuple #[.agg #[.slice a' (dropE L path.data.toList under).length c'], .int .i64 (goneN L path.data.toList under : Int)]) (by simp [results, Try.results16, go_sem, k3, goneN]) rfl ⟨_, rfl, k2, k4⟩
end Go.Proofs.Ytdjbcjmkmkljnab
