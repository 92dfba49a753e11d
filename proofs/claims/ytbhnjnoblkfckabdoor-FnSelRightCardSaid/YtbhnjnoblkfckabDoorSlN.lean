/- Walks: whether a seal is right, by the specification. -/
import Derived.Test.YtbhnjnoblkfckabDoorSlL
import Derived.Test.YtbhnjnoblkfckabDoorReg
namespace Go.Proofs.YtbhnjnoblkfckabDoor
open Go.RowKit

theorem right_split (key : Int) (s : Sl) (now last : Int) : rightS key s now last = (decide (1 ≤ key ∧ key ≤ 9999) && (decide (0 ≤ s.til ∧ s.til ≤ 999999) && (decide (0 ≤ s.nonce ∧ s.nonce ≤ 999999) && (decide (s.path.size ≤ 40) && (decide (s.code = selS key s.path s.under s.til s.nonce) && (decide (now < s.til) && decide (last < s.nonce))))))) := by
  unfold rightS sealB
  have e0 : (decide (1 ≤ key) && decide (key ≤ 9999)) = decide (1 ≤ key ∧ key ≤ 9999) := by simp
  rw [e0]
  generalize decide (1 ≤ key ∧ key ≤ 9999) = a
  generalize decide (0 ≤ s.til ∧ s.til ≤ 999999) = b
  generalize decide (0 ≤ s.nonce ∧ s.nonce ≤ 999999) = d
  generalize decide (s.path.size ≤ 40) = e
  cases a <;> cases b <;> cases d <;> cases e <;> simp [Bool.and_assoc]

set_option maxRecDepth 100000 in
set_option maxHeartbeats 3200000 in
theorem spec_right0 (key : Int) (p : ByteArray) (u : Bool) (t n c now last : Int) (w : World) (_hp : p.size ≤ maxLen) (h0 : decide (1 ≤ key ∧ key ≤ 9999) = false) :
    Calls Tryd.prog 11 #[.int .i64 key, .agg #[.string p, .bool u, .int .i64 t, .int .i64 n, .int .i64 c], .int .i64 now, .int .i64 last] w fun e w' => e = .returned (.bool false) ∧ Below w.heap.size w w' := by
  have hk := fun W => sl_in key 1 9999 W
  rw [h0] at hk
  have HK := Lib.hid fun W => (hk W).mono fun e w' (h : e = _ ∧ W = w') => (And.intro h.1 (h.2 ▸ Below.refl _ _) : e = _ ∧ Below W.heap.size W w')
  obtain ⟨wA, hwA⟩ : ∃ wA, wA = w.alloc (.cells #[.string p, .bool u, .int .i64 t, .int .i64 n, .int .i64 c] 29) := ⟨_, rfl⟩
  have hsA : wA.heap.size = w.heap.size + 1 := by rw [hwA]; simp
  have hbA : Below w.heap.size w wA := by rw [hwA]; exact (Below.refl _ _).alloc (Nat.le_refl _) _
  have hH : wA.heap[w.heap.size]? = some (.cells #[.string p, .bool u, .int .i64 t, .int .i64 n, .int .i64 c] 29 (0, 0)) := by rw [hwA]; exact heap_alloc_new w _
  have HX : Hid (∀ W, Below wA.heap.size wA W → Below w.heap.size w W ∧ W.heap[w.heap.size]? = some (.cells #[.string p, .bool u, .int .i64 t, .int .i64 n, .int .i64 c] 29 (0, 0))) := Lib.hid fun W hW =>
    ⟨hbA.trans (hW.mono (by omega)), (hW.block _ (by omega)).trans hH⟩
  have HW := Lib.hid hwA
  clear hwA hH hbA h0 hk
  go_enter Tryd.func11, Tryd.ntmps11
  go_wp2_with fail
  rw [← HW.out]
  refine wp_region_last (by kernel_rfl) 45 (by kernel_rfl) (by kernel_rfl) (by kernel_rfl)
    (fun z => { tmps := #[.int .i64 key, .agg #[.string p, .bool u, .int .i64 t, .int .i64 n, .int .i64 c], .int .i64 now, .int .i64 last, undef, .pointer (some ⟨w.heap.size, 0, none⟩), undef, undef, .bool false, z 0, z 1, z 2, z 3, z 4, z 5, z 6, z 7, z 8, z 9, z 10, z 11, z 12, z 13, z 14, z 15, z 16, z 17, z 18, z 19, z 20, z 21, z 22, z 23, z 24, z 25, z 26, z 27, z 28, z 29, z 30, z 31, z 32, z 33, z 34, z 35, z 36, z 37, z 38, z 39, z 40, z 41, z 42, z 43, z 44], defers := [] })
    (fun _ W => Below wA.heap.size wA W)
    (fun i xv _ => xv = ([.int .i64 key, .bool false, .bool false, undef, undef, undef, .bool false, .bool false, undef, undef, undef, .bool false, .bool false, undef, undef, undef, undef, .bool false, .bool false, undef, undef, undef, undef, undef, undef, undef, undef, undef, undef, undef, undef, undef, .bool false, .bool false, undef, undef, undef, undef, .bool false, .bool false, undef, undef, undef, undef, .bool false] : List Value).getD i undef)
    (fun _ _ => True) (fun _ => undef) (Below.refl _ _).drew
    (fun _ _ _ _ _ h _ => h) ?_ ?_
  · intro i hi z w7 kk hkk hC hdp
    match i, hi with
    | 0, _ =>
      refine wpOp_step rfl (fun K hK => ?_)
      clear hdp
      go_simp
      exact hK _ _ ⟨.int .i64 key, rfl, rfl, trivial, hC⟩
    | 1, _ =>
      have e0 : z 0 = .int .i64 key := hdp 0 (dep_of (by kernel_rfl))
      have hT := HK.out w7
      refine wpOp_step rfl (fun K hK => ?_)
      clear hdp
      go_simp
      refine hT.mono ?_
      rintro e w8 ⟨rfl, hb8⟩
      exact hK _ _ ⟨.bool false, by simp [upd, e0], rfl, trivial, hC.trans (hb8.mono hC.size)⟩
    | 2, _ =>
      have e1 : z 1 = .bool false := hdp 1 (dep_of (by kernel_rfl))
      refine wpOp_step rfl (fun K hK => ?_)
      clear hdp
      go_simp
      exact hK _ _ ⟨.bool false, by simp [upd, e1], rfl, trivial, hC⟩
    | 3, _ =>
      have e2 : z 2 = .bool false := hdp 2 (dep_of (by kernel_rfl))
      refine wpOp_step rfl (fun K hK => ?_)
      clear hdp
      go_simp
      exact hK _ _ ⟨undef, by simp [upd, e2], rfl, trivial, hC⟩
    | 4, _ =>
      have e2 : z 2 = .bool false := hdp 2 (dep_of (by kernel_rfl))
      refine wpOp_step rfl (fun K hK => ?_)
      clear hdp
      go_simp
      exact hK _ _ ⟨undef, by simp [upd, e2], rfl, trivial, hC⟩
    | 5, _ =>
      have e2 : z 2 = .bool false := hdp 2 (dep_of (by kernel_rfl))
      refine wpOp_step rfl (fun K hK => ?_)
      clear hdp
      go_simp
      exact hK _ _ ⟨undef, by simp [upd, e2], rfl, trivial, hC⟩
    | 6, _ =>
      have e2 : z 2 = .bool false := hdp 2 (dep_of (by kernel_rfl))
      have e5 : z 5 = undef := hdp 5 (dep_of (by kernel_rfl))
      refine wpOp_step rfl (fun K hK => ?_)
      clear hdp
      go_simp
      exact hK _ _ ⟨.bool false, by simp [upd, e2, e5], rfl, trivial, hC⟩
    | 7, _ =>
      have e6 : z 6 = .bool false := hdp 6 (dep_of (by kernel_rfl))
      refine wpOp_step rfl (fun K hK => ?_)
      clear hdp
      go_simp
      exact hK _ _ ⟨.bool false, by simp [upd, e6], rfl, trivial, hC⟩
    | 8, _ =>
      have e7 : z 7 = .bool false := hdp 7 (dep_of (by kernel_rfl))
      refine wpOp_step rfl (fun K hK => ?_)
      clear hdp
      go_simp
      exact hK _ _ ⟨undef, by simp [upd, e7], rfl, trivial, hC⟩
    | 9, _ =>
      have e7 : z 7 = .bool false := hdp 7 (dep_of (by kernel_rfl))
      refine wpOp_step rfl (fun K hK => ?_)
      clear hdp
      go_simp
      exact hK _ _ ⟨undef, by simp [upd, e7], rfl, trivial, hC⟩
    | 10, _ =>
      have e7 : z 7 = .bool false := hdp 7 (dep_of (by kernel_rfl))
      refine wpOp_step rfl (fun K hK => ?_)
      clear hdp
      go_simp
      exact hK _ _ ⟨undef, by simp [upd, e7], rfl, trivial, hC⟩
    | 11, _ =>
      have e7 : z 7 = .bool false := hdp 7 (dep_of (by kernel_rfl))
      have e10 : z 10 = undef := hdp 10 (dep_of (by kernel_rfl))
      refine wpOp_step rfl (fun K hK => ?_)
      clear hdp
      go_simp
      exact hK _ _ ⟨.bool false, by simp [upd, e7, e10], rfl, trivial, hC⟩
    | 12, _ =>
      have e11 : z 11 = .bool false := hdp 11 (dep_of (by kernel_rfl))
      refine wpOp_step rfl (fun K hK => ?_)
      clear hdp
      go_simp
      exact hK _ _ ⟨.bool false, by simp [upd, e11], rfl, trivial, hC⟩
    | 13, _ =>
      have e12 : z 12 = .bool false := hdp 12 (dep_of (by kernel_rfl))
      refine wpOp_step rfl (fun K hK => ?_)
      clear hdp
      go_simp
      exact hK _ _ ⟨undef, by simp [upd, e12], rfl, trivial, hC⟩
    | 14, _ =>
      have e12 : z 12 = .bool false := hdp 12 (dep_of (by kernel_rfl))
      refine wpOp_step rfl (fun K hK => ?_)
      clear hdp
      go_simp
      exact hK _ _ ⟨undef, by simp [upd, e12], rfl, trivial, hC⟩
    | 15, _ =>
      have e12 : z 12 = .bool false := hdp 12 (dep_of (by kernel_rfl))
      refine wpOp_step rfl (fun K hK => ?_)
      clear hdp
      go_simp
      exact hK _ _ ⟨undef, by simp [upd, e12], rfl, trivial, hC⟩
    | 16, _ =>
      have e12 : z 12 = .bool false := hdp 12 (dep_of (by kernel_rfl))
      refine wpOp_step rfl (fun K hK => ?_)
      clear hdp
      go_simp
      exact hK _ _ ⟨undef, by simp [upd, e12], rfl, trivial, hC⟩
    | 17, _ =>
      have e12 : z 12 = .bool false := hdp 12 (dep_of (by kernel_rfl))
      have e16 : z 16 = undef := hdp 16 (dep_of (by kernel_rfl))
      refine wpOp_step rfl (fun K hK => ?_)
      clear hdp
      go_simp
      exact hK _ _ ⟨.bool false, by simp [upd, e12, e16], rfl, trivial, hC⟩
    | 18, _ =>
      have e17 : z 17 = .bool false := hdp 17 (dep_of (by kernel_rfl))
      refine wpOp_step rfl (fun K hK => ?_)
      clear hdp
      go_simp
      exact hK _ _ ⟨.bool false, by simp [upd, e17], rfl, trivial, hC⟩
    | 19, _ =>
      have e18 : z 18 = .bool false := hdp 18 (dep_of (by kernel_rfl))
      refine wpOp_step rfl (fun K hK => ?_)
      clear hdp
      go_simp
      exact hK _ _ ⟨undef, by simp [upd, e18], rfl, trivial, hC⟩
    | 20, _ =>
      have e18 : z 18 = .bool false := hdp 18 (dep_of (by kernel_rfl))
      refine wpOp_step rfl (fun K hK => ?_)
      clear hdp
      go_simp
      exact hK _ _ ⟨undef, by simp [upd, e18], rfl, trivial, hC⟩
    | 21, _ =>
      have e18 : z 18 = .bool false := hdp 18 (dep_of (by kernel_rfl))
      refine wpOp_step rfl (fun K hK => ?_)
      clear hdp
      go_simp
      exact hK _ _ ⟨undef, by simp [upd, e18], rfl, trivial, hC⟩
    | 22, _ =>
      have e18 : z 18 = .bool false := hdp 18 (dep_of (by kernel_rfl))
      refine wpOp_step rfl (fun K hK => ?_)
      clear hdp
      go_simp
      exact hK _ _ ⟨undef, by simp [upd, e18], rfl, trivial, hC⟩
    | 23, _ =>
      have e18 : z 18 = .bool false := hdp 18 (dep_of (by kernel_rfl))
      refine wpOp_step rfl (fun K hK => ?_)
      clear hdp
      go_simp
      exact hK _ _ ⟨undef, by simp [upd, e18], rfl, trivial, hC⟩
    | 24, _ =>
      have e18 : z 18 = .bool false := hdp 18 (dep_of (by kernel_rfl))
      refine wpOp_step rfl (fun K hK => ?_)
      clear hdp
      go_simp
      exact hK _ _ ⟨undef, by simp [upd, e18], rfl, trivial, hC⟩
    | 25, _ =>
      have e18 : z 18 = .bool false := hdp 18 (dep_of (by kernel_rfl))
      refine wpOp_step rfl (fun K hK => ?_)
      clear hdp
      go_simp
      exact hK _ _ ⟨undef, by simp [upd, e18], rfl, trivial, hC⟩
    | 26, _ =>
      have e18 : z 18 = .bool false := hdp 18 (dep_of (by kernel_rfl))
      refine wpOp_step rfl (fun K hK => ?_)
      clear hdp
      go_simp
      exact hK _ _ ⟨undef, by simp [upd, e18], rfl, trivial, hC⟩
    | 27, _ =>
      have e18 : z 18 = .bool false := hdp 18 (dep_of (by kernel_rfl))
      refine wpOp_step rfl (fun K hK => ?_)
      clear hdp
      go_simp
      exact hK _ _ ⟨undef, by simp [upd, e18], rfl, trivial, hC⟩
    | 28, _ =>
      have e18 : z 18 = .bool false := hdp 18 (dep_of (by kernel_rfl))
      refine wpOp_step rfl (fun K hK => ?_)
      clear hdp
      go_simp
      exact hK _ _ ⟨undef, by simp [upd, e18], rfl, trivial, hC⟩
    | 29, _ =>
      have e18 : z 18 = .bool false := hdp 18 (dep_of (by kernel_rfl))
      refine wpOp_step rfl (fun K hK => ?_)
      clear hdp
      go_simp
      exact hK _ _ ⟨undef, by simp [upd, e18], rfl, trivial, hC⟩
    | 30, _ =>
      have e18 : z 18 = .bool false := hdp 18 (dep_of (by kernel_rfl))
      refine wpOp_step rfl (fun K hK => ?_)
      clear hdp
      go_simp
      exact hK _ _ ⟨undef, by simp [upd, e18], rfl, trivial, hC⟩
    | 31, _ =>
      have e18 : z 18 = .bool false := hdp 18 (dep_of (by kernel_rfl))
      refine wpOp_step rfl (fun K hK => ?_)
      clear hdp
      go_simp
      exact hK _ _ ⟨undef, by simp [upd, e18], rfl, trivial, hC⟩
    | 32, _ =>
      have e18 : z 18 = .bool false := hdp 18 (dep_of (by kernel_rfl))
      have e31 : z 31 = undef := hdp 31 (dep_of (by kernel_rfl))
      refine wpOp_step rfl (fun K hK => ?_)
      clear hdp
      go_simp
      exact hK _ _ ⟨.bool false, by simp [upd, e18, e31], rfl, trivial, hC⟩
    | 33, _ =>
      have e32 : z 32 = .bool false := hdp 32 (dep_of (by kernel_rfl))
      refine wpOp_step rfl (fun K hK => ?_)
      clear hdp
      go_simp
      exact hK _ _ ⟨.bool false, by simp [upd, e32], rfl, trivial, hC⟩
    | 34, _ =>
      have e33 : z 33 = .bool false := hdp 33 (dep_of (by kernel_rfl))
      refine wpOp_step rfl (fun K hK => ?_)
      clear hdp
      go_simp
      exact hK _ _ ⟨undef, by simp [upd, e33], rfl, trivial, hC⟩
    | 35, _ =>
      have e33 : z 33 = .bool false := hdp 33 (dep_of (by kernel_rfl))
      refine wpOp_step rfl (fun K hK => ?_)
      clear hdp
      go_simp
      exact hK _ _ ⟨undef, by simp [upd, e33], rfl, trivial, hC⟩
    | 36, _ =>
      have e33 : z 33 = .bool false := hdp 33 (dep_of (by kernel_rfl))
      refine wpOp_step rfl (fun K hK => ?_)
      clear hdp
      go_simp
      exact hK _ _ ⟨undef, by simp [upd, e33], rfl, trivial, hC⟩
    | 37, _ =>
      have e33 : z 33 = .bool false := hdp 33 (dep_of (by kernel_rfl))
      refine wpOp_step rfl (fun K hK => ?_)
      clear hdp
      go_simp
      exact hK _ _ ⟨undef, by simp [upd, e33], rfl, trivial, hC⟩
    | 38, _ =>
      have e33 : z 33 = .bool false := hdp 33 (dep_of (by kernel_rfl))
      have e37 : z 37 = undef := hdp 37 (dep_of (by kernel_rfl))
      refine wpOp_step rfl (fun K hK => ?_)
      clear hdp
      go_simp
      exact hK _ _ ⟨.bool false, by simp [upd, e33, e37], rfl, trivial, hC⟩
    | 39, _ =>
      have e38 : z 38 = .bool false := hdp 38 (dep_of (by kernel_rfl))
      refine wpOp_step rfl (fun K hK => ?_)
      clear hdp
      go_simp
      exact hK _ _ ⟨.bool false, by simp [upd, e38], rfl, trivial, hC⟩
    | 40, _ =>
      have e39 : z 39 = .bool false := hdp 39 (dep_of (by kernel_rfl))
      refine wpOp_step rfl (fun K hK => ?_)
      clear hdp
      go_simp
      exact hK _ _ ⟨undef, by simp [upd, e39], rfl, trivial, hC⟩
    | 41, _ =>
      have e39 : z 39 = .bool false := hdp 39 (dep_of (by kernel_rfl))
      refine wpOp_step rfl (fun K hK => ?_)
      clear hdp
      go_simp
      exact hK _ _ ⟨undef, by simp [upd, e39], rfl, trivial, hC⟩
    | 42, _ =>
      have e39 : z 39 = .bool false := hdp 39 (dep_of (by kernel_rfl))
      refine wpOp_step rfl (fun K hK => ?_)
      clear hdp
      go_simp
      exact hK _ _ ⟨undef, by simp [upd, e39], rfl, trivial, hC⟩
    | 43, _ =>
      have e39 : z 39 = .bool false := hdp 39 (dep_of (by kernel_rfl))
      refine wpOp_step rfl (fun K hK => ?_)
      clear hdp
      go_simp
      exact hK _ _ ⟨undef, by simp [upd, e39], rfl, trivial, hC⟩
    | 44, _ =>
      have e39 : z 39 = .bool false := hdp 39 (dep_of (by kernel_rfl))
      have e43 : z 43 = undef := hdp 43 (dep_of (by kernel_rfl))
      refine wpOp_step rfl (fun K hK => ?_)
      clear hdp
      go_simp
      exact hK _ _ ⟨.bool false, by simp [upd, e39, e43], rfl, trivial, hC⟩
    | n + 45, hn => exact absurd hn (by omega)
  · intro z w7 kk hkk hC hdp
    have e44 : z 44 = .bool false := hdp 44 (by decide)
    refine wpOp_step rfl (fun K hK => ?_)
    clear hdp
    go_simp
    refine hK _ _ ?_
    clear hK K e44
    have HBw := Lib.hid (HX.out w7 hC).1
    clear hC
    go_wp2
    go_ret
    exact ⟨rfl, HBw.out⟩

set_option maxRecDepth 100000 in
set_option maxHeartbeats 3200000 in
theorem spec_right1 (key : Int) (p : ByteArray) (u : Bool) (t n c now last : Int) (w : World) (_hp : p.size ≤ maxLen) (h0 : decide (1 ≤ key ∧ key ≤ 9999) = true) (h1 : decide (0 ≤ t ∧ t ≤ 999999) = false) :
    Calls Tryd.prog 11 #[.int .i64 key, .agg #[.string p, .bool u, .int .i64 t, .int .i64 n, .int .i64 c], .int .i64 now, .int .i64 last] w fun e w' => e = .returned (.bool false) ∧ Below w.heap.size w w' := by
  have hk := fun W => sl_in key 1 9999 W
  rw [h0] at hk
  have HK := Lib.hid fun W => (hk W).mono fun e w' (h : e = _ ∧ W = w') => (And.intro h.1 (h.2 ▸ Below.refl _ _) : e = _ ∧ Below W.heap.size W w')
  have ht := fun W => sl_in t 0 999999 W
  rw [h1] at ht
  have HT := Lib.hid fun W => (ht W).mono fun e w' (h : e = _ ∧ W = w') => (And.intro h.1 (h.2 ▸ Below.refl _ _) : e = _ ∧ Below W.heap.size W w')
  obtain ⟨wA, hwA⟩ : ∃ wA, wA = w.alloc (.cells #[.string p, .bool u, .int .i64 t, .int .i64 n, .int .i64 c] 29) := ⟨_, rfl⟩
  have hsA : wA.heap.size = w.heap.size + 1 := by rw [hwA]; simp
  have hbA : Below w.heap.size w wA := by rw [hwA]; exact (Below.refl _ _).alloc (Nat.le_refl _) _
  have hH : wA.heap[w.heap.size]? = some (.cells #[.string p, .bool u, .int .i64 t, .int .i64 n, .int .i64 c] 29 (0, 0)) := by rw [hwA]; exact heap_alloc_new w _
  have HX : Hid (∀ W, Below wA.heap.size wA W → Below w.heap.size w W ∧ W.heap[w.heap.size]? = some (.cells #[.string p, .bool u, .int .i64 t, .int .i64 n, .int .i64 c] 29 (0, 0))) := Lib.hid fun W hW =>
    ⟨hbA.trans (hW.mono (by omega)), (hW.block _ (by omega)).trans hH⟩
  have HW := Lib.hid hwA
  clear hwA hH hbA h0 hk h1 ht
  go_enter Tryd.func11, Tryd.ntmps11
  go_wp2_with fail
  rw [← HW.out]
  refine wp_region_last (by kernel_rfl) 45 (by kernel_rfl) (by kernel_rfl) (by kernel_rfl)
    (fun z => { tmps := #[.int .i64 key, .agg #[.string p, .bool u, .int .i64 t, .int .i64 n, .int .i64 c], .int .i64 now, .int .i64 last, undef, .pointer (some ⟨w.heap.size, 0, none⟩), undef, undef, .bool false, z 0, z 1, z 2, z 3, z 4, z 5, z 6, z 7, z 8, z 9, z 10, z 11, z 12, z 13, z 14, z 15, z 16, z 17, z 18, z 19, z 20, z 21, z 22, z 23, z 24, z 25, z 26, z 27, z 28, z 29, z 30, z 31, z 32, z 33, z 34, z 35, z 36, z 37, z 38, z 39, z 40, z 41, z 42, z 43, z 44], defers := [] })
    (fun _ W => Below wA.heap.size wA W)
    (fun i xv _ => xv = ([.int .i64 key, .bool true, .bool true, .pointer (some ⟨w.heap.size, 2, none⟩), .int .i64 t, .bool false, .bool false, .bool false, undef, undef, undef, .bool false, .bool false, undef, undef, undef, undef, .bool false, .bool false, undef, undef, undef, undef, undef, undef, undef, undef, undef, undef, undef, undef, undef, .bool false, .bool false, undef, undef, undef, undef, .bool false, .bool false, undef, undef, undef, undef, .bool false] : List Value).getD i undef)
    (fun _ _ => True) (fun _ => undef) (Below.refl _ _).drew
    (fun _ _ _ _ _ h _ => h) ?_ ?_
  · intro i hi z w7 kk hkk hC hdp
    match i, hi with
    | 0, _ =>
      refine wpOp_step rfl (fun K hK => ?_)
      clear hdp
      go_simp
      exact hK _ _ ⟨.int .i64 key, rfl, rfl, trivial, hC⟩
    | 1, _ =>
      have e0 : z 0 = .int .i64 key := hdp 0 (dep_of (by kernel_rfl))
      have hT := HK.out w7
      refine wpOp_step rfl (fun K hK => ?_)
      clear hdp
      go_simp
      refine hT.mono ?_
      rintro e w8 ⟨rfl, hb8⟩
      exact hK _ _ ⟨.bool true, by simp [upd, e0], rfl, trivial, hC.trans (hb8.mono hC.size)⟩
    | 2, _ =>
      have e1 : z 1 = .bool true := hdp 1 (dep_of (by kernel_rfl))
      refine wpOp_step rfl (fun K hK => ?_)
      clear hdp
      go_simp
      exact hK _ _ ⟨.bool true, by simp [upd, e1], rfl, trivial, hC⟩
    | 3, _ =>
      have e2 : z 2 = .bool true := hdp 2 (dep_of (by kernel_rfl))
      refine wpOp_step rfl (fun K hK => ?_)
      clear hdp
      go_simp
      exact hK _ _ ⟨.pointer (some ⟨w.heap.size, 2, none⟩), by simp [upd, e2], rfl, trivial, hC⟩
    | 4, _ =>
      obtain ⟨q0, q1, q2, q3, q4⟩ := sl_facts (HX.out w7 hC).2
      have e2 : z 2 = .bool true := hdp 2 (dep_of (by kernel_rfl))
      have e3 : z 3 = .pointer (some ⟨w.heap.size, 2, none⟩) := hdp 3 (dep_of (by kernel_rfl))
      refine wpOp_step rfl (fun K hK => ?_)
      clear hdp
      go_simp
      exact hK _ _ ⟨.int .i64 t, by simp [upd, e2, e3], rfl, trivial, hC⟩
    | 5, _ =>
      have e2 : z 2 = .bool true := hdp 2 (dep_of (by kernel_rfl))
      have e4 : z 4 = .int .i64 t := hdp 4 (dep_of (by kernel_rfl))
      have hT := HT.out w7
      refine wpOp_step rfl (fun K hK => ?_)
      clear hdp
      go_simp
      refine hT.mono ?_
      rintro e w8 ⟨rfl, hb8⟩
      exact hK _ _ ⟨.bool false, by simp [upd, e2, e4], rfl, trivial, hC.trans (hb8.mono hC.size)⟩
    | 6, _ =>
      have e2 : z 2 = .bool true := hdp 2 (dep_of (by kernel_rfl))
      have e5 : z 5 = .bool false := hdp 5 (dep_of (by kernel_rfl))
      refine wpOp_step rfl (fun K hK => ?_)
      clear hdp
      go_simp
      exact hK _ _ ⟨.bool false, by simp [upd, e2, e5], rfl, trivial, hC⟩
    | 7, _ =>
      have e6 : z 6 = .bool false := hdp 6 (dep_of (by kernel_rfl))
      refine wpOp_step rfl (fun K hK => ?_)
      clear hdp
      go_simp
      exact hK _ _ ⟨.bool false, by simp [upd, e6], rfl, trivial, hC⟩
    | 8, _ =>
      have e7 : z 7 = .bool false := hdp 7 (dep_of (by kernel_rfl))
      refine wpOp_step rfl (fun K hK => ?_)
      clear hdp
      go_simp
      exact hK _ _ ⟨undef, by simp [upd, e7], rfl, trivial, hC⟩
    | 9, _ =>
      have e7 : z 7 = .bool false := hdp 7 (dep_of (by kernel_rfl))
      refine wpOp_step rfl (fun K hK => ?_)
      clear hdp
      go_simp
      exact hK _ _ ⟨undef, by simp [upd, e7], rfl, trivial, hC⟩
    | 10, _ =>
      have e7 : z 7 = .bool false := hdp 7 (dep_of (by kernel_rfl))
      refine wpOp_step rfl (fun K hK => ?_)
      clear hdp
      go_simp
      exact hK _ _ ⟨undef, by simp [upd, e7], rfl, trivial, hC⟩
    | 11, _ =>
      have e7 : z 7 = .bool false := hdp 7 (dep_of (by kernel_rfl))
      have e10 : z 10 = undef := hdp 10 (dep_of (by kernel_rfl))
      refine wpOp_step rfl (fun K hK => ?_)
      clear hdp
      go_simp
      exact hK _ _ ⟨.bool false, by simp [upd, e7, e10], rfl, trivial, hC⟩
    | 12, _ =>
      have e11 : z 11 = .bool false := hdp 11 (dep_of (by kernel_rfl))
      refine wpOp_step rfl (fun K hK => ?_)
      clear hdp
      go_simp
      exact hK _ _ ⟨.bool false, by simp [upd, e11], rfl, trivial, hC⟩
    | 13, _ =>
      have e12 : z 12 = .bool false := hdp 12 (dep_of (by kernel_rfl))
      refine wpOp_step rfl (fun K hK => ?_)
      clear hdp
      go_simp
      exact hK _ _ ⟨undef, by simp [upd, e12], rfl, trivial, hC⟩
    | 14, _ =>
      have e12 : z 12 = .bool false := hdp 12 (dep_of (by kernel_rfl))
      refine wpOp_step rfl (fun K hK => ?_)
      clear hdp
      go_simp
      exact hK _ _ ⟨undef, by simp [upd, e12], rfl, trivial, hC⟩
    | 15, _ =>
      have e12 : z 12 = .bool false := hdp 12 (dep_of (by kernel_rfl))
      refine wpOp_step rfl (fun K hK => ?_)
      clear hdp
      go_simp
      exact hK _ _ ⟨undef, by simp [upd, e12], rfl, trivial, hC⟩
    | 16, _ =>
      have e12 : z 12 = .bool false := hdp 12 (dep_of (by kernel_rfl))
      refine wpOp_step rfl (fun K hK => ?_)
      clear hdp
      go_simp
      exact hK _ _ ⟨undef, by simp [upd, e12], rfl, trivial, hC⟩
    | 17, _ =>
      have e12 : z 12 = .bool false := hdp 12 (dep_of (by kernel_rfl))
      have e16 : z 16 = undef := hdp 16 (dep_of (by kernel_rfl))
      refine wpOp_step rfl (fun K hK => ?_)
      clear hdp
      go_simp
      exact hK _ _ ⟨.bool false, by simp [upd, e12, e16], rfl, trivial, hC⟩
    | 18, _ =>
      have e17 : z 17 = .bool false := hdp 17 (dep_of (by kernel_rfl))
      refine wpOp_step rfl (fun K hK => ?_)
      clear hdp
      go_simp
      exact hK _ _ ⟨.bool false, by simp [upd, e17], rfl, trivial, hC⟩
    | 19, _ =>
      have e18 : z 18 = .bool false := hdp 18 (dep_of (by kernel_rfl))
      refine wpOp_step rfl (fun K hK => ?_)
      clear hdp
      go_simp
      exact hK _ _ ⟨undef, by simp [upd, e18], rfl, trivial, hC⟩
    | 20, _ =>
      have e18 : z 18 = .bool false := hdp 18 (dep_of (by kernel_rfl))
      refine wpOp_step rfl (fun K hK => ?_)
      clear hdp
      go_simp
      exact hK _ _ ⟨undef, by simp [upd, e18], rfl, trivial, hC⟩
    | 21, _ =>
      have e18 : z 18 = .bool false := hdp 18 (dep_of (by kernel_rfl))
      refine wpOp_step rfl (fun K hK => ?_)
      clear hdp
      go_simp
      exact hK _ _ ⟨undef, by simp [upd, e18], rfl, trivial, hC⟩
    | 22, _ =>
      have e18 : z 18 = .bool false := hdp 18 (dep_of (by kernel_rfl))
      refine wpOp_step rfl (fun K hK => ?_)
      clear hdp
      go_simp
      exact hK _ _ ⟨undef, by simp [upd, e18], rfl, trivial, hC⟩
    | 23, _ =>
      have e18 : z 18 = .bool false := hdp 18 (dep_of (by kernel_rfl))
      refine wpOp_step rfl (fun K hK => ?_)
      clear hdp
      go_simp
      exact hK _ _ ⟨undef, by simp [upd, e18], rfl, trivial, hC⟩
    | 24, _ =>
      have e18 : z 18 = .bool false := hdp 18 (dep_of (by kernel_rfl))
      refine wpOp_step rfl (fun K hK => ?_)
      clear hdp
      go_simp
      exact hK _ _ ⟨undef, by simp [upd, e18], rfl, trivial, hC⟩
    | 25, _ =>
      have e18 : z 18 = .bool false := hdp 18 (dep_of (by kernel_rfl))
      refine wpOp_step rfl (fun K hK => ?_)
      clear hdp
      go_simp
      exact hK _ _ ⟨undef, by simp [upd, e18], rfl, trivial, hC⟩
    | 26, _ =>
      have e18 : z 18 = .bool false := hdp 18 (dep_of (by kernel_rfl))
      refine wpOp_step rfl (fun K hK => ?_)
      clear hdp
      go_simp
      exact hK _ _ ⟨undef, by simp [upd, e18], rfl, trivial, hC⟩
    | 27, _ =>
      have e18 : z 18 = .bool false := hdp 18 (dep_of (by kernel_rfl))
      refine wpOp_step rfl (fun K hK => ?_)
      clear hdp
      go_simp
      exact hK _ _ ⟨undef, by simp [upd, e18], rfl, trivial, hC⟩
    | 28, _ =>
      have e18 : z 18 = .bool false := hdp 18 (dep_of (by kernel_rfl))
      refine wpOp_step rfl (fun K hK => ?_)
      clear hdp
      go_simp
      exact hK _ _ ⟨undef, by simp [upd, e18], rfl, trivial, hC⟩
    | 29, _ =>
      have e18 : z 18 = .bool false := hdp 18 (dep_of (by kernel_rfl))
      refine wpOp_step rfl (fun K hK => ?_)
      clear hdp
      go_simp
      exact hK _ _ ⟨undef, by simp [upd, e18], rfl, trivial, hC⟩
    | 30, _ =>
      have e18 : z 18 = .bool false := hdp 18 (dep_of (by kernel_rfl))
      refine wpOp_step rfl (fun K hK => ?_)
      clear hdp
      go_simp
      exact hK _ _ ⟨undef, by simp [upd, e18], rfl, trivial, hC⟩
    | 31, _ =>
      have e18 : z 18 = .bool false := hdp 18 (dep_of (by kernel_rfl))
      refine wpOp_step rfl (fun K hK => ?_)
      clear hdp
      go_simp
      exact hK _ _ ⟨undef, by simp [upd, e18], rfl, trivial, hC⟩
    | 32, _ =>
      have e18 : z 18 = .bool false := hdp 18 (dep_of (by kernel_rfl))
      have e31 : z 31 = undef := hdp 31 (dep_of (by kernel_rfl))
      refine wpOp_step rfl (fun K hK => ?_)
      clear hdp
      go_simp
      exact hK _ _ ⟨.bool false, by simp [upd, e18, e31], rfl, trivial, hC⟩
    | 33, _ =>
      have e32 : z 32 = .bool false := hdp 32 (dep_of (by kernel_rfl))
      refine wpOp_step rfl (fun K hK => ?_)
      clear hdp
      go_simp
      exact hK _ _ ⟨.bool false, by simp [upd, e32], rfl, trivial, hC⟩
    | 34, _ =>
      have e33 : z 33 = .bool false := hdp 33 (dep_of (by kernel_rfl))
      refine wpOp_step rfl (fun K hK => ?_)
      clear hdp
      go_simp
      exact hK _ _ ⟨undef, by simp [upd, e33], rfl, trivial, hC⟩
    | 35, _ =>
      have e33 : z 33 = .bool false := hdp 33 (dep_of (by kernel_rfl))
      refine wpOp_step rfl (fun K hK => ?_)
      clear hdp
      go_simp
      exact hK _ _ ⟨undef, by simp [upd, e33], rfl, trivial, hC⟩
    | 36, _ =>
      have e33 : z 33 = .bool false := hdp 33 (dep_of (by kernel_rfl))
      refine wpOp_step rfl (fun K hK => ?_)
      clear hdp
      go_simp
      exact hK _ _ ⟨undef, by simp [upd, e33], rfl, trivial, hC⟩
    | 37, _ =>
      have e33 : z 33 = .bool false := hdp 33 (dep_of (by kernel_rfl))
      refine wpOp_step rfl (fun K hK => ?_)
      clear hdp
      go_simp
      exact hK _ _ ⟨undef, by simp [upd, e33], rfl, trivial, hC⟩
    | 38, _ =>
      have e33 : z 33 = .bool false := hdp 33 (dep_of (by kernel_rfl))
      have e37 : z 37 = undef := hdp 37 (dep_of (by kernel_rfl))
      refine wpOp_step rfl (fun K hK => ?_)
      clear hdp
      go_simp
      exact hK _ _ ⟨.bool false, by simp [upd, e33, e37], rfl, trivial, hC⟩
    | 39, _ =>
      have e38 : z 38 = .bool false := hdp 38 (dep_of (by kernel_rfl))
      refine wpOp_step rfl (fun K hK => ?_)
      clear hdp
      go_simp
      exact hK _ _ ⟨.bool false, by simp [upd, e38], rfl, trivial, hC⟩
    | 40, _ =>
      have e39 : z 39 = .bool false := hdp 39 (dep_of (by kernel_rfl))
      refine wpOp_step rfl (fun K hK => ?_)
      clear hdp
      go_simp
      exact hK _ _ ⟨undef, by simp [upd, e39], rfl, trivial, hC⟩
    | 41, _ =>
      have e39 : z 39 = .bool false := hdp 39 (dep_of (by kernel_rfl))
      refine wpOp_step rfl (fun K hK => ?_)
      clear hdp
      go_simp
      exact hK _ _ ⟨undef, by simp [upd, e39], rfl, trivial, hC⟩
    | 42, _ =>
      have e39 : z 39 = .bool false := hdp 39 (dep_of (by kernel_rfl))
      refine wpOp_step rfl (fun K hK => ?_)
      clear hdp
      go_simp
      exact hK _ _ ⟨undef, by simp [upd, e39], rfl, trivial, hC⟩
    | 43, _ =>
      have e39 : z 39 = .bool false := hdp 39 (dep_of (by kernel_rfl))
      refine wpOp_step rfl (fun K hK => ?_)
      clear hdp
      go_simp
      exact hK _ _ ⟨undef, by simp [upd, e39], rfl, trivial, hC⟩
    | 44, _ =>
      have e39 : z 39 = .bool false := hdp 39 (dep_of (by kernel_rfl))
      have e43 : z 43 = undef := hdp 43 (dep_of (by kernel_rfl))
      refine wpOp_step rfl (fun K hK => ?_)
      clear hdp
      go_simp
      exact hK _ _ ⟨.bool false, by simp [upd, e39, e43], rfl, trivial, hC⟩
    | n + 45, hn => exact absurd hn (by omega)
  · intro z w7 kk hkk hC hdp
    have e44 : z 44 = .bool false := hdp 44 (by decide)
    refine wpOp_step rfl (fun K hK => ?_)
    clear hdp
    go_simp
    refine hK _ _ ?_
    clear hK K e44
    have HBw := Lib.hid (HX.out w7 hC).1
    clear hC
    go_wp2
    go_ret
    exact ⟨rfl, HBw.out⟩

set_option maxRecDepth 100000 in
set_option maxHeartbeats 3200000 in
theorem spec_right2 (key : Int) (p : ByteArray) (u : Bool) (t n c now last : Int) (w : World) (_hp : p.size ≤ maxLen) (h0 : decide (1 ≤ key ∧ key ≤ 9999) = true) (h1 : decide (0 ≤ t ∧ t ≤ 999999) = true) (h2 : decide (0 ≤ n ∧ n ≤ 999999) = false) :
    Calls Tryd.prog 11 #[.int .i64 key, .agg #[.string p, .bool u, .int .i64 t, .int .i64 n, .int .i64 c], .int .i64 now, .int .i64 last] w fun e w' => e = .returned (.bool false) ∧ Below w.heap.size w w' := by
  have hk := fun W => sl_in key 1 9999 W
  rw [h0] at hk
  have HK := Lib.hid fun W => (hk W).mono fun e w' (h : e = _ ∧ W = w') => (And.intro h.1 (h.2 ▸ Below.refl _ _) : e = _ ∧ Below W.heap.size W w')
  have ht := fun W => sl_in t 0 999999 W
  rw [h1] at ht
  have HT := Lib.hid fun W => (ht W).mono fun e w' (h : e = _ ∧ W = w') => (And.intro h.1 (h.2 ▸ Below.refl _ _) : e = _ ∧ Below W.heap.size W w')
  have hn := fun W => sl_in n 0 999999 W
  rw [h2] at hn
  have HN := Lib.hid fun W => (hn W).mono fun e w' (h : e = _ ∧ W = w') => (And.intro h.1 (h.2 ▸ Below.refl _ _) : e = _ ∧ Below W.heap.size W w')
  obtain ⟨wA, hwA⟩ : ∃ wA, wA = w.alloc (.cells #[.string p, .bool u, .int .i64 t, .int .i64 n, .int .i64 c] 29) := ⟨_, rfl⟩
  have hsA : wA.heap.size = w.heap.size + 1 := by rw [hwA]; simp
  have hbA : Below w.heap.size w wA := by rw [hwA]; exact (Below.refl _ _).alloc (Nat.le_refl _) _
  have hH : wA.heap[w.heap.size]? = some (.cells #[.string p, .bool u, .int .i64 t, .int .i64 n, .int .i64 c] 29 (0, 0)) := by rw [hwA]; exact heap_alloc_new w _
  have HX : Hid (∀ W, Below wA.heap.size wA W → Below w.heap.size w W ∧ W.heap[w.heap.size]? = some (.cells #[.string p, .bool u, .int .i64 t, .int .i64 n, .int .i64 c] 29 (0, 0))) := Lib.hid fun W hW =>
    ⟨hbA.trans (hW.mono (by omega)), (hW.block _ (by omega)).trans hH⟩
  have HW := Lib.hid hwA
  clear hwA hH hbA h0 hk h1 ht h2 hn
  go_enter Tryd.func11, Tryd.ntmps11
  go_wp2_with fail
  rw [← HW.out]
  refine wp_region_last (by kernel_rfl) 45 (by kernel_rfl) (by kernel_rfl) (by kernel_rfl)
    (fun z => { tmps := #[.int .i64 key, .agg #[.string p, .bool u, .int .i64 t, .int .i64 n, .int .i64 c], .int .i64 now, .int .i64 last, undef, .pointer (some ⟨w.heap.size, 0, none⟩), undef, undef, .bool false, z 0, z 1, z 2, z 3, z 4, z 5, z 6, z 7, z 8, z 9, z 10, z 11, z 12, z 13, z 14, z 15, z 16, z 17, z 18, z 19, z 20, z 21, z 22, z 23, z 24, z 25, z 26, z 27, z 28, z 29, z 30, z 31, z 32, z 33, z 34, z 35, z 36, z 37, z 38, z 39, z 40, z 41, z 42, z 43, z 44], defers := [] })
    (fun _ W => Below wA.heap.size wA W)
    (fun i xv _ => xv = ([.int .i64 key, .bool true, .bool true, .pointer (some ⟨w.heap.size, 2, none⟩), .int .i64 t, .bool true, .bool true, .bool true, .pointer (some ⟨w.heap.size, 3, none⟩), .int .i64 n, .bool false, .bool false, .bool false, undef, undef, undef, undef, .bool false, .bool false, undef, undef, undef, undef, undef, undef, undef, undef, undef, undef, undef, undef, undef, .bool false, .bool false, undef, undef, undef, undef, .bool false, .bool false, undef, undef, undef, undef, .bool false] : List Value).getD i undef)
    (fun _ _ => True) (fun _ => undef) (Below.refl _ _).drew
    (fun _ _ _ _ _ h _ => h) ?_ ?_
  · intro i hi z w7 kk hkk hC hdp
    match i, hi with
    | 0, _ =>
      refine wpOp_step rfl (fun K hK => ?_)
      clear hdp
      go_simp
      exact hK _ _ ⟨.int .i64 key, rfl, rfl, trivial, hC⟩
    | 1, _ =>
      have e0 : z 0 = .int .i64 key := hdp 0 (dep_of (by kernel_rfl))
      have hT := HK.out w7
      refine wpOp_step rfl (fun K hK => ?_)
      clear hdp
      go_simp
      refine hT.mono ?_
      rintro e w8 ⟨rfl, hb8⟩
      exact hK _ _ ⟨.bool true, by simp [upd, e0], rfl, trivial, hC.trans (hb8.mono hC.size)⟩
    | 2, _ =>
      have e1 : z 1 = .bool true := hdp 1 (dep_of (by kernel_rfl))
      refine wpOp_step rfl (fun K hK => ?_)
      clear hdp
      go_simp
      exact hK _ _ ⟨.bool true, by simp [upd, e1], rfl, trivial, hC⟩
    | 3, _ =>
      have e2 : z 2 = .bool true := hdp 2 (dep_of (by kernel_rfl))
      refine wpOp_step rfl (fun K hK => ?_)
      clear hdp
      go_simp
      exact hK _ _ ⟨.pointer (some ⟨w.heap.size, 2, none⟩), by simp [upd, e2], rfl, trivial, hC⟩
    | 4, _ =>
      obtain ⟨q0, q1, q2, q3, q4⟩ := sl_facts (HX.out w7 hC).2
      have e2 : z 2 = .bool true := hdp 2 (dep_of (by kernel_rfl))
      have e3 : z 3 = .pointer (some ⟨w.heap.size, 2, none⟩) := hdp 3 (dep_of (by kernel_rfl))
      refine wpOp_step rfl (fun K hK => ?_)
      clear hdp
      go_simp
      exact hK _ _ ⟨.int .i64 t, by simp [upd, e2, e3], rfl, trivial, hC⟩
    | 5, _ =>
      have e2 : z 2 = .bool true := hdp 2 (dep_of (by kernel_rfl))
      have e4 : z 4 = .int .i64 t := hdp 4 (dep_of (by kernel_rfl))
      have hT := HT.out w7
      refine wpOp_step rfl (fun K hK => ?_)
      clear hdp
      go_simp
      refine hT.mono ?_
      rintro e w8 ⟨rfl, hb8⟩
      exact hK _ _ ⟨.bool true, by simp [upd, e2, e4], rfl, trivial, hC.trans (hb8.mono hC.size)⟩
    | 6, _ =>
      have e2 : z 2 = .bool true := hdp 2 (dep_of (by kernel_rfl))
      have e5 : z 5 = .bool true := hdp 5 (dep_of (by kernel_rfl))
      refine wpOp_step rfl (fun K hK => ?_)
      clear hdp
      go_simp
      exact hK _ _ ⟨.bool true, by simp [upd, e2, e5], rfl, trivial, hC⟩
    | 7, _ =>
      have e6 : z 6 = .bool true := hdp 6 (dep_of (by kernel_rfl))
      refine wpOp_step rfl (fun K hK => ?_)
      clear hdp
      go_simp
      exact hK _ _ ⟨.bool true, by simp [upd, e6], rfl, trivial, hC⟩
    | 8, _ =>
      have e7 : z 7 = .bool true := hdp 7 (dep_of (by kernel_rfl))
      refine wpOp_step rfl (fun K hK => ?_)
      clear hdp
      go_simp
      exact hK _ _ ⟨.pointer (some ⟨w.heap.size, 3, none⟩), by simp [upd, e7], rfl, trivial, hC⟩
    | 9, _ =>
      obtain ⟨q0, q1, q2, q3, q4⟩ := sl_facts (HX.out w7 hC).2
      have e7 : z 7 = .bool true := hdp 7 (dep_of (by kernel_rfl))
      have e8 : z 8 = .pointer (some ⟨w.heap.size, 3, none⟩) := hdp 8 (dep_of (by kernel_rfl))
      refine wpOp_step rfl (fun K hK => ?_)
      clear hdp
      go_simp
      exact hK _ _ ⟨.int .i64 n, by simp [upd, e7, e8], rfl, trivial, hC⟩
    | 10, _ =>
      have e7 : z 7 = .bool true := hdp 7 (dep_of (by kernel_rfl))
      have e9 : z 9 = .int .i64 n := hdp 9 (dep_of (by kernel_rfl))
      have hT := HN.out w7
      refine wpOp_step rfl (fun K hK => ?_)
      clear hdp
      go_simp
      refine hT.mono ?_
      rintro e w8 ⟨rfl, hb8⟩
      exact hK _ _ ⟨.bool false, by simp [upd, e7, e9], rfl, trivial, hC.trans (hb8.mono hC.size)⟩
    | 11, _ =>
      have e7 : z 7 = .bool true := hdp 7 (dep_of (by kernel_rfl))
      have e10 : z 10 = .bool false := hdp 10 (dep_of (by kernel_rfl))
      refine wpOp_step rfl (fun K hK => ?_)
      clear hdp
      go_simp
      exact hK _ _ ⟨.bool false, by simp [upd, e7, e10], rfl, trivial, hC⟩
    | 12, _ =>
      have e11 : z 11 = .bool false := hdp 11 (dep_of (by kernel_rfl))
      refine wpOp_step rfl (fun K hK => ?_)
      clear hdp
      go_simp
      exact hK _ _ ⟨.bool false, by simp [upd, e11], rfl, trivial, hC⟩
    | 13, _ =>
      have e12 : z 12 = .bool false := hdp 12 (dep_of (by kernel_rfl))
      refine wpOp_step rfl (fun K hK => ?_)
      clear hdp
      go_simp
      exact hK _ _ ⟨undef, by simp [upd, e12], rfl, trivial, hC⟩
    | 14, _ =>
      have e12 : z 12 = .bool false := hdp 12 (dep_of (by kernel_rfl))
      refine wpOp_step rfl (fun K hK => ?_)
      clear hdp
      go_simp
      exact hK _ _ ⟨undef, by simp [upd, e12], rfl, trivial, hC⟩
    | 15, _ =>
      have e12 : z 12 = .bool false := hdp 12 (dep_of (by kernel_rfl))
      refine wpOp_step rfl (fun K hK => ?_)
      clear hdp
      go_simp
      exact hK _ _ ⟨undef, by simp [upd, e12], rfl, trivial, hC⟩
    | 16, _ =>
      have e12 : z 12 = .bool false := hdp 12 (dep_of (by kernel_rfl))
      refine wpOp_step rfl (fun K hK => ?_)
      clear hdp
      go_simp
      exact hK _ _ ⟨undef, by simp [upd, e12], rfl, trivial, hC⟩
    | 17, _ =>
      have e12 : z 12 = .bool false := hdp 12 (dep_of (by kernel_rfl))
      have e16 : z 16 = undef := hdp 16 (dep_of (by kernel_rfl))
      refine wpOp_step rfl (fun K hK => ?_)
      clear hdp
      go_simp
      exact hK _ _ ⟨.bool false, by simp [upd, e12, e16], rfl, trivial, hC⟩
    | 18, _ =>
      have e17 : z 17 = .bool false := hdp 17 (dep_of (by kernel_rfl))
      refine wpOp_step rfl (fun K hK => ?_)
      clear hdp
      go_simp
      exact hK _ _ ⟨.bool false, by simp [upd, e17], rfl, trivial, hC⟩
    | 19, _ =>
      have e18 : z 18 = .bool false := hdp 18 (dep_of (by kernel_rfl))
      refine wpOp_step rfl (fun K hK => ?_)
      clear hdp
      go_simp
      exact hK _ _ ⟨undef, by simp [upd, e18], rfl, trivial, hC⟩
    | 20, _ =>
      have e18 : z 18 = .bool false := hdp 18 (dep_of (by kernel_rfl))
      refine wpOp_step rfl (fun K hK => ?_)
      clear hdp
      go_simp
      exact hK _ _ ⟨undef, by simp [upd, e18], rfl, trivial, hC⟩
    | 21, _ =>
      have e18 : z 18 = .bool false := hdp 18 (dep_of (by kernel_rfl))
      refine wpOp_step rfl (fun K hK => ?_)
      clear hdp
      go_simp
      exact hK _ _ ⟨undef, by simp [upd, e18], rfl, trivial, hC⟩
    | 22, _ =>
      have e18 : z 18 = .bool false := hdp 18 (dep_of (by kernel_rfl))
      refine wpOp_step rfl (fun K hK => ?_)
      clear hdp
      go_simp
      exact hK _ _ ⟨undef, by simp [upd, e18], rfl, trivial, hC⟩
    | 23, _ =>
      have e18 : z 18 = .bool false := hdp 18 (dep_of (by kernel_rfl))
      refine wpOp_step rfl (fun K hK => ?_)
      clear hdp
      go_simp
      exact hK _ _ ⟨undef, by simp [upd, e18], rfl, trivial, hC⟩
    | 24, _ =>
      have e18 : z 18 = .bool false := hdp 18 (dep_of (by kernel_rfl))
      refine wpOp_step rfl (fun K hK => ?_)
      clear hdp
      go_simp
      exact hK _ _ ⟨undef, by simp [upd, e18], rfl, trivial, hC⟩
    | 25, _ =>
      have e18 : z 18 = .bool false := hdp 18 (dep_of (by kernel_rfl))
      refine wpOp_step rfl (fun K hK => ?_)
      clear hdp
      go_simp
      exact hK _ _ ⟨undef, by simp [upd, e18], rfl, trivial, hC⟩
    | 26, _ =>
      have e18 : z 18 = .bool false := hdp 18 (dep_of (by kernel_rfl))
      refine wpOp_step rfl (fun K hK => ?_)
      clear hdp
      go_simp
      exact hK _ _ ⟨undef, by simp [upd, e18], rfl, trivial, hC⟩
    | 27, _ =>
      have e18 : z 18 = .bool false := hdp 18 (dep_of (by kernel_rfl))
      refine wpOp_step rfl (fun K hK => ?_)
      clear hdp
      go_simp
      exact hK _ _ ⟨undef, by simp [upd, e18], rfl, trivial, hC⟩
    | 28, _ =>
      have e18 : z 18 = .bool false := hdp 18 (dep_of (by kernel_rfl))
      refine wpOp_step rfl (fun K hK => ?_)
      clear hdp
      go_simp
      exact hK _ _ ⟨undef, by simp [upd, e18], rfl, trivial, hC⟩
    | 29, _ =>
      have e18 : z 18 = .bool false := hdp 18 (dep_of (by kernel_rfl))
      refine wpOp_step rfl (fun K hK => ?_)
      clear hdp
      go_simp
      exact hK _ _ ⟨undef, by simp [upd, e18], rfl, trivial, hC⟩
    | 30, _ =>
      have e18 : z 18 = .bool false := hdp 18 (dep_of (by kernel_rfl))
      refine wpOp_step rfl (fun K hK => ?_)
      clear hdp
      go_simp
      exact hK _ _ ⟨undef, by simp [upd, e18], rfl, trivial, hC⟩
    | 31, _ =>
      have e18 : z 18 = .bool false := hdp 18 (dep_of (by kernel_rfl))
      refine wpOp_step rfl (fun K hK => ?_)
      clear hdp
      go_simp
      exact hK _ _ ⟨undef, by simp [upd, e18], rfl, trivial, hC⟩
    | 32, _ =>
      have e18 : z 18 = .bool false := hdp 18 (dep_of (by kernel_rfl))
      have e31 : z 31 = undef := hdp 31 (dep_of (by kernel_rfl))
      refine wpOp_step rfl (fun K hK => ?_)
      clear hdp
      go_simp
      exact hK _ _ ⟨.bool false, by simp [upd, e18, e31], rfl, trivial, hC⟩
    | 33, _ =>
      have e32 : z 32 = .bool false := hdp 32 (dep_of (by kernel_rfl))
      refine wpOp_step rfl (fun K hK => ?_)
      clear hdp
      go_simp
      exact hK _ _ ⟨.bool false, by simp [upd, e32], rfl, trivial, hC⟩
    | 34, _ =>
      have e33 : z 33 = .bool false := hdp 33 (dep_of (by kernel_rfl))
      refine wpOp_step rfl (fun K hK => ?_)
      clear hdp
      go_simp
      exact hK _ _ ⟨undef, by simp [upd, e33], rfl, trivial, hC⟩
    | 35, _ =>
      have e33 : z 33 = .bool false := hdp 33 (dep_of (by kernel_rfl))
      refine wpOp_step rfl (fun K hK => ?_)
      clear hdp
      go_simp
      exact hK _ _ ⟨undef, by simp [upd, e33], rfl, trivial, hC⟩
    | 36, _ =>
      have e33 : z 33 = .bool false := hdp 33 (dep_of (by kernel_rfl))
      refine wpOp_step rfl (fun K hK => ?_)
      clear hdp
      go_simp
      exact hK _ _ ⟨undef, by simp [upd, e33], rfl, trivial, hC⟩
    | 37, _ =>
      have e33 : z 33 = .bool false := hdp 33 (dep_of (by kernel_rfl))
      refine wpOp_step rfl (fun K hK => ?_)
      clear hdp
      go_simp
      exact hK _ _ ⟨undef, by simp [upd, e33], rfl, trivial, hC⟩
    | 38, _ =>
      have e33 : z 33 = .bool false := hdp 33 (dep_of (by kernel_rfl))
      have e37 : z 37 = undef := hdp 37 (dep_of (by kernel_rfl))
      refine wpOp_step rfl (fun K hK => ?_)
      clear hdp
      go_simp
      exact hK _ _ ⟨.bool false, by simp [upd, e33, e37], rfl, trivial, hC⟩
    | 39, _ =>
      have e38 : z 38 = .bool false := hdp 38 (dep_of (by kernel_rfl))
      refine wpOp_step rfl (fun K hK => ?_)
      clear hdp
      go_simp
      exact hK _ _ ⟨.bool false, by simp [upd, e38], rfl, trivial, hC⟩
    | 40, _ =>
      have e39 : z 39 = .bool false := hdp 39 (dep_of (by kernel_rfl))
      refine wpOp_step rfl (fun K hK => ?_)
      clear hdp
      go_simp
      exact hK _ _ ⟨undef, by simp [upd, e39], rfl, trivial, hC⟩
    | 41, _ =>
      have e39 : z 39 = .bool false := hdp 39 (dep_of (by kernel_rfl))
      refine wpOp_step rfl (fun K hK => ?_)
      clear hdp
      go_simp
      exact hK _ _ ⟨undef, by simp [upd, e39], rfl, trivial, hC⟩
    | 42, _ =>
      have e39 : z 39 = .bool false := hdp 39 (dep_of (by kernel_rfl))
      refine wpOp_step rfl (fun K hK => ?_)
      clear hdp
      go_simp
      exact hK _ _ ⟨undef, by simp [upd, e39], rfl, trivial, hC⟩
    | 43, _ =>
      have e39 : z 39 = .bool false := hdp 39 (dep_of (by kernel_rfl))
      refine wpOp_step rfl (fun K hK => ?_)
      clear hdp
      go_simp
      exact hK _ _ ⟨undef, by simp [upd, e39], rfl, trivial, hC⟩
    | 44, _ =>
      have e39 : z 39 = .bool false := hdp 39 (dep_of (by kernel_rfl))
      have e43 : z 43 = undef := hdp 43 (dep_of (by kernel_rfl))
      refine wpOp_step rfl (fun K hK => ?_)
      clear hdp
      go_simp
      exact hK _ _ ⟨.bool false, by simp [upd, e39, e43], rfl, trivial, hC⟩
    | n + 45, hn => exact absurd hn (by omega)
  · intro z w7 kk hkk hC hdp
    have e44 : z 44 = .bool false := hdp 44 (by decide)
    refine wpOp_step rfl (fun K hK => ?_)
    clear hdp
    go_simp
    refine hK _ _ ?_
    clear hK K e44
    have HBw := Lib.hid (HX.out w7 hC).1
    clear hC
    go_wp2
    go_ret
    exact ⟨rfl, HBw.out⟩

set_option maxRecDepth 100000 in
set_option maxHeartbeats 3200000 in
theorem spec_right3 (key : Int) (p : ByteArray) (u : Bool) (t n c now last : Int) (w : World) (hp : p.size ≤ maxLen) (h0 : decide (1 ≤ key ∧ key ≤ 9999) = true) (h1 : decide (0 ≤ t ∧ t ≤ 999999) = true) (h2 : decide (0 ≤ n ∧ n ≤ 999999) = true) (h3 : ¬ p.size ≤ 40) :
    Calls Tryd.prog 11 #[.int .i64 key, .agg #[.string p, .bool u, .int .i64 t, .int .i64 n, .int .i64 c], .int .i64 now, .int .i64 last] w fun e w' => e = .returned (.bool false) ∧ Below w.heap.size w w' := by
  have hk := fun W => sl_in key 1 9999 W
  rw [h0] at hk
  have HK := Lib.hid fun W => (hk W).mono fun e w' (h : e = _ ∧ W = w') => (And.intro h.1 (h.2 ▸ Below.refl _ _) : e = _ ∧ Below W.heap.size W w')
  have ht := fun W => sl_in t 0 999999 W
  rw [h1] at ht
  have HT := Lib.hid fun W => (ht W).mono fun e w' (h : e = _ ∧ W = w') => (And.intro h.1 (h.2 ▸ Below.refl _ _) : e = _ ∧ Below W.heap.size W w')
  have hn := fun W => sl_in n 0 999999 W
  rw [h2] at hn
  have HN := Lib.hid fun W => (hn W).mono fun e w' (h : e = _ ∧ W = w') => (And.intro h.1 (h.2 ▸ Below.refl _ _) : e = _ ∧ Below W.heap.size W w')
  unfold maxLen at hp
  have hs' : decide ((p.size : Int) ≤ 40) = false := by simp; omega
  obtain ⟨wA, hwA⟩ : ∃ wA, wA = w.alloc (.cells #[.string p, .bool u, .int .i64 t, .int .i64 n, .int .i64 c] 29) := ⟨_, rfl⟩
  have hsA : wA.heap.size = w.heap.size + 1 := by rw [hwA]; simp
  have hbA : Below w.heap.size w wA := by rw [hwA]; exact (Below.refl _ _).alloc (Nat.le_refl _) _
  have hH : wA.heap[w.heap.size]? = some (.cells #[.string p, .bool u, .int .i64 t, .int .i64 n, .int .i64 c] 29 (0, 0)) := by rw [hwA]; exact heap_alloc_new w _
  have HX : Hid (∀ W, Below wA.heap.size wA W → Below w.heap.size w W ∧ W.heap[w.heap.size]? = some (.cells #[.string p, .bool u, .int .i64 t, .int .i64 n, .int .i64 c] 29 (0, 0))) := Lib.hid fun W hW =>
    ⟨hbA.trans (hW.mono (by omega)), (hW.block _ (by omega)).trans hH⟩
  have HW := Lib.hid hwA
  clear hwA hH hbA h0 hk h1 ht h2 hn
  go_enter Tryd.func11, Tryd.ntmps11
  go_wp2_with fail
  rw [← HW.out]
  refine wp_region_last (by kernel_rfl) 45 (by kernel_rfl) (by kernel_rfl) (by kernel_rfl)
    (fun z => { tmps := #[.int .i64 key, .agg #[.string p, .bool u, .int .i64 t, .int .i64 n, .int .i64 c], .int .i64 now, .int .i64 last, undef, .pointer (some ⟨w.heap.size, 0, none⟩), undef, undef, .bool false, z 0, z 1, z 2, z 3, z 4, z 5, z 6, z 7, z 8, z 9, z 10, z 11, z 12, z 13, z 14, z 15, z 16, z 17, z 18, z 19, z 20, z 21, z 22, z 23, z 24, z 25, z 26, z 27, z 28, z 29, z 30, z 31, z 32, z 33, z 34, z 35, z 36, z 37, z 38, z 39, z 40, z 41, z 42, z 43, z 44], defers := [] })
    (fun _ W => Below wA.heap.size wA W)
    (fun i xv _ => xv = ([.int .i64 key, .bool true, .bool true, .pointer (some ⟨w.heap.size, 2, none⟩), .int .i64 t, .bool true, .bool true, .bool true, .pointer (some ⟨w.heap.size, 3, none⟩), .int .i64 n, .bool true, .bool true, .bool true, .pointer (some ⟨w.heap.size, 0, none⟩), .string p, .int .i64 (p.size : Int), .bool false, .bool false, .bool false, undef, undef, undef, undef, undef, undef, undef, undef, undef, undef, undef, undef, undef, .bool false, .bool false, undef, undef, undef, undef, .bool false, .bool false, undef, undef, undef, undef, .bool false] : List Value).getD i undef)
    (fun _ _ => True) (fun _ => undef) (Below.refl _ _).drew
    (fun _ _ _ _ _ h _ => h) ?_ ?_
  · intro i hi z w7 kk hkk hC hdp
    match i, hi with
    | 0, _ =>
      refine wpOp_step rfl (fun K hK => ?_)
      clear hdp
      go_simp
      exact hK _ _ ⟨.int .i64 key, rfl, rfl, trivial, hC⟩
    | 1, _ =>
      have e0 : z 0 = .int .i64 key := hdp 0 (dep_of (by kernel_rfl))
      have hT := HK.out w7
      refine wpOp_step rfl (fun K hK => ?_)
      clear hdp
      go_simp
      refine hT.mono ?_
      rintro e w8 ⟨rfl, hb8⟩
      exact hK _ _ ⟨.bool true, by simp [upd, e0], rfl, trivial, hC.trans (hb8.mono hC.size)⟩
    | 2, _ =>
      have e1 : z 1 = .bool true := hdp 1 (dep_of (by kernel_rfl))
      refine wpOp_step rfl (fun K hK => ?_)
      clear hdp
      go_simp
      exact hK _ _ ⟨.bool true, by simp [upd, e1], rfl, trivial, hC⟩
    | 3, _ =>
      have e2 : z 2 = .bool true := hdp 2 (dep_of (by kernel_rfl))
      refine wpOp_step rfl (fun K hK => ?_)
      clear hdp
      go_simp
      exact hK _ _ ⟨.pointer (some ⟨w.heap.size, 2, none⟩), by simp [upd, e2], rfl, trivial, hC⟩
    | 4, _ =>
      obtain ⟨q0, q1, q2, q3, q4⟩ := sl_facts (HX.out w7 hC).2
      have e2 : z 2 = .bool true := hdp 2 (dep_of (by kernel_rfl))
      have e3 : z 3 = .pointer (some ⟨w.heap.size, 2, none⟩) := hdp 3 (dep_of (by kernel_rfl))
      refine wpOp_step rfl (fun K hK => ?_)
      clear hdp
      go_simp
      exact hK _ _ ⟨.int .i64 t, by simp [upd, e2, e3], rfl, trivial, hC⟩
    | 5, _ =>
      have e2 : z 2 = .bool true := hdp 2 (dep_of (by kernel_rfl))
      have e4 : z 4 = .int .i64 t := hdp 4 (dep_of (by kernel_rfl))
      have hT := HT.out w7
      refine wpOp_step rfl (fun K hK => ?_)
      clear hdp
      go_simp
      refine hT.mono ?_
      rintro e w8 ⟨rfl, hb8⟩
      exact hK _ _ ⟨.bool true, by simp [upd, e2, e4], rfl, trivial, hC.trans (hb8.mono hC.size)⟩
    | 6, _ =>
      have e2 : z 2 = .bool true := hdp 2 (dep_of (by kernel_rfl))
      have e5 : z 5 = .bool true := hdp 5 (dep_of (by kernel_rfl))
      refine wpOp_step rfl (fun K hK => ?_)
      clear hdp
      go_simp
      exact hK _ _ ⟨.bool true, by simp [upd, e2, e5], rfl, trivial, hC⟩
    | 7, _ =>
      have e6 : z 6 = .bool true := hdp 6 (dep_of (by kernel_rfl))
      refine wpOp_step rfl (fun K hK => ?_)
      clear hdp
      go_simp
      exact hK _ _ ⟨.bool true, by simp [upd, e6], rfl, trivial, hC⟩
    | 8, _ =>
      have e7 : z 7 = .bool true := hdp 7 (dep_of (by kernel_rfl))
      refine wpOp_step rfl (fun K hK => ?_)
      clear hdp
      go_simp
      exact hK _ _ ⟨.pointer (some ⟨w.heap.size, 3, none⟩), by simp [upd, e7], rfl, trivial, hC⟩
    | 9, _ =>
      obtain ⟨q0, q1, q2, q3, q4⟩ := sl_facts (HX.out w7 hC).2
      have e7 : z 7 = .bool true := hdp 7 (dep_of (by kernel_rfl))
      have e8 : z 8 = .pointer (some ⟨w.heap.size, 3, none⟩) := hdp 8 (dep_of (by kernel_rfl))
      refine wpOp_step rfl (fun K hK => ?_)
      clear hdp
      go_simp
      exact hK _ _ ⟨.int .i64 n, by simp [upd, e7, e8], rfl, trivial, hC⟩
    | 10, _ =>
      have e7 : z 7 = .bool true := hdp 7 (dep_of (by kernel_rfl))
      have e9 : z 9 = .int .i64 n := hdp 9 (dep_of (by kernel_rfl))
      have hT := HN.out w7
      refine wpOp_step rfl (fun K hK => ?_)
      clear hdp
      go_simp
      refine hT.mono ?_
      rintro e w8 ⟨rfl, hb8⟩
      exact hK _ _ ⟨.bool true, by simp [upd, e7, e9], rfl, trivial, hC.trans (hb8.mono hC.size)⟩
    | 11, _ =>
      have e7 : z 7 = .bool true := hdp 7 (dep_of (by kernel_rfl))
      have e10 : z 10 = .bool true := hdp 10 (dep_of (by kernel_rfl))
      refine wpOp_step rfl (fun K hK => ?_)
      clear hdp
      go_simp
      exact hK _ _ ⟨.bool true, by simp [upd, e7, e10], rfl, trivial, hC⟩
    | 12, _ =>
      have e11 : z 11 = .bool true := hdp 11 (dep_of (by kernel_rfl))
      refine wpOp_step rfl (fun K hK => ?_)
      clear hdp
      go_simp
      exact hK _ _ ⟨.bool true, by simp [upd, e11], rfl, trivial, hC⟩
    | 13, _ =>
      have e12 : z 12 = .bool true := hdp 12 (dep_of (by kernel_rfl))
      refine wpOp_step rfl (fun K hK => ?_)
      clear hdp
      go_simp
      exact hK _ _ ⟨.pointer (some ⟨w.heap.size, 0, none⟩), by simp [upd, e12], rfl, trivial, hC⟩
    | 14, _ =>
      obtain ⟨q0, q1, q2, q3, q4⟩ := sl_facts (HX.out w7 hC).2
      have e12 : z 12 = .bool true := hdp 12 (dep_of (by kernel_rfl))
      have e13 : z 13 = .pointer (some ⟨w.heap.size, 0, none⟩) := hdp 13 (dep_of (by kernel_rfl))
      refine wpOp_step rfl (fun K hK => ?_)
      clear hdp
      go_simp
      exact hK _ _ ⟨.string p, by simp [upd, e12, e13], rfl, trivial, hC⟩
    | 15, _ =>
      have e12 : z 12 = .bool true := hdp 12 (dep_of (by kernel_rfl))
      have e14 : z 14 = .string p := hdp 14 (dep_of (by kernel_rfl))
      refine wpOp_step rfl (fun K hK => ?_)
      clear hdp
      go_simp
      exact hK _ _ ⟨.int .i64 (p.size : Int), by simp [upd, e12, e14], rfl, trivial, hC⟩
    | 16, _ =>
      have e12 : z 12 = .bool true := hdp 12 (dep_of (by kernel_rfl))
      have e15 : z 15 = .int .i64 (p.size : Int) := hdp 15 (dep_of (by kernel_rfl))
      refine wpOp_step rfl (fun K hK => ?_)
      clear hdp
      go_simp
      exact hK _ _ ⟨.bool false, by simp [upd, e12, e15], rfl, trivial, hC⟩
    | 17, _ =>
      have e12 : z 12 = .bool true := hdp 12 (dep_of (by kernel_rfl))
      have e16 : z 16 = .bool false := hdp 16 (dep_of (by kernel_rfl))
      refine wpOp_step rfl (fun K hK => ?_)
      clear hdp
      go_simp
      exact hK _ _ ⟨.bool false, by simp [upd, e12, e16], rfl, trivial, hC⟩
    | 18, _ =>
      have e17 : z 17 = .bool false := hdp 17 (dep_of (by kernel_rfl))
      refine wpOp_step rfl (fun K hK => ?_)
      clear hdp
      go_simp
      exact hK _ _ ⟨.bool false, by simp [upd, e17], rfl, trivial, hC⟩
    | 19, _ =>
      have e18 : z 18 = .bool false := hdp 18 (dep_of (by kernel_rfl))
      refine wpOp_step rfl (fun K hK => ?_)
      clear hdp
      go_simp
      exact hK _ _ ⟨undef, by simp [upd, e18], rfl, trivial, hC⟩
    | 20, _ =>
      have e18 : z 18 = .bool false := hdp 18 (dep_of (by kernel_rfl))
      refine wpOp_step rfl (fun K hK => ?_)
      clear hdp
      go_simp
      exact hK _ _ ⟨undef, by simp [upd, e18], rfl, trivial, hC⟩
    | 21, _ =>
      have e18 : z 18 = .bool false := hdp 18 (dep_of (by kernel_rfl))
      refine wpOp_step rfl (fun K hK => ?_)
      clear hdp
      go_simp
      exact hK _ _ ⟨undef, by simp [upd, e18], rfl, trivial, hC⟩
    | 22, _ =>
      have e18 : z 18 = .bool false := hdp 18 (dep_of (by kernel_rfl))
      refine wpOp_step rfl (fun K hK => ?_)
      clear hdp
      go_simp
      exact hK _ _ ⟨undef, by simp [upd, e18], rfl, trivial, hC⟩
    | 23, _ =>
      have e18 : z 18 = .bool false := hdp 18 (dep_of (by kernel_rfl))
      refine wpOp_step rfl (fun K hK => ?_)
      clear hdp
      go_simp
      exact hK _ _ ⟨undef, by simp [upd, e18], rfl, trivial, hC⟩
    | 24, _ =>
      have e18 : z 18 = .bool false := hdp 18 (dep_of (by kernel_rfl))
      refine wpOp_step rfl (fun K hK => ?_)
      clear hdp
      go_simp
      exact hK _ _ ⟨undef, by simp [upd, e18], rfl, trivial, hC⟩
    | 25, _ =>
      have e18 : z 18 = .bool false := hdp 18 (dep_of (by kernel_rfl))
      refine wpOp_step rfl (fun K hK => ?_)
      clear hdp
      go_simp
      exact hK _ _ ⟨undef, by simp [upd, e18], rfl, trivial, hC⟩
    | 26, _ =>
      have e18 : z 18 = .bool false := hdp 18 (dep_of (by kernel_rfl))
      refine wpOp_step rfl (fun K hK => ?_)
      clear hdp
      go_simp
      exact hK _ _ ⟨undef, by simp [upd, e18], rfl, trivial, hC⟩
    | 27, _ =>
      have e18 : z 18 = .bool false := hdp 18 (dep_of (by kernel_rfl))
      refine wpOp_step rfl (fun K hK => ?_)
      clear hdp
      go_simp
      exact hK _ _ ⟨undef, by simp [upd, e18], rfl, trivial, hC⟩
    | 28, _ =>
      have e18 : z 18 = .bool false := hdp 18 (dep_of (by kernel_rfl))
      refine wpOp_step rfl (fun K hK => ?_)
      clear hdp
      go_simp
      exact hK _ _ ⟨undef, by simp [upd, e18], rfl, trivial, hC⟩
    | 29, _ =>
      have e18 : z 18 = .bool false := hdp 18 (dep_of (by kernel_rfl))
      refine wpOp_step rfl (fun K hK => ?_)
      clear hdp
      go_simp
      exact hK _ _ ⟨undef, by simp [upd, e18], rfl, trivial, hC⟩
    | 30, _ =>
      have e18 : z 18 = .bool false := hdp 18 (dep_of (by kernel_rfl))
      refine wpOp_step rfl (fun K hK => ?_)
      clear hdp
      go_simp
      exact hK _ _ ⟨undef, by simp [upd, e18], rfl, trivial, hC⟩
    | 31, _ =>
      have e18 : z 18 = .bool false := hdp 18 (dep_of (by kernel_rfl))
      refine wpOp_step rfl (fun K hK => ?_)
      clear hdp
      go_simp
      exact hK _ _ ⟨undef, by simp [upd, e18], rfl, trivial, hC⟩
    | 32, _ =>
      have e18 : z 18 = .bool false := hdp 18 (dep_of (by kernel_rfl))
      have e31 : z 31 = undef := hdp 31 (dep_of (by kernel_rfl))
      refine wpOp_step rfl (fun K hK => ?_)
      clear hdp
      go_simp
      exact hK _ _ ⟨.bool false, by simp [upd, e18, e31], rfl, trivial, hC⟩
    | 33, _ =>
      have e32 : z 32 = .bool false := hdp 32 (dep_of (by kernel_rfl))
      refine wpOp_step rfl (fun K hK => ?_)
      clear hdp
      go_simp
      exact hK _ _ ⟨.bool false, by simp [upd, e32], rfl, trivial, hC⟩
    | 34, _ =>
      have e33 : z 33 = .bool false := hdp 33 (dep_of (by kernel_rfl))
      refine wpOp_step rfl (fun K hK => ?_)
      clear hdp
      go_simp
      exact hK _ _ ⟨undef, by simp [upd, e33], rfl, trivial, hC⟩
    | 35, _ =>
      have e33 : z 33 = .bool false := hdp 33 (dep_of (by kernel_rfl))
      refine wpOp_step rfl (fun K hK => ?_)
      clear hdp
      go_simp
      exact hK _ _ ⟨undef, by simp [upd, e33], rfl, trivial, hC⟩
    | 36, _ =>
      have e33 : z 33 = .bool false := hdp 33 (dep_of (by kernel_rfl))
      refine wpOp_step rfl (fun K hK => ?_)
      clear hdp
      go_simp
      exact hK _ _ ⟨undef, by simp [upd, e33], rfl, trivial, hC⟩
    | 37, _ =>
      have e33 : z 33 = .bool false := hdp 33 (dep_of (by kernel_rfl))
      refine wpOp_step rfl (fun K hK => ?_)
      clear hdp
      go_simp
      exact hK _ _ ⟨undef, by simp [upd, e33], rfl, trivial, hC⟩
    | 38, _ =>
      have e33 : z 33 = .bool false := hdp 33 (dep_of (by kernel_rfl))
      have e37 : z 37 = undef := hdp 37 (dep_of (by kernel_rfl))
      refine wpOp_step rfl (fun K hK => ?_)
      clear hdp
      go_simp
      exact hK _ _ ⟨.bool false, by simp [upd, e33, e37], rfl, trivial, hC⟩
    | 39, _ =>
      have e38 : z 38 = .bool false := hdp 38 (dep_of (by kernel_rfl))
      refine wpOp_step rfl (fun K hK => ?_)
      clear hdp
      go_simp
      exact hK _ _ ⟨.bool false, by simp [upd, e38], rfl, trivial, hC⟩
    | 40, _ =>
      have e39 : z 39 = .bool false := hdp 39 (dep_of (by kernel_rfl))
      refine wpOp_step rfl (fun K hK => ?_)
      clear hdp
      go_simp
      exact hK _ _ ⟨undef, by simp [upd, e39], rfl, trivial, hC⟩
    | 41, _ =>
      have e39 : z 39 = .bool false := hdp 39 (dep_of (by kernel_rfl))
      refine wpOp_step rfl (fun K hK => ?_)
      clear hdp
      go_simp
      exact hK _ _ ⟨undef, by simp [upd, e39], rfl, trivial, hC⟩
    | 42, _ =>
      have e39 : z 39 = .bool false := hdp 39 (dep_of (by kernel_rfl))
      refine wpOp_step rfl (fun K hK => ?_)
      clear hdp
      go_simp
      exact hK _ _ ⟨undef, by simp [upd, e39], rfl, trivial, hC⟩
    | 43, _ =>
      have e39 : z 39 = .bool false := hdp 39 (dep_of (by kernel_rfl))
      refine wpOp_step rfl (fun K hK => ?_)
      clear hdp
      go_simp
      exact hK _ _ ⟨undef, by simp [upd, e39], rfl, trivial, hC⟩
    | 44, _ =>
      have e39 : z 39 = .bool false := hdp 39 (dep_of (by kernel_rfl))
      have e43 : z 43 = undef := hdp 43 (dep_of (by kernel_rfl))
      refine wpOp_step rfl (fun K hK => ?_)
      clear hdp
      go_simp
      exact hK _ _ ⟨.bool false, by simp [upd, e39, e43], rfl, trivial, hC⟩
    | n + 45, hn => exact absurd hn (by omega)
  · intro z w7 kk hkk hC hdp
    have e44 : z 44 = .bool false := hdp 44 (by decide)
    refine wpOp_step rfl (fun K hK => ?_)
    clear hdp
    go_simp
    refine hK _ _ ?_
    clear hK K e44
    have HBw := Lib.hid (HX.out w7 hC).1
    clear hC
    go_wp2
    go_ret
    exact ⟨rfl, HBw.out⟩

set_option maxRecDepth 100000 in
set_option maxHeartbeats 3200000 in
theorem spec_right4 (key : Int) (p : ByteArray) (u : Bool) (t n c now last : Int) (w : World) (hp : p.size ≤ maxLen) (h0 : decide (1 ≤ key ∧ key ≤ 9999) = true) (h1 : decide (0 ≤ t ∧ t ≤ 999999) = true) (h2 : decide (0 ≤ n ∧ n ≤ 999999) = true) (h3 : p.size ≤ 40) (h4 : ¬ c = selS key p u t n) :
    Calls Tryd.prog 11 #[.int .i64 key, .agg #[.string p, .bool u, .int .i64 t, .int .i64 n, .int .i64 c], .int .i64 now, .int .i64 last] w fun e w' => e = .returned (.bool false) ∧ Below w.heap.size w w' := by
  have hk := fun W => sl_in key 1 9999 W
  rw [h0] at hk
  have HK := Lib.hid fun W => (hk W).mono fun e w' (h : e = _ ∧ W = w') => (And.intro h.1 (h.2 ▸ Below.refl _ _) : e = _ ∧ Below W.heap.size W w')
  have ht := fun W => sl_in t 0 999999 W
  rw [h1] at ht
  have HT := Lib.hid fun W => (ht W).mono fun e w' (h : e = _ ∧ W = w') => (And.intro h.1 (h.2 ▸ Below.refl _ _) : e = _ ∧ Below W.heap.size W w')
  have hn := fun W => sl_in n 0 999999 W
  rw [h2] at hn
  have HN := Lib.hid fun W => (hn W).mono fun e w' (h : e = _ ∧ W = w') => (And.intro h.1 (h.2 ▸ Below.refl _ _) : e = _ ∧ Below W.heap.size W w')
  have hv := fun W => spec_selof key p u t n W hp
  generalize selS key p u t n = V at *
  have hcc : (c == V) = false := by simpa using h4
  have HV := Lib.hid fun W => (hv W).mono fun e w' (h : e = _ ∧ W = w') => (And.intro h.1 (h.2 ▸ Below.refl _ _) : e = _ ∧ Below W.heap.size W w')
  unfold maxLen at hp
  have hs' : decide ((p.size : Int) ≤ 40) = true := by simp; omega
  obtain ⟨wA, hwA⟩ : ∃ wA, wA = w.alloc (.cells #[.string p, .bool u, .int .i64 t, .int .i64 n, .int .i64 c] 29) := ⟨_, rfl⟩
  have hsA : wA.heap.size = w.heap.size + 1 := by rw [hwA]; simp
  have hbA : Below w.heap.size w wA := by rw [hwA]; exact (Below.refl _ _).alloc (Nat.le_refl _) _
  have hH : wA.heap[w.heap.size]? = some (.cells #[.string p, .bool u, .int .i64 t, .int .i64 n, .int .i64 c] 29 (0, 0)) := by rw [hwA]; exact heap_alloc_new w _
  have HX : Hid (∀ W, Below wA.heap.size wA W → Below w.heap.size w W ∧ W.heap[w.heap.size]? = some (.cells #[.string p, .bool u, .int .i64 t, .int .i64 n, .int .i64 c] 29 (0, 0))) := Lib.hid fun W hW =>
    ⟨hbA.trans (hW.mono (by omega)), (hW.block _ (by omega)).trans hH⟩
  have HW := Lib.hid hwA
  clear hwA hH hbA h0 hk h1 ht h2 hn h4 hv
  go_enter Tryd.func11, Tryd.ntmps11
  go_wp2_with fail
  rw [← HW.out]
  refine wp_region_last (by kernel_rfl) 45 (by kernel_rfl) (by kernel_rfl) (by kernel_rfl)
    (fun z => { tmps := #[.int .i64 key, .agg #[.string p, .bool u, .int .i64 t, .int .i64 n, .int .i64 c], .int .i64 now, .int .i64 last, undef, .pointer (some ⟨w.heap.size, 0, none⟩), undef, undef, .bool false, z 0, z 1, z 2, z 3, z 4, z 5, z 6, z 7, z 8, z 9, z 10, z 11, z 12, z 13, z 14, z 15, z 16, z 17, z 18, z 19, z 20, z 21, z 22, z 23, z 24, z 25, z 26, z 27, z 28, z 29, z 30, z 31, z 32, z 33, z 34, z 35, z 36, z 37, z 38, z 39, z 40, z 41, z 42, z 43, z 44], defers := [] })
    (fun _ W => Below wA.heap.size wA W)
    (fun i xv _ => xv = ([.int .i64 key, .bool true, .bool true, .pointer (some ⟨w.heap.size, 2, none⟩), .int .i64 t, .bool true, .bool true, .bool true, .pointer (some ⟨w.heap.size, 3, none⟩), .int .i64 n, .bool true, .bool true, .bool true, .pointer (some ⟨w.heap.size, 0, none⟩), .string p, .int .i64 (p.size : Int), .bool true, .bool true, .bool true, .pointer (some ⟨w.heap.size, 4, none⟩), .int .i64 c, .int .i64 key, .pointer (some ⟨w.heap.size, 0, none⟩), .string p, .pointer (some ⟨w.heap.size, 1, none⟩), .bool u, .pointer (some ⟨w.heap.size, 2, none⟩), .int .i64 t, .pointer (some ⟨w.heap.size, 3, none⟩), .int .i64 n, .int .i64 V, .bool false, .bool false, .bool false, undef, undef, undef, undef, .bool false, .bool false, undef, undef, undef, undef, .bool false] : List Value).getD i undef)
    (fun _ _ => True) (fun _ => undef) (Below.refl _ _).drew
    (fun _ _ _ _ _ h _ => h) ?_ ?_
  · intro i hi z w7 kk hkk hC hdp
    match i, hi with
    | 0, _ =>
      refine wpOp_step rfl (fun K hK => ?_)
      clear hdp
      go_simp
      exact hK _ _ ⟨.int .i64 key, rfl, rfl, trivial, hC⟩
    | 1, _ =>
      have e0 : z 0 = .int .i64 key := hdp 0 (dep_of (by kernel_rfl))
      have hT := HK.out w7
      refine wpOp_step rfl (fun K hK => ?_)
      clear hdp
      go_simp
      refine hT.mono ?_
      rintro e w8 ⟨rfl, hb8⟩
      exact hK _ _ ⟨.bool true, by simp [upd, e0], rfl, trivial, hC.trans (hb8.mono hC.size)⟩
    | 2, _ =>
      have e1 : z 1 = .bool true := hdp 1 (dep_of (by kernel_rfl))
      refine wpOp_step rfl (fun K hK => ?_)
      clear hdp
      go_simp
      exact hK _ _ ⟨.bool true, by simp [upd, e1], rfl, trivial, hC⟩
    | 3, _ =>
      have e2 : z 2 = .bool true := hdp 2 (dep_of (by kernel_rfl))
      refine wpOp_step rfl (fun K hK => ?_)
      clear hdp
      go_simp
      exact hK _ _ ⟨.pointer (some ⟨w.heap.size, 2, none⟩), by simp [upd, e2], rfl, trivial, hC⟩
    | 4, _ =>
      obtain ⟨q0, q1, q2, q3, q4⟩ := sl_facts (HX.out w7 hC).2
      have e2 : z 2 = .bool true := hdp 2 (dep_of (by kernel_rfl))
      have e3 : z 3 = .pointer (some ⟨w.heap.size, 2, none⟩) := hdp 3 (dep_of (by kernel_rfl))
      refine wpOp_step rfl (fun K hK => ?_)
      clear hdp
      go_simp
      exact hK _ _ ⟨.int .i64 t, by simp [upd, e2, e3], rfl, trivial, hC⟩
    | 5, _ =>
      have e2 : z 2 = .bool true := hdp 2 (dep_of (by kernel_rfl))
      have e4 : z 4 = .int .i64 t := hdp 4 (dep_of (by kernel_rfl))
      have hT := HT.out w7
      refine wpOp_step rfl (fun K hK => ?_)
      clear hdp
      go_simp
      refine hT.mono ?_
      rintro e w8 ⟨rfl, hb8⟩
      exact hK _ _ ⟨.bool true, by simp [upd, e2, e4], rfl, trivial, hC.trans (hb8.mono hC.size)⟩
    | 6, _ =>
      have e2 : z 2 = .bool true := hdp 2 (dep_of (by kernel_rfl))
      have e5 : z 5 = .bool true := hdp 5 (dep_of (by kernel_rfl))
      refine wpOp_step rfl (fun K hK => ?_)
      clear hdp
      go_simp
      exact hK _ _ ⟨.bool true, by simp [upd, e2, e5], rfl, trivial, hC⟩
    | 7, _ =>
      have e6 : z 6 = .bool true := hdp 6 (dep_of (by kernel_rfl))
      refine wpOp_step rfl (fun K hK => ?_)
      clear hdp
      go_simp
      exact hK _ _ ⟨.bool true, by simp [upd, e6], rfl, trivial, hC⟩
    | 8, _ =>
      have e7 : z 7 = .bool true := hdp 7 (dep_of (by kernel_rfl))
      refine wpOp_step rfl (fun K hK => ?_)
      clear hdp
      go_simp
      exact hK _ _ ⟨.pointer (some ⟨w.heap.size, 3, none⟩), by simp [upd, e7], rfl, trivial, hC⟩
    | 9, _ =>
      obtain ⟨q0, q1, q2, q3, q4⟩ := sl_facts (HX.out w7 hC).2
      have e7 : z 7 = .bool true := hdp 7 (dep_of (by kernel_rfl))
      have e8 : z 8 = .pointer (some ⟨w.heap.size, 3, none⟩) := hdp 8 (dep_of (by kernel_rfl))
      refine wpOp_step rfl (fun K hK => ?_)
      clear hdp
      go_simp
      exact hK _ _ ⟨.int .i64 n, by simp [upd, e7, e8], rfl, trivial, hC⟩
    | 10, _ =>
      have e7 : z 7 = .bool true := hdp 7 (dep_of (by kernel_rfl))
      have e9 : z 9 = .int .i64 n := hdp 9 (dep_of (by kernel_rfl))
      have hT := HN.out w7
      refine wpOp_step rfl (fun K hK => ?_)
      clear hdp
      go_simp
      refine hT.mono ?_
      rintro e w8 ⟨rfl, hb8⟩
      exact hK _ _ ⟨.bool true, by simp [upd, e7, e9], rfl, trivial, hC.trans (hb8.mono hC.size)⟩
    | 11, _ =>
      have e7 : z 7 = .bool true := hdp 7 (dep_of (by kernel_rfl))
      have e10 : z 10 = .bool true := hdp 10 (dep_of (by kernel_rfl))
      refine wpOp_step rfl (fun K hK => ?_)
      clear hdp
      go_simp
      exact hK _ _ ⟨.bool true, by simp [upd, e7, e10], rfl, trivial, hC⟩
    | 12, _ =>
      have e11 : z 11 = .bool true := hdp 11 (dep_of (by kernel_rfl))
      refine wpOp_step rfl (fun K hK => ?_)
      clear hdp
      go_simp
      exact hK _ _ ⟨.bool true, by simp [upd, e11], rfl, trivial, hC⟩
    | 13, _ =>
      have e12 : z 12 = .bool true := hdp 12 (dep_of (by kernel_rfl))
      refine wpOp_step rfl (fun K hK => ?_)
      clear hdp
      go_simp
      exact hK _ _ ⟨.pointer (some ⟨w.heap.size, 0, none⟩), by simp [upd, e12], rfl, trivial, hC⟩
    | 14, _ =>
      obtain ⟨q0, q1, q2, q3, q4⟩ := sl_facts (HX.out w7 hC).2
      have e12 : z 12 = .bool true := hdp 12 (dep_of (by kernel_rfl))
      have e13 : z 13 = .pointer (some ⟨w.heap.size, 0, none⟩) := hdp 13 (dep_of (by kernel_rfl))
      refine wpOp_step rfl (fun K hK => ?_)
      clear hdp
      go_simp
      exact hK _ _ ⟨.string p, by simp [upd, e12, e13], rfl, trivial, hC⟩
    | 15, _ =>
      have e12 : z 12 = .bool true := hdp 12 (dep_of (by kernel_rfl))
      have e14 : z 14 = .string p := hdp 14 (dep_of (by kernel_rfl))
      refine wpOp_step rfl (fun K hK => ?_)
      clear hdp
      go_simp
      exact hK _ _ ⟨.int .i64 (p.size : Int), by simp [upd, e12, e14], rfl, trivial, hC⟩
    | 16, _ =>
      have e12 : z 12 = .bool true := hdp 12 (dep_of (by kernel_rfl))
      have e15 : z 15 = .int .i64 (p.size : Int) := hdp 15 (dep_of (by kernel_rfl))
      refine wpOp_step rfl (fun K hK => ?_)
      clear hdp
      go_simp
      exact hK _ _ ⟨.bool true, by simp [upd, e12, e15], rfl, trivial, hC⟩
    | 17, _ =>
      have e12 : z 12 = .bool true := hdp 12 (dep_of (by kernel_rfl))
      have e16 : z 16 = .bool true := hdp 16 (dep_of (by kernel_rfl))
      refine wpOp_step rfl (fun K hK => ?_)
      clear hdp
      go_simp
      exact hK _ _ ⟨.bool true, by simp [upd, e12, e16], rfl, trivial, hC⟩
    | 18, _ =>
      have e17 : z 17 = .bool true := hdp 17 (dep_of (by kernel_rfl))
      refine wpOp_step rfl (fun K hK => ?_)
      clear hdp
      go_simp
      exact hK _ _ ⟨.bool true, by simp [upd, e17], rfl, trivial, hC⟩
    | 19, _ =>
      have e18 : z 18 = .bool true := hdp 18 (dep_of (by kernel_rfl))
      refine wpOp_step rfl (fun K hK => ?_)
      clear hdp
      go_simp
      exact hK _ _ ⟨.pointer (some ⟨w.heap.size, 4, none⟩), by simp [upd, e18], rfl, trivial, hC⟩
    | 20, _ =>
      obtain ⟨q0, q1, q2, q3, q4⟩ := sl_facts (HX.out w7 hC).2
      have e18 : z 18 = .bool true := hdp 18 (dep_of (by kernel_rfl))
      have e19 : z 19 = .pointer (some ⟨w.heap.size, 4, none⟩) := hdp 19 (dep_of (by kernel_rfl))
      refine wpOp_step rfl (fun K hK => ?_)
      clear hdp
      go_simp
      exact hK _ _ ⟨.int .i64 c, by simp [upd, e18, e19], rfl, trivial, hC⟩
    | 21, _ =>
      have e18 : z 18 = .bool true := hdp 18 (dep_of (by kernel_rfl))
      refine wpOp_step rfl (fun K hK => ?_)
      clear hdp
      go_simp
      exact hK _ _ ⟨.int .i64 key, by simp [upd, e18], rfl, trivial, hC⟩
    | 22, _ =>
      have e18 : z 18 = .bool true := hdp 18 (dep_of (by kernel_rfl))
      refine wpOp_step rfl (fun K hK => ?_)
      clear hdp
      go_simp
      exact hK _ _ ⟨.pointer (some ⟨w.heap.size, 0, none⟩), by simp [upd, e18], rfl, trivial, hC⟩
    | 23, _ =>
      obtain ⟨q0, q1, q2, q3, q4⟩ := sl_facts (HX.out w7 hC).2
      have e18 : z 18 = .bool true := hdp 18 (dep_of (by kernel_rfl))
      have e22 : z 22 = .pointer (some ⟨w.heap.size, 0, none⟩) := hdp 22 (dep_of (by kernel_rfl))
      refine wpOp_step rfl (fun K hK => ?_)
      clear hdp
      go_simp
      exact hK _ _ ⟨.string p, by simp [upd, e18, e22], rfl, trivial, hC⟩
    | 24, _ =>
      have e18 : z 18 = .bool true := hdp 18 (dep_of (by kernel_rfl))
      refine wpOp_step rfl (fun K hK => ?_)
      clear hdp
      go_simp
      exact hK _ _ ⟨.pointer (some ⟨w.heap.size, 1, none⟩), by simp [upd, e18], rfl, trivial, hC⟩
    | 25, _ =>
      obtain ⟨q0, q1, q2, q3, q4⟩ := sl_facts (HX.out w7 hC).2
      have e18 : z 18 = .bool true := hdp 18 (dep_of (by kernel_rfl))
      have e24 : z 24 = .pointer (some ⟨w.heap.size, 1, none⟩) := hdp 24 (dep_of (by kernel_rfl))
      refine wpOp_step rfl (fun K hK => ?_)
      clear hdp
      go_simp
      exact hK _ _ ⟨.bool u, by simp [upd, e18, e24], rfl, trivial, hC⟩
    | 26, _ =>
      have e18 : z 18 = .bool true := hdp 18 (dep_of (by kernel_rfl))
      refine wpOp_step rfl (fun K hK => ?_)
      clear hdp
      go_simp
      exact hK _ _ ⟨.pointer (some ⟨w.heap.size, 2, none⟩), by simp [upd, e18], rfl, trivial, hC⟩
    | 27, _ =>
      obtain ⟨q0, q1, q2, q3, q4⟩ := sl_facts (HX.out w7 hC).2
      have e18 : z 18 = .bool true := hdp 18 (dep_of (by kernel_rfl))
      have e26 : z 26 = .pointer (some ⟨w.heap.size, 2, none⟩) := hdp 26 (dep_of (by kernel_rfl))
      refine wpOp_step rfl (fun K hK => ?_)
      clear hdp
      go_simp
      exact hK _ _ ⟨.int .i64 t, by simp [upd, e18, e26], rfl, trivial, hC⟩
    | 28, _ =>
      have e18 : z 18 = .bool true := hdp 18 (dep_of (by kernel_rfl))
      refine wpOp_step rfl (fun K hK => ?_)
      clear hdp
      go_simp
      exact hK _ _ ⟨.pointer (some ⟨w.heap.size, 3, none⟩), by simp [upd, e18], rfl, trivial, hC⟩
    | 29, _ =>
      obtain ⟨q0, q1, q2, q3, q4⟩ := sl_facts (HX.out w7 hC).2
      have e18 : z 18 = .bool true := hdp 18 (dep_of (by kernel_rfl))
      have e28 : z 28 = .pointer (some ⟨w.heap.size, 3, none⟩) := hdp 28 (dep_of (by kernel_rfl))
      refine wpOp_step rfl (fun K hK => ?_)
      clear hdp
      go_simp
      exact hK _ _ ⟨.int .i64 n, by simp [upd, e18, e28], rfl, trivial, hC⟩
    | 30, _ =>
      have e18 : z 18 = .bool true := hdp 18 (dep_of (by kernel_rfl))
      have e21 : z 21 = .int .i64 key := hdp 21 (dep_of (by kernel_rfl))
      have e23 : z 23 = .string p := hdp 23 (dep_of (by kernel_rfl))
      have e25 : z 25 = .bool u := hdp 25 (dep_of (by kernel_rfl))
      have e27 : z 27 = .int .i64 t := hdp 27 (dep_of (by kernel_rfl))
      have e29 : z 29 = .int .i64 n := hdp 29 (dep_of (by kernel_rfl))
      have hT := HV.out w7
      refine wpOp_step rfl (fun K hK => ?_)
      clear hdp
      go_simp
      refine hT.mono ?_
      rintro e w8 ⟨rfl, hb8⟩
      exact hK _ _ ⟨.int .i64 V, by simp [upd, e18, e21, e23, e25, e27, e29], rfl, trivial, hC.trans (hb8.mono hC.size)⟩
    | 31, _ =>
      have e18 : z 18 = .bool true := hdp 18 (dep_of (by kernel_rfl))
      have e20 : z 20 = .int .i64 c := hdp 20 (dep_of (by kernel_rfl))
      have e30 : z 30 = .int .i64 V := hdp 30 (dep_of (by kernel_rfl))
      refine wpOp_step rfl (fun K hK => ?_)
      clear hdp
      go_simp
      exact hK _ _ ⟨.bool false, by simp [upd, e18, e20, e30], rfl, trivial, hC⟩
    | 32, _ =>
      have e18 : z 18 = .bool true := hdp 18 (dep_of (by kernel_rfl))
      have e31 : z 31 = .bool false := hdp 31 (dep_of (by kernel_rfl))
      refine wpOp_step rfl (fun K hK => ?_)
      clear hdp
      go_simp
      exact hK _ _ ⟨.bool false, by simp [upd, e18, e31], rfl, trivial, hC⟩
    | 33, _ =>
      have e32 : z 32 = .bool false := hdp 32 (dep_of (by kernel_rfl))
      refine wpOp_step rfl (fun K hK => ?_)
      clear hdp
      go_simp
      exact hK _ _ ⟨.bool false, by simp [upd, e32], rfl, trivial, hC⟩
    | 34, _ =>
      have e33 : z 33 = .bool false := hdp 33 (dep_of (by kernel_rfl))
      refine wpOp_step rfl (fun K hK => ?_)
      clear hdp
      go_simp
      exact hK _ _ ⟨undef, by simp [upd, e33], rfl, trivial, hC⟩
    | 35, _ =>
      have e33 : z 33 = .bool false := hdp 33 (dep_of (by kernel_rfl))
      refine wpOp_step rfl (fun K hK => ?_)
      clear hdp
      go_simp
      exact hK _ _ ⟨undef, by simp [upd, e33], rfl, trivial, hC⟩
    | 36, _ =>
      have e33 : z 33 = .bool false := hdp 33 (dep_of (by kernel_rfl))
      refine wpOp_step rfl (fun K hK => ?_)
      clear hdp
      go_simp
      exact hK _ _ ⟨undef, by simp [upd, e33], rfl, trivial, hC⟩
    | 37, _ =>
      have e33 : z 33 = .bool false := hdp 33 (dep_of (by kernel_rfl))
      refine wpOp_step rfl (fun K hK => ?_)
      clear hdp
      go_simp
      exact hK _ _ ⟨undef, by simp [upd, e33], rfl, trivial, hC⟩
    | 38, _ =>
      have e33 : z 33 = .bool false := hdp 33 (dep_of (by kernel_rfl))
      have e37 : z 37 = undef := hdp 37 (dep_of (by kernel_rfl))
      refine wpOp_step rfl (fun K hK => ?_)
      clear hdp
      go_simp
      exact hK _ _ ⟨.bool false, by simp [upd, e33, e37], rfl, trivial, hC⟩
    | 39, _ =>
      have e38 : z 38 = .bool false := hdp 38 (dep_of (by kernel_rfl))
      refine wpOp_step rfl (fun K hK => ?_)
      clear hdp
      go_simp
      exact hK _ _ ⟨.bool false, by simp [upd, e38], rfl, trivial, hC⟩
    | 40, _ =>
      have e39 : z 39 = .bool false := hdp 39 (dep_of (by kernel_rfl))
      refine wpOp_step rfl (fun K hK => ?_)
      clear hdp
      go_simp
      exact hK _ _ ⟨undef, by simp [upd, e39], rfl, trivial, hC⟩
    | 41, _ =>
      have e39 : z 39 = .bool false := hdp 39 (dep_of (by kernel_rfl))
      refine wpOp_step rfl (fun K hK => ?_)
      clear hdp
      go_simp
      exact hK _ _ ⟨undef, by simp [upd, e39], rfl, trivial, hC⟩
    | 42, _ =>
      have e39 : z 39 = .bool false := hdp 39 (dep_of (by kernel_rfl))
      refine wpOp_step rfl (fun K hK => ?_)
      clear hdp
      go_simp
      exact hK _ _ ⟨undef, by simp [upd, e39], rfl, trivial, hC⟩
    | 43, _ =>
      have e39 : z 39 = .bool false := hdp 39 (dep_of (by kernel_rfl))
      refine wpOp_step rfl (fun K hK => ?_)
      clear hdp
      go_simp
      exact hK _ _ ⟨undef, by simp [upd, e39], rfl, trivial, hC⟩
    | 44, _ =>
      have e39 : z 39 = .bool false := hdp 39 (dep_of (by kernel_rfl))
      have e43 : z 43 = undef := hdp 43 (dep_of (by kernel_rfl))
      refine wpOp_step rfl (fun K hK => ?_)
      clear hdp
      go_simp
      exact hK _ _ ⟨.bool false, by simp [upd, e39, e43], rfl, trivial, hC⟩
    | n + 45, hn => exact absurd hn (by omega)
  · intro z w7 kk hkk hC hdp
    have e44 : z 44 = .bool false := hdp 44 (by decide)
    refine wpOp_step rfl (fun K hK => ?_)
    clear hdp
    go_simp
    refine hK _ _ ?_
    clear hK K e44
    have HBw := Lib.hid (HX.out w7 hC).1
    clear hC
    go_wp2
    go_ret
    exact ⟨rfl, HBw.out⟩

set_option maxRecDepth 100000 in
set_option maxHeartbeats 3200000 in
theorem spec_right5 (key : Int) (p : ByteArray) (u : Bool) (t n c now last : Int) (w : World) (hp : p.size ≤ maxLen) (h0 : decide (1 ≤ key ∧ key ≤ 9999) = true) (h1 : decide (0 ≤ t ∧ t ≤ 999999) = true) (h2 : decide (0 ≤ n ∧ n ≤ 999999) = true) (h3 : p.size ≤ 40) (h4 : c = selS key p u t n) (h5 : ¬ now < t) :
    Calls Tryd.prog 11 #[.int .i64 key, .agg #[.string p, .bool u, .int .i64 t, .int .i64 n, .int .i64 c], .int .i64 now, .int .i64 last] w fun e w' => e = .returned (.bool false) ∧ Below w.heap.size w w' := by
  have hk := fun W => sl_in key 1 9999 W
  rw [h0] at hk
  have HK := Lib.hid fun W => (hk W).mono fun e w' (h : e = _ ∧ W = w') => (And.intro h.1 (h.2 ▸ Below.refl _ _) : e = _ ∧ Below W.heap.size W w')
  have ht := fun W => sl_in t 0 999999 W
  rw [h1] at ht
  have HT := Lib.hid fun W => (ht W).mono fun e w' (h : e = _ ∧ W = w') => (And.intro h.1 (h.2 ▸ Below.refl _ _) : e = _ ∧ Below W.heap.size W w')
  have hn := fun W => sl_in n 0 999999 W
  rw [h2] at hn
  have HN := Lib.hid fun W => (hn W).mono fun e w' (h : e = _ ∧ W = w') => (And.intro h.1 (h.2 ▸ Below.refl _ _) : e = _ ∧ Below W.heap.size W w')
  have hv := fun W => spec_selof key p u t n W hp
  rw [← h4] at hv
  have hcc : (c == c) = true := by simp
  have HV := Lib.hid fun W => (hv W).mono fun e w' (h : e = _ ∧ W = w') => (And.intro h.1 (h.2 ▸ Below.refl _ _) : e = _ ∧ Below W.heap.size W w')
  unfold maxLen at hp
  have hs' : decide ((p.size : Int) ≤ 40) = true := by simp; omega
  have k5 : decide (now < t) = false := by simpa using h5
  obtain ⟨wA, hwA⟩ : ∃ wA, wA = w.alloc (.cells #[.string p, .bool u, .int .i64 t, .int .i64 n, .int .i64 c] 29) := ⟨_, rfl⟩
  have hsA : wA.heap.size = w.heap.size + 1 := by rw [hwA]; simp
  have hbA : Below w.heap.size w wA := by rw [hwA]; exact (Below.refl _ _).alloc (Nat.le_refl _) _
  have hH : wA.heap[w.heap.size]? = some (.cells #[.string p, .bool u, .int .i64 t, .int .i64 n, .int .i64 c] 29 (0, 0)) := by rw [hwA]; exact heap_alloc_new w _
  have HX : Hid (∀ W, Below wA.heap.size wA W → Below w.heap.size w W ∧ W.heap[w.heap.size]? = some (.cells #[.string p, .bool u, .int .i64 t, .int .i64 n, .int .i64 c] 29 (0, 0))) := Lib.hid fun W hW =>
    ⟨hbA.trans (hW.mono (by omega)), (hW.block _ (by omega)).trans hH⟩
  have HW := Lib.hid hwA
  clear hwA hH hbA h0 hk h1 ht h2 hn h4 hv
  go_enter Tryd.func11, Tryd.ntmps11
  go_wp2_with fail
  rw [← HW.out]
  refine wp_region_last (by kernel_rfl) 45 (by kernel_rfl) (by kernel_rfl) (by kernel_rfl)
    (fun z => { tmps := #[.int .i64 key, .agg #[.string p, .bool u, .int .i64 t, .int .i64 n, .int .i64 c], .int .i64 now, .int .i64 last, undef, .pointer (some ⟨w.heap.size, 0, none⟩), undef, undef, .bool false, z 0, z 1, z 2, z 3, z 4, z 5, z 6, z 7, z 8, z 9, z 10, z 11, z 12, z 13, z 14, z 15, z 16, z 17, z 18, z 19, z 20, z 21, z 22, z 23, z 24, z 25, z 26, z 27, z 28, z 29, z 30, z 31, z 32, z 33, z 34, z 35, z 36, z 37, z 38, z 39, z 40, z 41, z 42, z 43, z 44], defers := [] })
    (fun _ W => Below wA.heap.size wA W)
    (fun i xv _ => xv = ([.int .i64 key, .bool true, .bool true, .pointer (some ⟨w.heap.size, 2, none⟩), .int .i64 t, .bool true, .bool true, .bool true, .pointer (some ⟨w.heap.size, 3, none⟩), .int .i64 n, .bool true, .bool true, .bool true, .pointer (some ⟨w.heap.size, 0, none⟩), .string p, .int .i64 (p.size : Int), .bool true, .bool true, .bool true, .pointer (some ⟨w.heap.size, 4, none⟩), .int .i64 c, .int .i64 key, .pointer (some ⟨w.heap.size, 0, none⟩), .string p, .pointer (some ⟨w.heap.size, 1, none⟩), .bool u, .pointer (some ⟨w.heap.size, 2, none⟩), .int .i64 t, .pointer (some ⟨w.heap.size, 3, none⟩), .int .i64 n, .int .i64 c, .bool true, .bool true, .bool true, .pointer (some ⟨w.heap.size, 2, none⟩), .int .i64 t, .int .i64 now, .bool false, .bool false, .bool false, undef, undef, undef, undef, .bool false] : List Value).getD i undef)
    (fun _ _ => True) (fun _ => undef) (Below.refl _ _).drew
    (fun _ _ _ _ _ h _ => h) ?_ ?_
  · intro i hi z w7 kk hkk hC hdp
    match i, hi with
    | 0, _ =>
      refine wpOp_step rfl (fun K hK => ?_)
      clear hdp
      go_simp
      exact hK _ _ ⟨.int .i64 key, rfl, rfl, trivial, hC⟩
    | 1, _ =>
      have e0 : z 0 = .int .i64 key := hdp 0 (dep_of (by kernel_rfl))
      have hT := HK.out w7
      refine wpOp_step rfl (fun K hK => ?_)
      clear hdp
      go_simp
      refine hT.mono ?_
      rintro e w8 ⟨rfl, hb8⟩
      exact hK _ _ ⟨.bool true, by simp [upd, e0], rfl, trivial, hC.trans (hb8.mono hC.size)⟩
    | 2, _ =>
      have e1 : z 1 = .bool true := hdp 1 (dep_of (by kernel_rfl))
      refine wpOp_step rfl (fun K hK => ?_)
      clear hdp
      go_simp
      exact hK _ _ ⟨.bool true, by simp [upd, e1], rfl, trivial, hC⟩
    | 3, _ =>
      have e2 : z 2 = .bool true := hdp 2 (dep_of (by kernel_rfl))
      refine wpOp_step rfl (fun K hK => ?_)
      clear hdp
      go_simp
      exact hK _ _ ⟨.pointer (some ⟨w.heap.size, 2, none⟩), by simp [upd, e2], rfl, trivial, hC⟩
    | 4, _ =>
      obtain ⟨q0, q1, q2, q3, q4⟩ := sl_facts (HX.out w7 hC).2
      have e2 : z 2 = .bool true := hdp 2 (dep_of (by kernel_rfl))
      have e3 : z 3 = .pointer (some ⟨w.heap.size, 2, none⟩) := hdp 3 (dep_of (by kernel_rfl))
      refine wpOp_step rfl (fun K hK => ?_)
      clear hdp
      go_simp
      exact hK _ _ ⟨.int .i64 t, by simp [upd, e2, e3], rfl, trivial, hC⟩
    | 5, _ =>
      have e2 : z 2 = .bool true := hdp 2 (dep_of (by kernel_rfl))
      have e4 : z 4 = .int .i64 t := hdp 4 (dep_of (by kernel_rfl))
      have hT := HT.out w7
      refine wpOp_step rfl (fun K hK => ?_)
      clear hdp
      go_simp
      refine hT.mono ?_
      rintro e w8 ⟨rfl, hb8⟩
      exact hK _ _ ⟨.bool true, by simp [upd, e2, e4], rfl, trivial, hC.trans (hb8.mono hC.size)⟩
    | 6, _ =>
      have e2 : z 2 = .bool true := hdp 2 (dep_of (by kernel_rfl))
      have e5 : z 5 = .bool true := hdp 5 (dep_of (by kernel_rfl))
      refine wpOp_step rfl (fun K hK => ?_)
      clear hdp
      go_simp
      exact hK _ _ ⟨.bool true, by simp [upd, e2, e5], rfl, trivial, hC⟩
    | 7, _ =>
      have e6 : z 6 = .bool true := hdp 6 (dep_of (by kernel_rfl))
      refine wpOp_step rfl (fun K hK => ?_)
      clear hdp
      go_simp
      exact hK _ _ ⟨.bool true, by simp [upd, e6], rfl, trivial, hC⟩
    | 8, _ =>
      have e7 : z 7 = .bool true := hdp 7 (dep_of (by kernel_rfl))
      refine wpOp_step rfl (fun K hK => ?_)
      clear hdp
      go_simp
      exact hK _ _ ⟨.pointer (some ⟨w.heap.size, 3, none⟩), by simp [upd, e7], rfl, trivial, hC⟩
    | 9, _ =>
      obtain ⟨q0, q1, q2, q3, q4⟩ := sl_facts (HX.out w7 hC).2
      have e7 : z 7 = .bool true := hdp 7 (dep_of (by kernel_rfl))
      have e8 : z 8 = .pointer (some ⟨w.heap.size, 3, none⟩) := hdp 8 (dep_of (by kernel_rfl))
      refine wpOp_step rfl (fun K hK => ?_)
      clear hdp
      go_simp
      exact hK _ _ ⟨.int .i64 n, by simp [upd, e7, e8], rfl, trivial, hC⟩
    | 10, _ =>
      have e7 : z 7 = .bool true := hdp 7 (dep_of (by kernel_rfl))
      have e9 : z 9 = .int .i64 n := hdp 9 (dep_of (by kernel_rfl))
      have hT := HN.out w7
      refine wpOp_step rfl (fun K hK => ?_)
      clear hdp
      go_simp
      refine hT.mono ?_
      rintro e w8 ⟨rfl, hb8⟩
      exact hK _ _ ⟨.bool true, by simp [upd, e7, e9], rfl, trivial, hC.trans (hb8.mono hC.size)⟩
    | 11, _ =>
      have e7 : z 7 = .bool true := hdp 7 (dep_of (by kernel_rfl))
      have e10 : z 10 = .bool true := hdp 10 (dep_of (by kernel_rfl))
      refine wpOp_step rfl (fun K hK => ?_)
      clear hdp
      go_simp
      exact hK _ _ ⟨.bool true, by simp [upd, e7, e10], rfl, trivial, hC⟩
    | 12, _ =>
      have e11 : z 11 = .bool true := hdp 11 (dep_of (by kernel_rfl))
      refine wpOp_step rfl (fun K hK => ?_)
      clear hdp
      go_simp
      exact hK _ _ ⟨.bool true, by simp [upd, e11], rfl, trivial, hC⟩
    | 13, _ =>
      have e12 : z 12 = .bool true := hdp 12 (dep_of (by kernel_rfl))
      refine wpOp_step rfl (fun K hK => ?_)
      clear hdp
      go_simp
      exact hK _ _ ⟨.pointer (some ⟨w.heap.size, 0, none⟩), by simp [upd, e12], rfl, trivial, hC⟩
    | 14, _ =>
      obtain ⟨q0, q1, q2, q3, q4⟩ := sl_facts (HX.out w7 hC).2
      have e12 : z 12 = .bool true := hdp 12 (dep_of (by kernel_rfl))
      have e13 : z 13 = .pointer (some ⟨w.heap.size, 0, none⟩) := hdp 13 (dep_of (by kernel_rfl))
      refine wpOp_step rfl (fun K hK => ?_)
      clear hdp
      go_simp
      exact hK _ _ ⟨.string p, by simp [upd, e12, e13], rfl, trivial, hC⟩
    | 15, _ =>
      have e12 : z 12 = .bool true := hdp 12 (dep_of (by kernel_rfl))
      have e14 : z 14 = .string p := hdp 14 (dep_of (by kernel_rfl))
      refine wpOp_step rfl (fun K hK => ?_)
      clear hdp
      go_simp
      exact hK _ _ ⟨.int .i64 (p.size : Int), by simp [upd, e12, e14], rfl, trivial, hC⟩
    | 16, _ =>
      have e12 : z 12 = .bool true := hdp 12 (dep_of (by kernel_rfl))
      have e15 : z 15 = .int .i64 (p.size : Int) := hdp 15 (dep_of (by kernel_rfl))
      refine wpOp_step rfl (fun K hK => ?_)
      clear hdp
      go_simp
      exact hK _ _ ⟨.bool true, by simp [upd, e12, e15], rfl, trivial, hC⟩
    | 17, _ =>
      have e12 : z 12 = .bool true := hdp 12 (dep_of (by kernel_rfl))
      have e16 : z 16 = .bool true := hdp 16 (dep_of (by kernel_rfl))
      refine wpOp_step rfl (fun K hK => ?_)
      clear hdp
      go_simp
      exact hK _ _ ⟨.bool true, by simp [upd, e12, e16], rfl, trivial, hC⟩
    | 18, _ =>
      have e17 : z 17 = .bool true := hdp 17 (dep_of (by kernel_rfl))
      refine wpOp_step rfl (fun K hK => ?_)
      clear hdp
      go_simp
      exact hK _ _ ⟨.bool true, by simp [upd, e17], rfl, trivial, hC⟩
    | 19, _ =>
      have e18 : z 18 = .bool true := hdp 18 (dep_of (by kernel_rfl))
      refine wpOp_step rfl (fun K hK => ?_)
      clear hdp
      go_simp
      exact hK _ _ ⟨.pointer (some ⟨w.heap.size, 4, none⟩), by simp [upd, e18], rfl, trivial, hC⟩
    | 20, _ =>
      obtain ⟨q0, q1, q2, q3, q4⟩ := sl_facts (HX.out w7 hC).2
      have e18 : z 18 = .bool true := hdp 18 (dep_of (by kernel_rfl))
      have e19 : z 19 = .pointer (some ⟨w.heap.size, 4, none⟩) := hdp 19 (dep_of (by kernel_rfl))
      refine wpOp_step rfl (fun K hK => ?_)
      clear hdp
      go_simp
      exact hK _ _ ⟨.int .i64 c, by simp [upd, e18, e19], rfl, trivial, hC⟩
    | 21, _ =>
      have e18 : z 18 = .bool true := hdp 18 (dep_of (by kernel_rfl))
      refine wpOp_step rfl (fun K hK => ?_)
      clear hdp
      go_simp
      exact hK _ _ ⟨.int .i64 key, by simp [upd, e18], rfl, trivial, hC⟩
    | 22, _ =>
      have e18 : z 18 = .bool true := hdp 18 (dep_of (by kernel_rfl))
      refine wpOp_step rfl (fun K hK => ?_)
      clear hdp
      go_simp
      exact hK _ _ ⟨.pointer (some ⟨w.heap.size, 0, none⟩), by simp [upd, e18], rfl, trivial, hC⟩
    | 23, _ =>
      obtain ⟨q0, q1, q2, q3, q4⟩ := sl_facts (HX.out w7 hC).2
      have e18 : z 18 = .bool true := hdp 18 (dep_of (by kernel_rfl))
      have e22 : z 22 = .pointer (some ⟨w.heap.size, 0, none⟩) := hdp 22 (dep_of (by kernel_rfl))
      refine wpOp_step rfl (fun K hK => ?_)
      clear hdp
      go_simp
      exact hK _ _ ⟨.string p, by simp [upd, e18, e22], rfl, trivial, hC⟩
    | 24, _ =>
      have e18 : z 18 = .bool true := hdp 18 (dep_of (by kernel_rfl))
      refine wpOp_step rfl (fun K hK => ?_)
      clear hdp
      go_simp
      exact hK _ _ ⟨.pointer (some ⟨w.heap.size, 1, none⟩), by simp [upd, e18], rfl, trivial, hC⟩
    | 25, _ =>
      obtain ⟨q0, q1, q2, q3, q4⟩ := sl_facts (HX.out w7 hC).2
      have e18 : z 18 = .bool true := hdp 18 (dep_of (by kernel_rfl))
      have e24 : z 24 = .pointer (some ⟨w.heap.size, 1, none⟩) := hdp 24 (dep_of (by kernel_rfl))
      refine wpOp_step rfl (fun K hK => ?_)
      clear hdp
      go_simp
      exact hK _ _ ⟨.bool u, by simp [upd, e18, e24], rfl, trivial, hC⟩
    | 26, _ =>
      have e18 : z 18 = .bool true := hdp 18 (dep_of (by kernel_rfl))
      refine wpOp_step rfl (fun K hK => ?_)
      clear hdp
      go_simp
      exact hK _ _ ⟨.pointer (some ⟨w.heap.size, 2, none⟩), by simp [upd, e18], rfl, trivial, hC⟩
    | 27, _ =>
      obtain ⟨q0, q1, q2, q3, q4⟩ := sl_facts (HX.out w7 hC).2
      have e18 : z 18 = .bool true := hdp 18 (dep_of (by kernel_rfl))
      have e26 : z 26 = .pointer (some ⟨w.heap.size, 2, none⟩) := hdp 26 (dep_of (by kernel_rfl))
      refine wpOp_step rfl (fun K hK => ?_)
      clear hdp
      go_simp
      exact hK _ _ ⟨.int .i64 t, by simp [upd, e18, e26], rfl, trivial, hC⟩
    | 28, _ =>
      have e18 : z 18 = .bool true := hdp 18 (dep_of (by kernel_rfl))
      refine wpOp_step rfl (fun K hK => ?_)
      clear hdp
      go_simp
      exact hK _ _ ⟨.pointer (some ⟨w.heap.size, 3, none⟩), by simp [upd, e18], rfl, trivial, hC⟩
    | 29, _ =>
      obtain ⟨q0, q1, q2, q3, q4⟩ := sl_facts (HX.out w7 hC).2
      have e18 : z 18 = .bool true := hdp 18 (dep_of (by kernel_rfl))
      have e28 : z 28 = .pointer (some ⟨w.heap.size, 3, none⟩) := hdp 28 (dep_of (by kernel_rfl))
      refine wpOp_step rfl (fun K hK => ?_)
      clear hdp
      go_simp
      exact hK _ _ ⟨.int .i64 n, by simp [upd, e18, e28], rfl, trivial, hC⟩
    | 30, _ =>
      have e18 : z 18 = .bool true := hdp 18 (dep_of (by kernel_rfl))
      have e21 : z 21 = .int .i64 key := hdp 21 (dep_of (by kernel_rfl))
      have e23 : z 23 = .string p := hdp 23 (dep_of (by kernel_rfl))
      have e25 : z 25 = .bool u := hdp 25 (dep_of (by kernel_rfl))
      have e27 : z 27 = .int .i64 t := hdp 27 (dep_of (by kernel_rfl))
      have e29 : z 29 = .int .i64 n := hdp 29 (dep_of (by kernel_rfl))
      have hT := HV.out w7
      refine wpOp_step rfl (fun K hK => ?_)
      clear hdp
      go_simp
      refine hT.mono ?_
      rintro e w8 ⟨rfl, hb8⟩
      exact hK _ _ ⟨.int .i64 c, by simp [upd, e18, e21, e23, e25, e27, e29], rfl, trivial, hC.trans (hb8.mono hC.size)⟩
    | 31, _ =>
      have e18 : z 18 = .bool true := hdp 18 (dep_of (by kernel_rfl))
      have e20 : z 20 = .int .i64 c := hdp 20 (dep_of (by kernel_rfl))
      have e30 : z 30 = .int .i64 c := hdp 30 (dep_of (by kernel_rfl))
      refine wpOp_step rfl (fun K hK => ?_)
      clear hdp
      go_simp
      exact hK _ _ ⟨.bool true, by simp [upd, e18, e20, e30], rfl, trivial, hC⟩
    | 32, _ =>
      have e18 : z 18 = .bool true := hdp 18 (dep_of (by kernel_rfl))
      have e31 : z 31 = .bool true := hdp 31 (dep_of (by kernel_rfl))
      refine wpOp_step rfl (fun K hK => ?_)
      clear hdp
      go_simp
      exact hK _ _ ⟨.bool true, by simp [upd, e18, e31], rfl, trivial, hC⟩
    | 33, _ =>
      have e32 : z 32 = .bool true := hdp 32 (dep_of (by kernel_rfl))
      refine wpOp_step rfl (fun K hK => ?_)
      clear hdp
      go_simp
      exact hK _ _ ⟨.bool true, by simp [upd, e32], rfl, trivial, hC⟩
    | 34, _ =>
      have e33 : z 33 = .bool true := hdp 33 (dep_of (by kernel_rfl))
      refine wpOp_step rfl (fun K hK => ?_)
      clear hdp
      go_simp
      exact hK _ _ ⟨.pointer (some ⟨w.heap.size, 2, none⟩), by simp [upd, e33], rfl, trivial, hC⟩
    | 35, _ =>
      obtain ⟨q0, q1, q2, q3, q4⟩ := sl_facts (HX.out w7 hC).2
      have e33 : z 33 = .bool true := hdp 33 (dep_of (by kernel_rfl))
      have e34 : z 34 = .pointer (some ⟨w.heap.size, 2, none⟩) := hdp 34 (dep_of (by kernel_rfl))
      refine wpOp_step rfl (fun K hK => ?_)
      clear hdp
      go_simp
      exact hK _ _ ⟨.int .i64 t, by simp [upd, e33, e34], rfl, trivial, hC⟩
    | 36, _ =>
      have e33 : z 33 = .bool true := hdp 33 (dep_of (by kernel_rfl))
      refine wpOp_step rfl (fun K hK => ?_)
      clear hdp
      go_simp
      exact hK _ _ ⟨.int .i64 now, by simp [upd, e33], rfl, trivial, hC⟩
    | 37, _ =>
      have e33 : z 33 = .bool true := hdp 33 (dep_of (by kernel_rfl))
      have e35 : z 35 = .int .i64 t := hdp 35 (dep_of (by kernel_rfl))
      have e36 : z 36 = .int .i64 now := hdp 36 (dep_of (by kernel_rfl))
      refine wpOp_step rfl (fun K hK => ?_)
      clear hdp
      go_simp
      exact hK _ _ ⟨.bool false, by simp [upd, e33, e35, e36], rfl, trivial, hC⟩
    | 38, _ =>
      have e33 : z 33 = .bool true := hdp 33 (dep_of (by kernel_rfl))
      have e37 : z 37 = .bool false := hdp 37 (dep_of (by kernel_rfl))
      refine wpOp_step rfl (fun K hK => ?_)
      clear hdp
      go_simp
      exact hK _ _ ⟨.bool false, by simp [upd, e33, e37], rfl, trivial, hC⟩
    | 39, _ =>
      have e38 : z 38 = .bool false := hdp 38 (dep_of (by kernel_rfl))
      refine wpOp_step rfl (fun K hK => ?_)
      clear hdp
      go_simp
      exact hK _ _ ⟨.bool false, by simp [upd, e38], rfl, trivial, hC⟩
    | 40, _ =>
      have e39 : z 39 = .bool false := hdp 39 (dep_of (by kernel_rfl))
      refine wpOp_step rfl (fun K hK => ?_)
      clear hdp
      go_simp
      exact hK _ _ ⟨undef, by simp [upd, e39], rfl, trivial, hC⟩
    | 41, _ =>
      have e39 : z 39 = .bool false := hdp 39 (dep_of (by kernel_rfl))
      refine wpOp_step rfl (fun K hK => ?_)
      clear hdp
      go_simp
      exact hK _ _ ⟨undef, by simp [upd, e39], rfl, trivial, hC⟩
    | 42, _ =>
      have e39 : z 39 = .bool false := hdp 39 (dep_of (by kernel_rfl))
      refine wpOp_step rfl (fun K hK => ?_)
      clear hdp
      go_simp
      exact hK _ _ ⟨undef, by simp [upd, e39], rfl, trivial, hC⟩
    | 43, _ =>
      have e39 : z 39 = .bool false := hdp 39 (dep_of (by kernel_rfl))
      refine wpOp_step rfl (fun K hK => ?_)
      clear hdp
      go_simp
      exact hK _ _ ⟨undef, by simp [upd, e39], rfl, trivial, hC⟩
    | 44, _ =>
      have e39 : z 39 = .bool false := hdp 39 (dep_of (by kernel_rfl))
      have e43 : z 43 = undef := hdp 43 (dep_of (by kernel_rfl))
      refine wpOp_step rfl (fun K hK => ?_)
      clear hdp
      go_simp
      exact hK _ _ ⟨.bool false, by simp [upd, e39, e43], rfl, trivial, hC⟩
    | n + 45, hn => exact absurd hn (by omega)
  · intro z w7 kk hkk hC hdp
    have e44 : z 44 = .bool false := hdp 44 (by decide)
    refine wpOp_step rfl (fun K hK => ?_)
    clear hdp
    go_simp
    refine hK _ _ ?_
    clear hK K e44
    have HBw := Lib.hid (HX.out w7 hC).1
    clear hC
    go_wp2
    go_ret
    exact ⟨rfl, HBw.out⟩

set_option maxRecDepth 100000 in
set_option maxHeartbeats 3200000 in
theorem spec_right6 (key : Int) (p : ByteArray) (u : Bool) (t n c now last : Int) (w : World) (hp : p.size ≤ maxLen) (h0 : decide (1 ≤ key ∧ key ≤ 9999) = true) (h1 : decide (0 ≤ t ∧ t ≤ 999999) = true) (h2 : decide (0 ≤ n ∧ n ≤ 999999) = true) (h3 : p.size ≤ 40) (h4 : c = selS key p u t n) (h5 : now < t) (h6 : ¬ last < n) :
    Calls Tryd.prog 11 #[.int .i64 key, .agg #[.string p, .bool u, .int .i64 t, .int .i64 n, .int .i64 c], .int .i64 now, .int .i64 last] w fun e w' => e = .returned (.bool false) ∧ Below w.heap.size w w' := by
  have hk := fun W => sl_in key 1 9999 W
  rw [h0] at hk
  have HK := Lib.hid fun W => (hk W).mono fun e w' (h : e = _ ∧ W = w') => (And.intro h.1 (h.2 ▸ Below.refl _ _) : e = _ ∧ Below W.heap.size W w')
  have ht := fun W => sl_in t 0 999999 W
  rw [h1] at ht
  have HT := Lib.hid fun W => (ht W).mono fun e w' (h : e = _ ∧ W = w') => (And.intro h.1 (h.2 ▸ Below.refl _ _) : e = _ ∧ Below W.heap.size W w')
  have hn := fun W => sl_in n 0 999999 W
  rw [h2] at hn
  have HN := Lib.hid fun W => (hn W).mono fun e w' (h : e = _ ∧ W = w') => (And.intro h.1 (h.2 ▸ Below.refl _ _) : e = _ ∧ Below W.heap.size W w')
  have hv := fun W => spec_selof key p u t n W hp
  rw [← h4] at hv
  have hcc : (c == c) = true := by simp
  have HV := Lib.hid fun W => (hv W).mono fun e w' (h : e = _ ∧ W = w') => (And.intro h.1 (h.2 ▸ Below.refl _ _) : e = _ ∧ Below W.heap.size W w')
  unfold maxLen at hp
  have hs' : decide ((p.size : Int) ≤ 40) = true := by simp; omega
  have k5 : decide (now < t) = true := by simpa using h5
  have k6 : decide (last < n) = false := by simpa using h6
  obtain ⟨wA, hwA⟩ : ∃ wA, wA = w.alloc (.cells #[.string p, .bool u, .int .i64 t, .int .i64 n, .int .i64 c] 29) := ⟨_, rfl⟩
  have hsA : wA.heap.size = w.heap.size + 1 := by rw [hwA]; simp
  have hbA : Below w.heap.size w wA := by rw [hwA]; exact (Below.refl _ _).alloc (Nat.le_refl _) _
  have hH : wA.heap[w.heap.size]? = some (.cells #[.string p, .bool u, .int .i64 t, .int .i64 n, .int .i64 c] 29 (0, 0)) := by rw [hwA]; exact heap_alloc_new w _
  have HX : Hid (∀ W, Below wA.heap.size wA W → Below w.heap.size w W ∧ W.heap[w.heap.size]? = some (.cells #[.string p, .bool u, .int .i64 t, .int .i64 n, .int .i64 c] 29 (0, 0))) := Lib.hid fun W hW =>
    ⟨hbA.trans (hW.mono (by omega)), (hW.block _ (by omega)).trans hH⟩
  have HW := Lib.hid hwA
  clear hwA hH hbA h0 hk h1 ht h2 hn h4 hv
  go_enter Tryd.func11, Tryd.ntmps11
  go_wp2_with fail
  rw [← HW.out]
  refine wp_region_last (by kernel_rfl) 45 (by kernel_rfl) (by kernel_rfl) (by kernel_rfl)
    (fun z => { tmps := #[.int .i64 key, .agg #[.string p, .bool u, .int .i64 t, .int .i64 n, .int .i64 c], .int .i64 now, .int .i64 last, undef, .pointer (some ⟨w.heap.size, 0, none⟩), undef, undef, .bool false, z 0, z 1, z 2, z 3, z 4, z 5, z 6, z 7, z 8, z 9, z 10, z 11, z 12, z 13, z 14, z 15, z 16, z 17, z 18, z 19, z 20, z 21, z 22, z 23, z 24, z 25, z 26, z 27, z 28, z 29, z 30, z 31, z 32, z 33, z 34, z 35, z 36, z 37, z 38, z 39, z 40, z 41, z 42, z 43, z 44], defers := [] })
    (fun _ W => Below wA.heap.size wA W)
    (fun i xv _ => xv = ([.int .i64 key, .bool true, .bool true, .pointer (some ⟨w.heap.size, 2, none⟩), .int .i64 t, .bool true, .bool true, .bool true, .pointer (some ⟨w.heap.size, 3, none⟩), .int .i64 n, .bool true, .bool true, .bool true, .pointer (some ⟨w.heap.size, 0, none⟩), .string p, .int .i64 (p.size : Int), .bool true, .bool true, .bool true, .pointer (some ⟨w.heap.size, 4, none⟩), .int .i64 c, .int .i64 key, .pointer (some ⟨w.heap.size, 0, none⟩), .string p, .pointer (some ⟨w.heap.size, 1, none⟩), .bool u, .pointer (some ⟨w.heap.size, 2, none⟩), .int .i64 t, .pointer (some ⟨w.heap.size, 3, none⟩), .int .i64 n, .int .i64 c, .bool true, .bool true, .bool true, .pointer (some ⟨w.heap.size, 2, none⟩), .int .i64 t, .int .i64 now, .bool true, .bool true, .bool true, .pointer (some ⟨w.heap.size, 3, none⟩), .int .i64 n, .int .i64 last, .bool false, .bool false] : List Value).getD i undef)
    (fun _ _ => True) (fun _ => undef) (Below.refl _ _).drew
    (fun _ _ _ _ _ h _ => h) ?_ ?_
  · intro i hi z w7 kk hkk hC hdp
    match i, hi with
    | 0, _ =>
      refine wpOp_step rfl (fun K hK => ?_)
      clear hdp
      go_simp
      exact hK _ _ ⟨.int .i64 key, rfl, rfl, trivial, hC⟩
    | 1, _ =>
      have e0 : z 0 = .int .i64 key := hdp 0 (dep_of (by kernel_rfl))
      have hT := HK.out w7
      refine wpOp_step rfl (fun K hK => ?_)
      clear hdp
      go_simp
      refine hT.mono ?_
      rintro e w8 ⟨rfl, hb8⟩
      exact hK _ _ ⟨.bool true, by simp [upd, e0], rfl, trivial, hC.trans (hb8.mono hC.size)⟩
    | 2, _ =>
      have e1 : z 1 = .bool true := hdp 1 (dep_of (by kernel_rfl))
      refine wpOp_step rfl (fun K hK => ?_)
      clear hdp
      go_simp
      exact hK _ _ ⟨.bool true, by simp [upd, e1], rfl, trivial, hC⟩
    | 3, _ =>
      have e2 : z 2 = .bool true := hdp 2 (dep_of (by kernel_rfl))
      refine wpOp_step rfl (fun K hK => ?_)
      clear hdp
      go_simp
      exact hK _ _ ⟨.pointer (some ⟨w.heap.size, 2, none⟩), by simp [upd, e2], rfl, trivial, hC⟩
    | 4, _ =>
      obtain ⟨q0, q1, q2, q3, q4⟩ := sl_facts (HX.out w7 hC).2
      have e2 : z 2 = .bool true := hdp 2 (dep_of (by kernel_rfl))
      have e3 : z 3 = .pointer (some ⟨w.heap.size, 2, none⟩) := hdp 3 (dep_of (by kernel_rfl))
      refine wpOp_step rfl (fun K hK => ?_)
      clear hdp
      go_simp
      exact hK _ _ ⟨.int .i64 t, by simp [upd, e2, e3], rfl, trivial, hC⟩
    | 5, _ =>
      have e2 : z 2 = .bool true := hdp 2 (dep_of (by kernel_rfl))
      have e4 : z 4 = .int .i64 t := hdp 4 (dep_of (by kernel_rfl))
      have hT := HT.out w7
      refine wpOp_step rfl (fun K hK => ?_)
      clear hdp
      go_simp
      refine hT.mono ?_
      rintro e w8 ⟨rfl, hb8⟩
      exact hK _ _ ⟨.bool true, by simp [upd, e2, e4], rfl, trivial, hC.trans (hb8.mono hC.size)⟩
    | 6, _ =>
      have e2 : z 2 = .bool true := hdp 2 (dep_of (by kernel_rfl))
      have e5 : z 5 = .bool true := hdp 5 (dep_of (by kernel_rfl))
      refine wpOp_step rfl (fun K hK => ?_)
      clear hdp
      go_simp
      exact hK _ _ ⟨.bool true, by simp [upd, e2, e5], rfl, trivial, hC⟩
    | 7, _ =>
      have e6 : z 6 = .bool true := hdp 6 (dep_of (by kernel_rfl))
      refine wpOp_step rfl (fun K hK => ?_)
      clear hdp
      go_simp
      exact hK _ _ ⟨.bool true, by simp [upd, e6], rfl, trivial, hC⟩
    | 8, _ =>
      have e7 : z 7 = .bool true := hdp 7 (dep_of (by kernel_rfl))
      refine wpOp_step rfl (fun K hK => ?_)
      clear hdp
      go_simp
      exact hK _ _ ⟨.pointer (some ⟨w.heap.size, 3, none⟩), by simp [upd, e7], rfl, trivial, hC⟩
    | 9, _ =>
      obtain ⟨q0, q1, q2, q3, q4⟩ := sl_facts (HX.out w7 hC).2
      have e7 : z 7 = .bool true := hdp 7 (dep_of (by kernel_rfl))
      have e8 : z 8 = .pointer (some ⟨w.heap.size, 3, none⟩) := hdp 8 (dep_of (by kernel_rfl))
      refine wpOp_step rfl (fun K hK => ?_)
      clear hdp
      go_simp
      exact hK _ _ ⟨.int .i64 n, by simp [upd, e7, e8], rfl, trivial, hC⟩
    | 10, _ =>
      have e7 : z 7 = .bool true := hdp 7 (dep_of (by kernel_rfl))
      have e9 : z 9 = .int .i64 n := hdp 9 (dep_of (by kernel_rfl))
      have hT := HN.out w7
      refine wpOp_step rfl (fun K hK => ?_)
      clear hdp
      go_simp
      refine hT.mono ?_
      rintro e w8 ⟨rfl, hb8⟩
      exact hK _ _ ⟨.bool true, by simp [upd, e7, e9], rfl, trivial, hC.trans (hb8.mono hC.size)⟩
    | 11, _ =>
      have e7 : z 7 = .bool true := hdp 7 (dep_of (by kernel_rfl))
      have e10 : z 10 = .bool true := hdp 10 (dep_of (by kernel_rfl))
      refine wpOp_step rfl (fun K hK => ?_)
      clear hdp
      go_simp
      exact hK _ _ ⟨.bool true, by simp [upd, e7, e10], rfl, trivial, hC⟩
    | 12, _ =>
      have e11 : z 11 = .bool true := hdp 11 (dep_of (by kernel_rfl))
      refine wpOp_step rfl (fun K hK => ?_)
      clear hdp
      go_simp
      exact hK _ _ ⟨.bool true, by simp [upd, e11], rfl, trivial, hC⟩
    | 13, _ =>
      have e12 : z 12 = .bool true := hdp 12 (dep_of (by kernel_rfl))
      refine wpOp_step rfl (fun K hK => ?_)
      clear hdp
      go_simp
      exact hK _ _ ⟨.pointer (some ⟨w.heap.size, 0, none⟩), by simp [upd, e12], rfl, trivial, hC⟩
    | 14, _ =>
      obtain ⟨q0, q1, q2, q3, q4⟩ := sl_facts (HX.out w7 hC).2
      have e12 : z 12 = .bool true := hdp 12 (dep_of (by kernel_rfl))
      have e13 : z 13 = .pointer (some ⟨w.heap.size, 0, none⟩) := hdp 13 (dep_of (by kernel_rfl))
      refine wpOp_step rfl (fun K hK => ?_)
      clear hdp
      go_simp
      exact hK _ _ ⟨.string p, by simp [upd, e12, e13], rfl, trivial, hC⟩
    | 15, _ =>
      have e12 : z 12 = .bool true := hdp 12 (dep_of (by kernel_rfl))
      have e14 : z 14 = .string p := hdp 14 (dep_of (by kernel_rfl))
      refine wpOp_step rfl (fun K hK => ?_)
      clear hdp
      go_simp
      exact hK _ _ ⟨.int .i64 (p.size : Int), by simp [upd, e12, e14], rfl, trivial, hC⟩
    | 16, _ =>
      have e12 : z 12 = .bool true := hdp 12 (dep_of (by kernel_rfl))
      have e15 : z 15 = .int .i64 (p.size : Int) := hdp 15 (dep_of (by kernel_rfl))
      refine wpOp_step rfl (fun K hK => ?_)
      clear hdp
      go_simp
      exact hK _ _ ⟨.bool true, by simp [upd, e12, e15], rfl, trivial, hC⟩
    | 17, _ =>
      have e12 : z 12 = .bool true := hdp 12 (dep_of (by kernel_rfl))
      have e16 : z 16 = .bool true := hdp 16 (dep_of (by kernel_rfl))
      refine wpOp_step rfl (fun K hK => ?_)
      clear hdp
      go_simp
      exact hK _ _ ⟨.bool true, by simp [upd, e12, e16], rfl, trivial, hC⟩
    | 18, _ =>
      have e17 : z 17 = .bool true := hdp 17 (dep_of (by kernel_rfl))
      refine wpOp_step rfl (fun K hK => ?_)
      clear hdp
      go_simp
      exact hK _ _ ⟨.bool true, by simp [upd, e17], rfl, trivial, hC⟩
    | 19, _ =>
      have e18 : z 18 = .bool true := hdp 18 (dep_of (by kernel_rfl))
      refine wpOp_step rfl (fun K hK => ?_)
      clear hdp
      go_simp
      exact hK _ _ ⟨.pointer (some ⟨w.heap.size, 4, none⟩), by simp [upd, e18], rfl, trivial, hC⟩
    | 20, _ =>
      obtain ⟨q0, q1, q2, q3, q4⟩ := sl_facts (HX.out w7 hC).2
      have e18 : z 18 = .bool true := hdp 18 (dep_of (by kernel_rfl))
      have e19 : z 19 = .pointer (some ⟨w.heap.size, 4, none⟩) := hdp 19 (dep_of (by kernel_rfl))
      refine wpOp_step rfl (fun K hK => ?_)
      clear hdp
      go_simp
      exact hK _ _ ⟨.int .i64 c, by simp [upd, e18, e19], rfl, trivial, hC⟩
    | 21, _ =>
      have e18 : z 18 = .bool true := hdp 18 (dep_of (by kernel_rfl))
      refine wpOp_step rfl (fun K hK => ?_)
      clear hdp
      go_simp
      exact hK _ _ ⟨.int .i64 key, by simp [upd, e18], rfl, trivial, hC⟩
    | 22, _ =>
      have e18 : z 18 = .bool true := hdp 18 (dep_of (by kernel_rfl))
      refine wpOp_step rfl (fun K hK => ?_)
      clear hdp
      go_simp
      exact hK _ _ ⟨.pointer (some ⟨w.heap.size, 0, none⟩), by simp [upd, e18], rfl, trivial, hC⟩
    | 23, _ =>
      obtain ⟨q0, q1, q2, q3, q4⟩ := sl_facts (HX.out w7 hC).2
      have e18 : z 18 = .bool true := hdp 18 (dep_of (by kernel_rfl))
      have e22 : z 22 = .pointer (some ⟨w.heap.size, 0, none⟩) := hdp 22 (dep_of (by kernel_rfl))
      refine wpOp_step rfl (fun K hK => ?_)
      clear hdp
      go_simp
      exact hK _ _ ⟨.string p, by simp [upd, e18, e22], rfl, trivial, hC⟩
    | 24, _ =>
      have e18 : z 18 = .bool true := hdp 18 (dep_of (by kernel_rfl))
      refine wpOp_step rfl (fun K hK => ?_)
      clear hdp
      go_simp
      exact hK _ _ ⟨.pointer (some ⟨w.heap.size, 1, none⟩), by simp [upd, e18], rfl, trivial, hC⟩
    | 25, _ =>
      obtain ⟨q0, q1, q2, q3, q4⟩ := sl_facts (HX.out w7 hC).2
      have e18 : z 18 = .bool true := hdp 18 (dep_of (by kernel_rfl))
      have e24 : z 24 = .pointer (some ⟨w.heap.size, 1, none⟩) := hdp 24 (dep_of (by kernel_rfl))
      refine wpOp_step rfl (fun K hK => ?_)
      clear hdp
      go_simp
      exact hK _ _ ⟨.bool u, by simp [upd, e18, e24], rfl, trivial, hC⟩
    | 26, _ =>
      have e18 : z 18 = .bool true := hdp 18 (dep_of (by kernel_rfl))
      refine wpOp_step rfl (fun K hK => ?_)
      clear hdp
      go_simp
      exact hK _ _ ⟨.pointer (some ⟨w.heap.size, 2, none⟩), by simp [upd, e18], rfl, trivial, hC⟩
    | 27, _ =>
      obtain ⟨q0, q1, q2, q3, q4⟩ := sl_facts (HX.out w7 hC).2
      have e18 : z 18 = .bool true := hdp 18 (dep_of (by kernel_rfl))
      have e26 : z 26 = .pointer (some ⟨w.heap.size, 2, none⟩) := hdp 26 (dep_of (by kernel_rfl))
      refine wpOp_step rfl (fun K hK => ?_)
      clear hdp
      go_simp
      exact hK _ _ ⟨.int .i64 t, by simp [upd, e18, e26], rfl, trivial, hC⟩
    | 28, _ =>
      have e18 : z 18 = .bool true := hdp 18 (dep_of (by kernel_rfl))
      refine wpOp_step rfl (fun K hK => ?_)
      clear hdp
      go_simp
      exact hK _ _ ⟨.pointer (some ⟨w.heap.size, 3, none⟩), by simp [upd, e18], rfl, trivial, hC⟩
    | 29, _ =>
      obtain ⟨q0, q1, q2, q3, q4⟩ := sl_facts (HX.out w7 hC).2
      have e18 : z 18 = .bool true := hdp 18 (dep_of (by kernel_rfl))
      have e28 : z 28 = .pointer (some ⟨w.heap.size, 3, none⟩) := hdp 28 (dep_of (by kernel_rfl))
      refine wpOp_step rfl (fun K hK => ?_)
      clear hdp
      go_simp
      exact hK _ _ ⟨.int .i64 n, by simp [upd, e18, e28], rfl, trivial, hC⟩
    | 30, _ =>
      have e18 : z 18 = .bool true := hdp 18 (dep_of (by kernel_rfl))
      have e21 : z 21 = .int .i64 key := hdp 21 (dep_of (by kernel_rfl))
      have e23 : z 23 = .string p := hdp 23 (dep_of (by kernel_rfl))
      have e25 : z 25 = .bool u := hdp 25 (dep_of (by kernel_rfl))
      have e27 : z 27 = .int .i64 t := hdp 27 (dep_of (by kernel_rfl))
      have e29 : z 29 = .int .i64 n := hdp 29 (dep_of (by kernel_rfl))
      have hT := HV.out w7
      refine wpOp_step rfl (fun K hK => ?_)
      clear hdp
      go_simp
      refine hT.mono ?_
      rintro e w8 ⟨rfl, hb8⟩
      exact hK _ _ ⟨.int .i64 c, by simp [upd, e18, e21, e23, e25, e27, e29], rfl, trivial, hC.trans (hb8.mono hC.size)⟩
    | 31, _ =>
      have e18 : z 18 = .bool true := hdp 18 (dep_of (by kernel_rfl))
      have e20 : z 20 = .int .i64 c := hdp 20 (dep_of (by kernel_rfl))
      have e30 : z 30 = .int .i64 c := hdp 30 (dep_of (by kernel_rfl))
      refine wpOp_step rfl (fun K hK => ?_)
      clear hdp
      go_simp
      exact hK _ _ ⟨.bool true, by simp [upd, e18, e20, e30], rfl, trivial, hC⟩
    | 32, _ =>
      have e18 : z 18 = .bool true := hdp 18 (dep_of (by kernel_rfl))
      have e31 : z 31 = .bool true := hdp 31 (dep_of (by kernel_rfl))
      refine wpOp_step rfl (fun K hK => ?_)
      clear hdp
      go_simp
      exact hK _ _ ⟨.bool true, by simp [upd, e18, e31], rfl, trivial, hC⟩
    | 33, _ =>
      have e32 : z 32 = .bool true := hdp 32 (dep_of (by kernel_rfl))
      refine wpOp_step rfl (fun K hK => ?_)
      clear hdp
      go_simp
      exact hK _ _ ⟨.bool true, by simp [upd, e32], rfl, trivial, hC⟩
    | 34, _ =>
      have e33 : z 33 = .bool true := hdp 33 (dep_of (by kernel_rfl))
      refine wpOp_step rfl (fun K hK => ?_)
      clear hdp
      go_simp
      exact hK _ _ ⟨.pointer (some ⟨w.heap.size, 2, none⟩), by simp [upd, e33], rfl, trivial, hC⟩
    | 35, _ =>
      obtain ⟨q0, q1, q2, q3, q4⟩ := sl_facts (HX.out w7 hC).2
      have e33 : z 33 = .bool true := hdp 33 (dep_of (by kernel_rfl))
      have e34 : z 34 = .pointer (some ⟨w.heap.size, 2, none⟩) := hdp 34 (dep_of (by kernel_rfl))
      refine wpOp_step rfl (fun K hK => ?_)
      clear hdp
      go_simp
      exact hK _ _ ⟨.int .i64 t, by simp [upd, e33, e34], rfl, trivial, hC⟩
    | 36, _ =>
      have e33 : z 33 = .bool true := hdp 33 (dep_of (by kernel_rfl))
      refine wpOp_step rfl (fun K hK => ?_)
      clear hdp
      go_simp
      exact hK _ _ ⟨.int .i64 now, by simp [upd, e33], rfl, trivial, hC⟩
    | 37, _ =>
      have e33 : z 33 = .bool true := hdp 33 (dep_of (by kernel_rfl))
      have e35 : z 35 = .int .i64 t := hdp 35 (dep_of (by kernel_rfl))
      have e36 : z 36 = .int .i64 now := hdp 36 (dep_of (by kernel_rfl))
      refine wpOp_step rfl (fun K hK => ?_)
      clear hdp
      go_simp
      exact hK _ _ ⟨.bool true, by simp [upd, e33, e35, e36], rfl, trivial, hC⟩
    | 38, _ =>
      have e33 : z 33 = .bool true := hdp 33 (dep_of (by kernel_rfl))
      have e37 : z 37 = .bool true := hdp 37 (dep_of (by kernel_rfl))
      refine wpOp_step rfl (fun K hK => ?_)
      clear hdp
      go_simp
      exact hK _ _ ⟨.bool true, by simp [upd, e33, e37], rfl, trivial, hC⟩
    | 39, _ =>
      have e38 : z 38 = .bool true := hdp 38 (dep_of (by kernel_rfl))
      refine wpOp_step rfl (fun K hK => ?_)
      clear hdp
      go_simp
      exact hK _ _ ⟨.bool true, by simp [upd, e38], rfl, trivial, hC⟩
    | 40, _ =>
      have e39 : z 39 = .bool true := hdp 39 (dep_of (by kernel_rfl))
      refine wpOp_step rfl (fun K hK => ?_)
      clear hdp
      go_simp
      exact hK _ _ ⟨.pointer (some ⟨w.heap.size, 3, none⟩), by simp [upd, e39], rfl, trivial, hC⟩
    | 41, _ =>
      obtain ⟨q0, q1, q2, q3, q4⟩ := sl_facts (HX.out w7 hC).2
      have e39 : z 39 = .bool true := hdp 39 (dep_of (by kernel_rfl))
      have e40 : z 40 = .pointer (some ⟨w.heap.size, 3, none⟩) := hdp 40 (dep_of (by kernel_rfl))
      refine wpOp_step rfl (fun K hK => ?_)
      clear hdp
      go_simp
      exact hK _ _ ⟨.int .i64 n, by simp [upd, e39, e40], rfl, trivial, hC⟩
    | 42, _ =>
      have e39 : z 39 = .bool true := hdp 39 (dep_of (by kernel_rfl))
      refine wpOp_step rfl (fun K hK => ?_)
      clear hdp
      go_simp
      exact hK _ _ ⟨.int .i64 last, by simp [upd, e39], rfl, trivial, hC⟩
    | 43, _ =>
      have e39 : z 39 = .bool true := hdp 39 (dep_of (by kernel_rfl))
      have e41 : z 41 = .int .i64 n := hdp 41 (dep_of (by kernel_rfl))
      have e42 : z 42 = .int .i64 last := hdp 42 (dep_of (by kernel_rfl))
      refine wpOp_step rfl (fun K hK => ?_)
      clear hdp
      go_simp
      exact hK _ _ ⟨.bool false, by simp [upd, e39, e41, e42], rfl, trivial, hC⟩
    | 44, _ =>
      have e39 : z 39 = .bool true := hdp 39 (dep_of (by kernel_rfl))
      have e43 : z 43 = .bool false := hdp 43 (dep_of (by kernel_rfl))
      refine wpOp_step rfl (fun K hK => ?_)
      clear hdp
      go_simp
      exact hK _ _ ⟨.bool false, by simp [upd, e39, e43], rfl, trivial, hC⟩
    | n + 45, hn => exact absurd hn (by omega)
  · intro z w7 kk hkk hC hdp
    have e44 : z 44 = .bool false := hdp 44 (by decide)
    refine wpOp_step rfl (fun K hK => ?_)
    clear hdp
    go_simp
    refine hK _ _ ?_
    clear hK K e44
    have HBw := Lib.hid (HX.out w7 hC).1
    clear hC
    go_wp2
    go_ret
    exact ⟨rfl, HBw.out⟩

set_option maxRecDepth 100000 in
set_option maxHeartbeats 3200000 in
theorem spec_right7 (key : Int) (p : ByteArray) (u : Bool) (t n c now last : Int) (w : World) (hp : p.size ≤ maxLen) (h0 : decide (1 ≤ key ∧ key ≤ 9999) = true) (h1 : decide (0 ≤ t ∧ t ≤ 999999) = true) (h2 : decide (0 ≤ n ∧ n ≤ 999999) = true) (h3 : p.size ≤ 40) (h4 : c = selS key p u t n) (h5 : now < t) (h6 : last < n) :
    Calls Tryd.prog 11 #[.int .i64 key, .agg #[.string p, .bool u, .int .i64 t, .int .i64 n, .int .i64 c], .int .i64 now, .int .i64 last] w fun e w' => e = .returned (.bool true) ∧ Below w.heap.size w w' := by
  have hk := fun W => sl_in key 1 9999 W
  rw [h0] at hk
  have HK := Lib.hid fun W => (hk W).mono fun e w' (h : e = _ ∧ W = w') => (And.intro h.1 (h.2 ▸ Below.refl _ _) : e = _ ∧ Below W.heap.size W w')
  have ht := fun W => sl_in t 0 999999 W
  rw [h1] at ht
  have HT := Lib.hid fun W => (ht W).mono fun e w' (h : e = _ ∧ W = w') => (And.intro h.1 (h.2 ▸ Below.refl _ _) : e = _ ∧ Below W.heap.size W w')
  have hn := fun W => sl_in n 0 999999 W
  rw [h2] at hn
  have HN := Lib.hid fun W => (hn W).mono fun e w' (h : e = _ ∧ W = w') => (And.intro h.1 (h.2 ▸ Below.refl _ _) : e = _ ∧ Below W.heap.size W w')
  have hv := fun W => spec_selof key p u t n W hp
  rw [← h4] at hv
  have hcc : (c == c) = true := by simp
  have HV := Lib.hid fun W => (hv W).mono fun e w' (h : e = _ ∧ W = w') => (And.intro h.1 (h.2 ▸ Below.refl _ _) : e = _ ∧ Below W.heap.size W w')
  unfold maxLen at hp
  have hs' : decide ((p.size : Int) ≤ 40) = true := by simp; omega
  have k5 : decide (now < t) = true := by simpa using h5
  have k6 : decide (last < n) = true := by simpa using h6
  obtain ⟨wA, hwA⟩ : ∃ wA, wA = w.alloc (.cells #[.string p, .bool u, .int .i64 t, .int .i64 n, .int .i64 c] 29) := ⟨_, rfl⟩
  have hsA : wA.heap.size = w.heap.size + 1 := by rw [hwA]; simp
  have hbA : Below w.heap.size w wA := by rw [hwA]; exact (Below.refl _ _).alloc (Nat.le_refl _) _
  have hH : wA.heap[w.heap.size]? = some (.cells #[.string p, .bool u, .int .i64 t, .int .i64 n, .int .i64 c] 29 (0, 0)) := by rw [hwA]; exact heap_alloc_new w _
  have HX : Hid (∀ W, Below wA.heap.size wA W → Below w.heap.size w W ∧ W.heap[w.heap.size]? = some (.cells #[.string p, .bool u, .int .i64 t, .int .i64 n, .int .i64 c] 29 (0, 0))) := Lib.hid fun W hW =>
    ⟨hbA.trans (hW.mono (by omega)), (hW.block _ (by omega)).trans hH⟩
  have HW := Lib.hid hwA
  clear hwA hH hbA h0 hk h1 ht h2 hn h4 hv
  go_enter Tryd.func11, Tryd.ntmps11
  go_wp2_with fail
  rw [← HW.out]
  refine wp_region_last (by kernel_rfl) 45 (by kernel_rfl) (by kernel_rfl) (by kernel_rfl)
    (fun z => { tmps := #[.int .i64 key, .agg #[.string p, .bool u, .int .i64 t, .int .i64 n, .int .i64 c], .int .i64 now, .int .i64 last, undef, .pointer (some ⟨w.heap.size, 0, none⟩), undef, undef, .bool false, z 0, z 1, z 2, z 3, z 4, z 5, z 6, z 7, z 8, z 9, z 10, z 11, z 12, z 13, z 14, z 15, z 16, z 17, z 18, z 19, z 20, z 21, z 22, z 23, z 24, z 25, z 26, z 27, z 28, z 29, z 30, z 31, z 32, z 33, z 34, z 35, z 36, z 37, z 38, z 39, z 40, z 41, z 42, z 43, z 44], defers := [] })
    (fun _ W => Below wA.heap.size wA W)
    (fun i xv _ => xv = ([.int .i64 key, .bool true, .bool true, .pointer (some ⟨w.heap.size, 2, none⟩), .int .i64 t, .bool true, .bool true, .bool true, .pointer (some ⟨w.heap.size, 3, none⟩), .int .i64 n, .bool true, .bool true, .bool true, .pointer (some ⟨w.heap.size, 0, none⟩), .string p, .int .i64 (p.size : Int), .bool true, .bool true, .bool true, .pointer (some ⟨w.heap.size, 4, none⟩), .int .i64 c, .int .i64 key, .pointer (some ⟨w.heap.size, 0, none⟩), .string p, .pointer (some ⟨w.heap.size, 1, none⟩), .bool u, .pointer (some ⟨w.heap.size, 2, none⟩), .int .i64 t, .pointer (some ⟨w.heap.size, 3, none⟩), .int .i64 n, .int .i64 c, .bool true, .bool true, .bool true, .pointer (some ⟨w.heap.size, 2, none⟩), .int .i64 t, .int .i64 now, .bool true, .bool true, .bool true, .pointer (some ⟨w.heap.size, 3, none⟩), .int .i64 n, .int .i64 last, .bool true, .bool true] : List Value).getD i undef)
    (fun _ _ => True) (fun _ => undef) (Below.refl _ _).drew
    (fun _ _ _ _ _ h _ => h) ?_ ?_
  · intro i hi z w7 kk hkk hC hdp
    match i, hi with
    | 0, _ =>
      refine wpOp_step rfl (fun K hK => ?_)
      clear hdp
      go_simp
      exact hK _ _ ⟨.int .i64 key, rfl, rfl, trivial, hC⟩
    | 1, _ =>
      have e0 : z 0 = .int .i64 key := hdp 0 (dep_of (by kernel_rfl))
      have hT := HK.out w7
      refine wpOp_step rfl (fun K hK => ?_)
      clear hdp
      go_simp
      refine hT.mono ?_
      rintro e w8 ⟨rfl, hb8⟩
      exact hK _ _ ⟨.bool true, by simp [upd, e0], rfl, trivial, hC.trans (hb8.mono hC.size)⟩
    | 2, _ =>
      have e1 : z 1 = .bool true := hdp 1 (dep_of (by kernel_rfl))
      refine wpOp_step rfl (fun K hK => ?_)
      clear hdp
      go_simp
      exact hK _ _ ⟨.bool true, by simp [upd, e1], rfl, trivial, hC⟩
    | 3, _ =>
      have e2 : z 2 = .bool true := hdp 2 (dep_of (by kernel_rfl))
      refine wpOp_step rfl (fun K hK => ?_)
      clear hdp
      go_simp
      exact hK _ _ ⟨.pointer (some ⟨w.heap.size, 2, none⟩), by simp [upd, e2], rfl, trivial, hC⟩
    | 4, _ =>
      obtain ⟨q0, q1, q2, q3, q4⟩ := sl_facts (HX.out w7 hC).2
      have e2 : z 2 = .bool true := hdp 2 (dep_of (by kernel_rfl))
      have e3 : z 3 = .pointer (some ⟨w.heap.size, 2, none⟩) := hdp 3 (dep_of (by kernel_rfl))
      refine wpOp_step rfl (fun K hK => ?_)
      clear hdp
      go_simp
      exact hK _ _ ⟨.int .i64 t, by simp [upd, e2, e3], rfl, trivial, hC⟩
    | 5, _ =>
      have e2 : z 2 = .bool true := hdp 2 (dep_of (by kernel_rfl))
      have e4 : z 4 = .int .i64 t := hdp 4 (dep_of (by kernel_rfl))
      have hT := HT.out w7
      refine wpOp_step rfl (fun K hK => ?_)
      clear hdp
      go_simp
      refine hT.mono ?_
      rintro e w8 ⟨rfl, hb8⟩
      exact hK _ _ ⟨.bool true, by simp [upd, e2, e4], rfl, trivial, hC.trans (hb8.mono hC.size)⟩
    | 6, _ =>
      have e2 : z 2 = .bool true := hdp 2 (dep_of (by kernel_rfl))
      have e5 : z 5 = .bool true := hdp 5 (dep_of (by kernel_rfl))
      refine wpOp_step rfl (fun K hK => ?_)
      clear hdp
      go_simp
      exact hK _ _ ⟨.bool true, by simp [upd, e2, e5], rfl, trivial, hC⟩
    | 7, _ =>
      have e6 : z 6 = .bool true := hdp 6 (dep_of (by kernel_rfl))
      refine wpOp_step rfl (fun K hK => ?_)
      clear hdp
      go_simp
      exact hK _ _ ⟨.bool true, by simp [upd, e6], rfl, trivial, hC⟩
    | 8, _ =>
      have e7 : z 7 = .bool true := hdp 7 (dep_of (by kernel_rfl))
      refine wpOp_step rfl (fun K hK => ?_)
      clear hdp
      go_simp
      exact hK _ _ ⟨.pointer (some ⟨w.heap.size, 3, none⟩), by simp [upd, e7], rfl, trivial, hC⟩
    | 9, _ =>
      obtain ⟨q0, q1, q2, q3, q4⟩ := sl_facts (HX.out w7 hC).2
      have e7 : z 7 = .bool true := hdp 7 (dep_of (by kernel_rfl))
      have e8 : z 8 = .pointer (some ⟨w.heap.size, 3, none⟩) := hdp 8 (dep_of (by kernel_rfl))
      refine wpOp_step rfl (fun K hK => ?_)
      clear hdp
      go_simp
      exact hK _ _ ⟨.int .i64 n, by simp [upd, e7, e8], rfl, trivial, hC⟩
    | 10, _ =>
      have e7 : z 7 = .bool true := hdp 7 (dep_of (by kernel_rfl))
      have e9 : z 9 = .int .i64 n := hdp 9 (dep_of (by kernel_rfl))
      have hT := HN.out w7
      refine wpOp_step rfl (fun K hK => ?_)
      clear hdp
      go_simp
      refine hT.mono ?_
      rintro e w8 ⟨rfl, hb8⟩
      exact hK _ _ ⟨.bool true, by simp [upd, e7, e9], rfl, trivial, hC.trans (hb8.mono hC.size)⟩
    | 11, _ =>
      have e7 : z 7 = .bool true := hdp 7 (dep_of (by kernel_rfl))
      have e10 : z 10 = .bool true := hdp 10 (dep_of (by kernel_rfl))
      refine wpOp_step rfl (fun K hK => ?_)
      clear hdp
      go_simp
      exact hK _ _ ⟨.bool true, by simp [upd, e7, e10], rfl, trivial, hC⟩
    | 12, _ =>
      have e11 : z 11 = .bool true := hdp 11 (dep_of (by kernel_rfl))
      refine wpOp_step rfl (fun K hK => ?_)
      clear hdp
      go_simp
      exact hK _ _ ⟨.bool true, by simp [upd, e11], rfl, trivial, hC⟩
    | 13, _ =>
      have e12 : z 12 = .bool true := hdp 12 (dep_of (by kernel_rfl))
      refine wpOp_step rfl (fun K hK => ?_)
      clear hdp
      go_simp
      exact hK _ _ ⟨.pointer (some ⟨w.heap.size, 0, none⟩), by simp [upd, e12], rfl, trivial, hC⟩
    | 14, _ =>
      obtain ⟨q0, q1, q2, q3, q4⟩ := sl_facts (HX.out w7 hC).2
      have e12 : z 12 = .bool true := hdp 12 (dep_of (by kernel_rfl))
      have e13 : z 13 = .pointer (some ⟨w.heap.size, 0, none⟩) := hdp 13 (dep_of (by kernel_rfl))
      refine wpOp_step rfl (fun K hK => ?_)
      clear hdp
      go_simp
      exact hK _ _ ⟨.string p, by simp [upd, e12, e13], rfl, trivial, hC⟩
    | 15, _ =>
      have e12 : z 12 = .bool true := hdp 12 (dep_of (by kernel_rfl))
      have e14 : z 14 = .string p := hdp 14 (dep_of (by kernel_rfl))
      refine wpOp_step rfl (fun K hK => ?_)
      clear hdp
      go_simp
      exact hK _ _ ⟨.int .i64 (p.size : Int), by simp [upd, e12, e14], rfl, trivial, hC⟩
    | 16, _ =>
      have e12 : z 12 = .bool true := hdp 12 (dep_of (by kernel_rfl))
      have e15 : z 15 = .int .i64 (p.size : Int) := hdp 15 (dep_of (by kernel_rfl))
      refine wpOp_step rfl (fun K hK => ?_)
      clear hdp
      go_simp
      exact hK _ _ ⟨.bool true, by simp [upd, e12, e15], rfl, trivial, hC⟩
    | 17, _ =>
      have e12 : z 12 = .bool true := hdp 12 (dep_of (by kernel_rfl))
      have e16 : z 16 = .bool true := hdp 16 (dep_of (by kernel_rfl))
      refine wpOp_step rfl (fun K hK => ?_)
      clear hdp
      go_simp
      exact hK _ _ ⟨.bool true, by simp [upd, e12, e16], rfl, trivial, hC⟩
    | 18, _ =>
      have e17 : z 17 = .bool true := hdp 17 (dep_of (by kernel_rfl))
      refine wpOp_step rfl (fun K hK => ?_)
      clear hdp
      go_simp
      exact hK _ _ ⟨.bool true, by simp [upd, e17], rfl, trivial, hC⟩
    | 19, _ =>
      have e18 : z 18 = .bool true := hdp 18 (dep_of (by kernel_rfl))
      refine wpOp_step rfl (fun K hK => ?_)
      clear hdp
      go_simp
      exact hK _ _ ⟨.pointer (some ⟨w.heap.size, 4, none⟩), by simp [upd, e18], rfl, trivial, hC⟩
    | 20, _ =>
      obtain ⟨q0, q1, q2, q3, q4⟩ := sl_facts (HX.out w7 hC).2
      have e18 : z 18 = .bool true := hdp 18 (dep_of (by kernel_rfl))
      have e19 : z 19 = .pointer (some ⟨w.heap.size, 4, none⟩) := hdp 19 (dep_of (by kernel_rfl))
      refine wpOp_step rfl (fun K hK => ?_)
      clear hdp
      go_simp
      exact hK _ _ ⟨.int .i64 c, by simp [upd, e18, e19], rfl, trivial, hC⟩
    | 21, _ =>
      have e18 : z 18 = .bool true := hdp 18 (dep_of (by kernel_rfl))
      refine wpOp_step rfl (fun K hK => ?_)
      clear hdp
      go_simp
      exact hK _ _ ⟨.int .i64 key, by simp [upd, e18], rfl, trivial, hC⟩
    | 22, _ =>
      have e18 : z 18 = .bool true := hdp 18 (dep_of (by kernel_rfl))
      refine wpOp_step rfl (fun K hK => ?_)
      clear hdp
      go_simp
      exact hK _ _ ⟨.pointer (some ⟨w.heap.size, 0, none⟩), by simp [upd, e18], rfl, trivial, hC⟩
    | 23, _ =>
      obtain ⟨q0, q1, q2, q3, q4⟩ := sl_facts (HX.out w7 hC).2
      have e18 : z 18 = .bool true := hdp 18 (dep_of (by kernel_rfl))
      have e22 : z 22 = .pointer (some ⟨w.heap.size, 0, none⟩) := hdp 22 (dep_of (by kernel_rfl))
      refine wpOp_step rfl (fun K hK => ?_)
      clear hdp
      go_simp
      exact hK _ _ ⟨.string p, by simp [upd, e18, e22], rfl, trivial, hC⟩
    | 24, _ =>
      have e18 : z 18 = .bool true := hdp 18 (dep_of (by kernel_rfl))
      refine wpOp_step rfl (fun K hK => ?_)
      clear hdp
      go_simp
      exact hK _ _ ⟨.pointer (some ⟨w.heap.size, 1, none⟩), by simp [upd, e18], rfl, trivial, hC⟩
    | 25, _ =>
      obtain ⟨q0, q1, q2, q3, q4⟩ := sl_facts (HX.out w7 hC).2
      have e18 : z 18 = .bool true := hdp 18 (dep_of (by kernel_rfl))
      have e24 : z 24 = .pointer (some ⟨w.heap.size, 1, none⟩) := hdp 24 (dep_of (by kernel_rfl))
      refine wpOp_step rfl (fun K hK => ?_)
      clear hdp
      go_simp
      exact hK _ _ ⟨.bool u, by simp [upd, e18, e24], rfl, trivial, hC⟩
    | 26, _ =>
      have e18 : z 18 = .bool true := hdp 18 (dep_of (by kernel_rfl))
      refine wpOp_step rfl (fun K hK => ?_)
      clear hdp
      go_simp
      exact hK _ _ ⟨.pointer (some ⟨w.heap.size, 2, none⟩), by simp [upd, e18], rfl, trivial, hC⟩
    | 27, _ =>
      obtain ⟨q0, q1, q2, q3, q4⟩ := sl_facts (HX.out w7 hC).2
      have e18 : z 18 = .bool true := hdp 18 (dep_of (by kernel_rfl))
      have e26 : z 26 = .pointer (some ⟨w.heap.size, 2, none⟩) := hdp 26 (dep_of (by kernel_rfl))
      refine wpOp_step rfl (fun K hK => ?_)
      clear hdp
      go_simp
      exact hK _ _ ⟨.int .i64 t, by simp [upd, e18, e26], rfl, trivial, hC⟩
    | 28, _ =>
      have e18 : z 18 = .bool true := hdp 18 (dep_of (by kernel_rfl))
      refine wpOp_step rfl (fun K hK => ?_)
      clear hdp
      go_simp
      exact hK _ _ ⟨.pointer (some ⟨w.heap.size, 3, none⟩), by simp [upd, e18], rfl, trivial, hC⟩
    | 29, _ =>
      obtain ⟨q0, q1, q2, q3, q4⟩ := sl_facts (HX.out w7 hC).2
      have e18 : z 18 = .bool true := hdp 18 (dep_of (by kernel_rfl))
      have e28 : z 28 = .pointer (some ⟨w.heap.size, 3, none⟩) := hdp 28 (dep_of (by kernel_rfl))
      refine wpOp_step rfl (fun K hK => ?_)
      clear hdp
      go_simp
      exact hK _ _ ⟨.int .i64 n, by simp [upd, e18, e28], rfl, trivial, hC⟩
    | 30, _ =>
      have e18 : z 18 = .bool true := hdp 18 (dep_of (by kernel_rfl))
      have e21 : z 21 = .int .i64 key := hdp 21 (dep_of (by kernel_rfl))
      have e23 : z 23 = .string p := hdp 23 (dep_of (by kernel_rfl))
      have e25 : z 25 = .bool u := hdp 25 (dep_of (by kernel_rfl))
      have e27 : z 27 = .int .i64 t := hdp 27 (dep_of (by kernel_rfl))
      have e29 : z 29 = .int .i64 n := hdp 29 (dep_of (by kernel_rfl))
      have hT := HV.out w7
      refine wpOp_step rfl (fun K hK => ?_)
      clear hdp
      go_simp
      refine hT.mono ?_
      rintro e w8 ⟨rfl, hb8⟩
      exact hK _ _ ⟨.int .i64 c, by simp [upd, e18, e21, e23, e25, e27, e29], rfl, trivial, hC.trans (hb8.mono hC.size)⟩
    | 31, _ =>
      have e18 : z 18 = .bool true := hdp 18 (dep_of (by kernel_rfl))
      have e20 : z 20 = .int .i64 c := hdp 20 (dep_of (by kernel_rfl))
      have e30 : z 30 = .int .i64 c := hdp 30 (dep_of (by kernel_rfl))
      refine wpOp_step rfl (fun K hK => ?_)
      clear hdp
      go_simp
      exact hK _ _ ⟨.bool true, by simp [upd, e18, e20, e30], rfl, trivial, hC⟩
    | 32, _ =>
      have e18 : z 18 = .bool true := hdp 18 (dep_of (by kernel_rfl))
      have e31 : z 31 = .bool true := hdp 31 (dep_of (by kernel_rfl))
      refine wpOp_step rfl (fun K hK => ?_)
      clear hdp
      go_simp
      exact hK _ _ ⟨.bool true, by simp [upd, e18, e31], rfl, trivial, hC⟩
    | 33, _ =>
      have e32 : z 32 = .bool true := hdp 32 (dep_of (by kernel_rfl))
      refine wpOp_step rfl (fun K hK => ?_)
      clear hdp
      go_simp
      exact hK _ _ ⟨.bool true, by simp [upd, e32], rfl, trivial, hC⟩
    | 34, _ =>
      have e33 : z 33 = .bool true := hdp 33 (dep_of (by kernel_rfl))
      refine wpOp_step rfl (fun K hK => ?_)
      clear hdp
      go_simp
      exact hK _ _ ⟨.pointer (some ⟨w.heap.size, 2, none⟩), by simp [upd, e33], rfl, trivial, hC⟩
    | 35, _ =>
      obtain ⟨q0, q1, q2, q3, q4⟩ := sl_facts (HX.out w7 hC).2
      have e33 : z 33 = .bool true := hdp 33 (dep_of (by kernel_rfl))
      have e34 : z 34 = .pointer (some ⟨w.heap.size, 2, none⟩) := hdp 34 (dep_of (by kernel_rfl))
      refine wpOp_step rfl (fun K hK => ?_)
      clear hdp
      go_simp
      exact hK _ _ ⟨.int .i64 t, by simp [upd, e33, e34], rfl, trivial, hC⟩
    | 36, _ =>
      have e33 : z 33 = .bool true := hdp 33 (dep_of (by kernel_rfl))
      refine wpOp_step rfl (fun K hK => ?_)
      clear hdp
      go_simp
      exact hK _ _ ⟨.int .i64 now, by simp [upd, e33], rfl, trivial, hC⟩
    | 37, _ =>
      have e33 : z 33 = .bool true := hdp 33 (dep_of (by kernel_rfl))
      have e35 : z 35 = .int .i64 t := hdp 35 (dep_of (by kernel_rfl))
      have e36 : z 36 = .int .i64 now := hdp 36 (dep_of (by kernel_rfl))
      refine wpOp_step rfl (fun K hK => ?_)
      clear hdp
      go_simp
      exact hK _ _ ⟨.bool true, by simp [upd, e33, e35, e36], rfl, trivial, hC⟩
    | 38, _ =>
      have e33 : z 33 = .bool true := hdp 33 (dep_of (by kernel_rfl))
      have e37 : z 37 = .bool true := hdp 37 (dep_of (by kernel_rfl))
      refine wpOp_step rfl (fun K hK => ?_)
      clear hdp
      go_simp
      exact hK _ _ ⟨.bool true, by simp [upd, e33, e37], rfl, trivial, hC⟩
    | 39, _ =>
      have e38 : z 38 = .bool true := hdp 38 (dep_of (by kernel_rfl))
      refine wpOp_step rfl (fun K hK => ?_)
      clear hdp
      go_simp
      exact hK _ _ ⟨.bool true, by simp [upd, e38], rfl, trivial, hC⟩
    | 40, _ =>
      have e39 : z 39 = .bool true := hdp 39 (dep_of (by kernel_rfl))
      refine wpOp_step rfl (fun K hK => ?_)
      clear hdp
      go_simp
      exact hK _ _ ⟨.pointer (some ⟨w.heap.size, 3, none⟩), by simp [upd, e39], rfl, trivial, hC⟩
    | 41, _ =>
      obtain ⟨q0, q1, q2, q3, q4⟩ := sl_facts (HX.out w7 hC).2
      have e39 : z 39 = .bool true := hdp 39 (dep_of (by kernel_rfl))
      have e40 : z 40 = .pointer (some ⟨w.heap.size, 3, none⟩) := hdp 40 (dep_of (by kernel_rfl))
      refine wpOp_step rfl (fun K hK => ?_)
      clear hdp
      go_simp
      exact hK _ _ ⟨.int .i64 n, by simp [upd, e39, e40], rfl, trivial, hC⟩
    | 42, _ =>
      have e39 : z 39 = .bool true := hdp 39 (dep_of (by kernel_rfl))
      refine wpOp_step rfl (fun K hK => ?_)
      clear hdp
      go_simp
      exact hK _ _ ⟨.int .i64 last, by simp [upd, e39], rfl, trivial, hC⟩
    | 43, _ =>
      have e39 : z 39 = .bool true := hdp 39 (dep_of (by kernel_rfl))
      have e41 : z 41 = .int .i64 n := hdp 41 (dep_of (by kernel_rfl))
      have e42 : z 42 = .int .i64 last := hdp 42 (dep_of (by kernel_rfl))
      refine wpOp_step rfl (fun K hK => ?_)
      clear hdp
      go_simp
      exact hK _ _ ⟨.bool true, by simp [upd, e39, e41, e42], rfl, trivial, hC⟩
    | 44, _ =>
      have e39 : z 39 = .bool true := hdp 39 (dep_of (by kernel_rfl))
      have e43 : z 43 = .bool true := hdp 43 (dep_of (by kernel_rfl))
      refine wpOp_step rfl (fun K hK => ?_)
      clear hdp
      go_simp
      exact hK _ _ ⟨.bool true, by simp [upd, e39, e43], rfl, trivial, hC⟩
    | n + 45, hn => exact absurd hn (by omega)
  · intro z w7 kk hkk hC hdp
    have e44 : z 44 = .bool true := hdp 44 (by decide)
    refine wpOp_step rfl (fun K hK => ?_)
    clear hdp
    go_simp
    refine hK _ _ ?_
    clear hK K e44
    have HBw := Lib.hid (HX.out w7 hC).1
    clear hC
    go_wp2
    go_ret
    exact ⟨rfl, HBw.out⟩

theorem spec_right (key : Int) (s : Sl) (now last : Int) (w : World) (hp : s.path.size ≤ maxLen) :
    Calls Tryd.prog 11 #[.int .i64 key, slV s, .int .i64 now, .int .i64 last] w fun e w' => e = .returned (.bool (rightS key s now last)) ∧ Below w.heap.size w w' := by
  rw [right_split]
  obtain ⟨p, u, t, n, c⟩ := s
  dsimp only at hp ⊢
  rcases Bool.eq_false_or_eq_true (decide (1 ≤ key ∧ key ≤ 9999)) with h0 | h0
  · rcases Bool.eq_false_or_eq_true (decide (0 ≤ t ∧ t ≤ 999999)) with h1 | h1
    · rcases Bool.eq_false_or_eq_true (decide (0 ≤ n ∧ n ≤ 999999)) with h2 | h2
      · by_cases h3 : p.size ≤ 40
        · by_cases h4 : c = selS key p u t n
          · by_cases h5 : now < t
            · by_cases h6 : last < n
              · rw [h0, h1, h2, decide_eq_true h3, decide_eq_true h4, decide_eq_true h5, decide_eq_true h6]; exact spec_right7 key p u t n c now last w hp h0 h1 h2 h3 h4 h5 h6
              · rw [h0, h1, h2, decide_eq_true h3, decide_eq_true h4, decide_eq_true h5, decide_eq_false h6]; exact spec_right6 key p u t n c now last w hp h0 h1 h2 h3 h4 h5 h6
            · rw [h0, h1, h2, decide_eq_true h3, decide_eq_true h4, decide_eq_false h5]; exact spec_right5 key p u t n c now last w hp h0 h1 h2 h3 h4 h5
          · rw [h0, h1, h2, decide_eq_true h3, decide_eq_false h4]; exact spec_right4 key p u t n c now last w hp h0 h1 h2 h3 h4
        · rw [h0, h1, h2, decide_eq_false h3]; exact spec_right3 key p u t n c now last w hp h0 h1 h2 h3
      · rw [h0, h1, h2]; exact spec_right2 key p u t n c now last w hp h0 h1 h2
    · rw [h0, h1]; exact spec_right1 key p u t n c now last w hp h0 h1
  · rw [h0]; exact spec_right0 key p u t n c now last w hp h0
end Go.Proofs.YtbhnjnoblkfckabDoor
