/- Walks: whether storage is ok, by the program. -/
import Derived.Test.YtbhnjnoblkfckaaGreatDoorStO0
import Derived.Test.YtbhnjnoblkfckaaGreatDoorStO1
import Derived.Test.YtbhnjnoblkfckaaGreatDoorStO2
import Derived.Test.YtbhnjnoblkfckaaGreatDoorGSn
import Derived.Test.YtbhnjnoblkfckaaGreatDoorGZ12
import Derived.Test.YtbhnjnoblkfckaaGreatDoorGZ13
import Derived.Test.YtbhnjnoblkfckaaGreatDoorGZ05
import Derived.Test.YtbhnjnoblkfckaaGreatDoorGZ10
namespace Go.Proofs.YtbhnjnoblkfckaaGreatDoor
open Go.RowKit Go.Maps

open Classical in
set_option maxRecDepth 100000 in
set_option maxHeartbeats 6400000 in
theorem impl_stook (h : Hs) (u v : Value) (L : List En) (w : World) (hS : NRow w u h.names) (hN : NOk h.names 1048576) (hR : ERow w v L) (hE : EnsOk 1048576 L) (hn : L.length ≤ 2000000) (hcls : Cls w) :
    Calls Tryz.prog 15 #[.agg #[u, .int .i64 h.key, .int .i64 h.maxN, .int .i64 h.maxB], .agg #[v]] w fun e w' => e = .returned (.bool (okE h L)) ∧ Below w.heap.size w w' := by
  obtain ⟨wA, hwA⟩ : ∃ wA, wA = (w.alloc (.cells #[u, .int .i64 h.key, .int .i64 h.maxN, .int .i64 h.maxB] 31)).alloc (.cells #[v] 35) := ⟨_, rfl⟩
  have hsA : wA.heap.size = w.heap.size + 2 := by rw [hwA]; simp
  have hbA : Below w.heap.size w wA := by rw [hwA]; exact ((Below.refl _ _).alloc (Nat.le_refl _) _).alloc (by simp) _
  have hH0 : wA.heap[w.heap.size]? = some (.cells #[u, .int .i64 h.key, .int .i64 h.maxN, .int .i64 h.maxB] 31 (0, 0)) := by
    rw [hwA]; exact (Below.heap_alloc _ _ _ (by simp)).trans (heap_alloc_new w _)
  have hH1 : wA.heap[w.heap.size + 1]? = some (.cells #[v] 35 (0, 0)) := by
    rw [hwA]
    have := heap_alloc_new (w.alloc (.cells #[u, .int .i64 h.key, .int .i64 h.maxN, .int .i64 h.maxB] 31)) (.cells #[v] 35)
    rwa [World.size_alloc] at this
  have HX : Hid (∀ W, Below wA.heap.size wA W → (Cls W ∧ NRow W u h.names) ∧ ERow W v L ∧ W.heap[w.heap.size]? = some (.cells #[u, .int .i64 h.key, .int .i64 h.maxN, .int .i64 h.maxB] 31 (0, 0)) ∧ W.heap[w.heap.size + 1]? = some (.cells #[v] 35 (0, 0)) ∧ Below w.heap.size w W) := Lib.hid fun W hW => by
    have hb := hbA.trans (hW.mono (by omega))
    exact ⟨⟨hcls.below hb (Nat.le_refl _), hS.below (Nat.le_refl _) hb⟩, hR.below (Nat.le_refl _) hb, (hW.block _ (by omega)).trans hH0, (hW.block _ (by omega)).trans hH1, hb⟩
  have HW := Lib.hid hwA
  have hb0 : Below wA.heap.size wA wA := Below.refl _ _
  have HHo : Hid (∀ W, ((Cls W ∧ NRow W u h.names) ∧ ERow W v L ∧ W.heap[w.heap.size]? = some (.cells #[u, .int .i64 h.key, .int .i64 h.maxN, .int .i64 h.maxB] 31 (0, 0)) ∧ W.heap[w.heap.size + 1]? = some (.cells #[v] 35 (0, 0)) ∧ Below w.heap.size w W) → Calls Tryz.prog 43 #[.agg #[u, .int .i64 h.key, .int .i64 h.maxN, .int .i64 h.maxB]] W fun e w' => e = .returned (.bool (houseB h)) ∧ Below W.heap.size W w') := Lib.hid fun W hW => house_ok h u W hW.1.2 hN hW.1.1
  have HBy : Hid (∀ W, ((Cls W ∧ NRow W u h.names) ∧ ERow W v L ∧ W.heap[w.heap.size]? = some (.cells #[u, .int .i64 h.key, .int .i64 h.maxN, .int .i64 h.maxB] 31 (0, 0)) ∧ W.heap[w.heap.size + 1]? = some (.cells #[v] 35 (0, 0)) ∧ Below w.heap.size w W) → Calls Tryz.prog 32 #[.agg #[v]] W fun e' w' => e' = .returned (.int .i64 ((bytesE L : Nat) : Int)) ∧ Below W.heap.size W w') := Lib.hid fun W hW => impl_bytes v L W hW.2.1 hE hn
  have HE := Lib.hid hE
  have hrow := hR
  obtain ⟨a, c0, rfl, hl1, hl2, h3⟩ := hR
  unfold maxLen at hl2
  have HRow := Lib.hid h3
  clear h3 hE
  rw [okE_split]
  clear hwA hbA hH0 hH1 hS hN hrow hcls
  generalize houseB h = HB at *
  have hbl : (bytesE L : Int) ≤ 9223372036854775807 := by
    have : bytesE L ≤ 6291456000000 := bytes_small HE.out hn
    omega
  cases HB
  · rw [show (false && (decide ((L.length : Int) ≤ h.maxN) && (decide ((bytesE L : Int) ≤ h.maxB) && (L.all entryB && decide (apartE L))))) = false from rfl]
    go_enter Tryz.func15, Tryz.ntmps15
    go_wp2_with fail
    rw [← HW.out]
    refine wp_region_last (by kernel_rfl) 17 (by kernel_rfl) (by kernel_rfl) (by kernel_rfl)
      (fun z => { tmps := #[.agg #[u, .int .i64 h.key, .int .i64 h.maxN, .int .i64 h.maxB], .agg #[.slice a L.length c0], .pointer (some ⟨w.heap.size, 0, none⟩), .pointer (some ⟨w.heap.size + 1, 0, none⟩), .bool false, undef, undef, z 0, z 1, z 2, z 3, z 4, z 5, z 6, z 7, z 8, z 9, z 10, z 11, z 12, z 13, z 14, z 15, z 16, undef, undef, undef, undef, undef, undef, undef, undef, undef, undef, undef, undef, undef, undef, undef, undef, undef, undef, undef, undef, undef, undef], defers := [] })
      (fun _ W => Below wA.heap.size wA W)
      (fun i xv _ => xv = ([.agg #[u, .int .i64 h.key, .int .i64 h.maxN, .int .i64 h.maxB], .bool false, .bool true, .bool true, undef, undef, undef, undef, undef, undef, .bool true, .bool true, undef, undef, undef, undef, undef] : List Value).getD i undef)
      (fun _ _ => True) (fun _ => undef) (Below.refl _ _).drew
      (fun _ _ _ _ _ h _ => h) ?_ ?_
    · intro i hi z w7 kk hkk hC hdp
      match i, hi with
      | 0, _ =>
        obtain ⟨q0, q1, q2, q3, -⟩ := four_facts (HX.out w7 hC).2.2.1
        refine wpOp_step rfl (fun K hK => ?_)
        clear hdp
        go_simp
        exact hK _ _ ⟨.agg #[u, .int .i64 h.key, .int .i64 h.maxN, .int .i64 h.maxB], rfl, rfl, trivial, hC⟩
      | 1, _ =>
        have e0 : z 0 = .agg #[u, .int .i64 h.key, .int .i64 h.maxN, .int .i64 h.maxB] := hdp 0 (dep_of (by kernel_rfl))
        have hT := HHo.out w7 (HX.out w7 hC)
        refine wpOp_step rfl (fun K hK => ?_)
        clear hdp
        go_simp
        refine hT.mono ?_
        rintro e w8 ⟨rfl, hb8⟩
        exact hK _ _ ⟨.bool false, by simp [upd, e0], rfl, trivial, hC.trans (hb8.mono hC.size)⟩
      | 2, _ =>
        have e1 : z 1 = .bool false := hdp 1 (dep_of (by kernel_rfl))
        refine wpOp_step rfl (fun K hK => ?_)
        clear hdp
        go_simp
        exact hK _ _ ⟨.bool true, by simp [upd, e1], rfl, trivial, hC⟩
      | 3, _ =>
        have e2 : z 2 = .bool true := hdp 2 (dep_of (by kernel_rfl))
        refine wpOp_step rfl (fun K hK => ?_)
        clear hdp
        go_simp
        exact hK _ _ ⟨.bool true, by simp [upd, e2], rfl, trivial, hC⟩
      | 4, _ =>
        have e3 : z 3 = .bool true := hdp 3 (dep_of (by kernel_rfl))
        refine wpOp_step rfl (fun K hK => ?_)
        clear hdp
        go_simp
        exact hK _ _ ⟨undef, by simp [upd, e3], rfl, trivial, hC⟩
      | 5, _ =>
        have e3 : z 3 = .bool true := hdp 3 (dep_of (by kernel_rfl))
        refine wpOp_step rfl (fun K hK => ?_)
        clear hdp
        go_simp
        exact hK _ _ ⟨undef, by simp [upd, e3], rfl, trivial, hC⟩
      | 6, _ =>
        have e3 : z 3 = .bool true := hdp 3 (dep_of (by kernel_rfl))
        refine wpOp_step rfl (fun K hK => ?_)
        clear hdp
        go_simp
        exact hK _ _ ⟨undef, by simp [upd, e3], rfl, trivial, hC⟩
      | 7, _ =>
        have e3 : z 3 = .bool true := hdp 3 (dep_of (by kernel_rfl))
        refine wpOp_step rfl (fun K hK => ?_)
        clear hdp
        go_simp
        exact hK _ _ ⟨undef, by simp [upd, e3], rfl, trivial, hC⟩
      | 8, _ =>
        have e3 : z 3 = .bool true := hdp 3 (dep_of (by kernel_rfl))
        refine wpOp_step rfl (fun K hK => ?_)
        clear hdp
        go_simp
        exact hK _ _ ⟨undef, by simp [upd, e3], rfl, trivial, hC⟩
      | 9, _ =>
        have e3 : z 3 = .bool true := hdp 3 (dep_of (by kernel_rfl))
        refine wpOp_step rfl (fun K hK => ?_)
        clear hdp
        go_simp
        exact hK _ _ ⟨undef, by simp [upd, e3], rfl, trivial, hC⟩
      | 10, _ =>
        have e3 : z 3 = .bool true := hdp 3 (dep_of (by kernel_rfl))
        have e9 : z 9 = undef := hdp 9 (dep_of (by kernel_rfl))
        refine wpOp_step rfl (fun K hK => ?_)
        clear hdp
        go_simp
        exact hK _ _ ⟨.bool true, by simp [upd, e3, e9], rfl, trivial, hC⟩
      | 11, _ =>
        have e10 : z 10 = .bool true := hdp 10 (dep_of (by kernel_rfl))
        refine wpOp_step rfl (fun K hK => ?_)
        clear hdp
        go_simp
        exact hK _ _ ⟨.bool true, by simp [upd, e10], rfl, trivial, hC⟩
      | 12, _ =>
        have e11 : z 11 = .bool true := hdp 11 (dep_of (by kernel_rfl))
        refine wpOp_step rfl (fun K hK => ?_)
        clear hdp
        go_simp
        exact hK _ _ ⟨undef, by simp [upd, e11], rfl, trivial, hC⟩
      | 13, _ =>
        have e11 : z 11 = .bool true := hdp 11 (dep_of (by kernel_rfl))
        refine wpOp_step rfl (fun K hK => ?_)
        clear hdp
        go_simp
        exact hK _ _ ⟨undef, by simp [upd, e11], rfl, trivial, hC⟩
      | 14, _ =>
        have e11 : z 11 = .bool true := hdp 11 (dep_of (by kernel_rfl))
        refine wpOp_step rfl (fun K hK => ?_)
        clear hdp
        go_simp
        exact hK _ _ ⟨undef, by simp [upd, e11], rfl, trivial, hC⟩
      | 15, _ =>
        have e11 : z 11 = .bool true := hdp 11 (dep_of (by kernel_rfl))
        refine wpOp_step rfl (fun K hK => ?_)
        clear hdp
        go_simp
        exact hK _ _ ⟨undef, by simp [upd, e11], rfl, trivial, hC⟩
      | 16, _ =>
        have e11 : z 11 = .bool true := hdp 11 (dep_of (by kernel_rfl))
        refine wpOp_step rfl (fun K hK => ?_)
        clear hdp
        go_simp
        exact hK _ _ ⟨undef, by simp [upd, e11], rfl, trivial, hC⟩
      | n + 17, hn => exact absurd hn (by omega)
    · intro z w7 kk hkk hC hdp
      have e11 : z 11 = .bool true := hdp 11 (by decide)
      have e16 : z 16 = undef := hdp 16 (by decide)
      refine wpOp_step rfl (fun K hK => ?_)
      clear hdp
      go_simp
      refine hK _ _ ?_
      clear hK K e11 e16
      have HBw := Lib.hid (HX.out w7 hC).2.2.2.2
      clear hC
      go_wp2
      go_ret
      exact ⟨rfl, HBw.out⟩
  by_cases c1 : (L.length : Int) ≤ h.maxN
  rotate_left
  · rw [decide_eq_false c1, show (true && (false && (decide ((bytesE L : Int) ≤ h.maxB) && (L.all entryB && decide (apartE L))))) = false from rfl]
    have g1 : decide (h.maxN < (L.length : Int)) = true := by simp; omega
    go_enter Tryz.func15, Tryz.ntmps15
    go_wp2_with fail
    rw [← HW.out]
    refine wp_region_last (by kernel_rfl) 17 (by kernel_rfl) (by kernel_rfl) (by kernel_rfl)
      (fun z => { tmps := #[.agg #[u, .int .i64 h.key, .int .i64 h.maxN, .int .i64 h.maxB], .agg #[.slice a L.length c0], .pointer (some ⟨w.heap.size, 0, none⟩), .pointer (some ⟨w.heap.size + 1, 0, none⟩), .bool false, undef, undef, z 0, z 1, z 2, z 3, z 4, z 5, z 6, z 7, z 8, z 9, z 10, z 11, z 12, z 13, z 14, z 15, z 16, undef, undef, undef, undef, undef, undef, undef, undef, undef, undef, undef, undef, undef, undef, undef, undef, undef, undef, undef, undef, undef, undef], defers := [] })
      (fun _ W => Below wA.heap.size wA W)
      (fun i xv _ => xv = ([.agg #[u, .int .i64 h.key, .int .i64 h.maxN, .int .i64 h.maxB], .bool true, .bool false, .bool false, .pointer (some ⟨w.heap.size + 1, 0, none⟩), .slice a L.length c0, .int .i64 (L.length : Int), .pointer (some ⟨w.heap.size, 2, none⟩), .int .i64 h.maxN, .bool true, .bool true, .bool true, undef, undef, undef, undef, undef] : List Value).getD i undef)
      (fun _ _ => True) (fun _ => undef) (Below.refl _ _).drew
      (fun _ _ _ _ _ h _ => h) ?_ ?_
    · intro i hi z w7 kk hkk hC hdp
      match i, hi with
      | 0, _ =>
        obtain ⟨q0, q1, q2, q3, -⟩ := four_facts (HX.out w7 hC).2.2.1
        refine wpOp_step rfl (fun K hK => ?_)
        clear hdp
        go_simp
        exact hK _ _ ⟨.agg #[u, .int .i64 h.key, .int .i64 h.maxN, .int .i64 h.maxB], rfl, rfl, trivial, hC⟩
      | 1, _ =>
        have e0 : z 0 = .agg #[u, .int .i64 h.key, .int .i64 h.maxN, .int .i64 h.maxB] := hdp 0 (dep_of (by kernel_rfl))
        have hT := HHo.out w7 (HX.out w7 hC)
        refine wpOp_step rfl (fun K hK => ?_)
        clear hdp
        go_simp
        refine hT.mono ?_
        rintro e w8 ⟨rfl, hb8⟩
        exact hK _ _ ⟨.bool true, by simp [upd, e0], rfl, trivial, hC.trans (hb8.mono hC.size)⟩
      | 2, _ =>
        have e1 : z 1 = .bool true := hdp 1 (dep_of (by kernel_rfl))
        refine wpOp_step rfl (fun K hK => ?_)
        clear hdp
        go_simp
        exact hK _ _ ⟨.bool false, by simp [upd, e1], rfl, trivial, hC⟩
      | 3, _ =>
        have e2 : z 2 = .bool false := hdp 2 (dep_of (by kernel_rfl))
        refine wpOp_step rfl (fun K hK => ?_)
        clear hdp
        go_simp
        exact hK _ _ ⟨.bool false, by simp [upd, e2], rfl, trivial, hC⟩
      | 4, _ =>
        have e3 : z 3 = .bool false := hdp 3 (dep_of (by kernel_rfl))
        refine wpOp_step rfl (fun K hK => ?_)
        clear hdp
        go_simp
        exact hK _ _ ⟨.pointer (some ⟨w.heap.size + 1, 0, none⟩), by simp [upd, e3], rfl, trivial, hC⟩
      | 5, _ =>
        obtain ⟨p0, -⟩ := one_factE (HX.out w7 hC).2.2.2.1
        have e3 : z 3 = .bool false := hdp 3 (dep_of (by kernel_rfl))
        have e4 : z 4 = .pointer (some ⟨w.heap.size + 1, 0, none⟩) := hdp 4 (dep_of (by kernel_rfl))
        refine wpOp_step rfl (fun K hK => ?_)
        clear hdp
        go_simp
        exact hK _ _ ⟨.slice a L.length c0, by simp [upd, e3, e4], rfl, trivial, hC⟩
      | 6, _ =>
        have e3 : z 3 = .bool false := hdp 3 (dep_of (by kernel_rfl))
        have e5 : z 5 = .slice a L.length c0 := hdp 5 (dep_of (by kernel_rfl))
        refine wpOp_step rfl (fun K hK => ?_)
        clear hdp
        go_simp
        exact hK _ _ ⟨.int .i64 (L.length : Int), by simp [upd, e3, e5], rfl, trivial, hC⟩
      | 7, _ =>
        have e3 : z 3 = .bool false := hdp 3 (dep_of (by kernel_rfl))
        refine wpOp_step rfl (fun K hK => ?_)
        clear hdp
        go_simp
        exact hK _ _ ⟨.pointer (some ⟨w.heap.size, 2, none⟩), by simp [upd, e3], rfl, trivial, hC⟩
      | 8, _ =>
        obtain ⟨q0, q1, q2, q3, -⟩ := four_facts (HX.out w7 hC).2.2.1
        have e3 : z 3 = .bool false := hdp 3 (dep_of (by kernel_rfl))
        have e7 : z 7 = .pointer (some ⟨w.heap.size, 2, none⟩) := hdp 7 (dep_of (by kernel_rfl))
        refine wpOp_step rfl (fun K hK => ?_)
        clear hdp
        go_simp
        exact hK _ _ ⟨.int .i64 h.maxN, by simp [upd, e3, e7], rfl, trivial, hC⟩
      | 9, _ =>
        have e3 : z 3 = .bool false := hdp 3 (dep_of (by kernel_rfl))
        have e6 : z 6 = .int .i64 (L.length : Int) := hdp 6 (dep_of (by kernel_rfl))
        have e8 : z 8 = .int .i64 h.maxN := hdp 8 (dep_of (by kernel_rfl))
        refine wpOp_step rfl (fun K hK => ?_)
        clear hdp
        go_simp
        exact hK _ _ ⟨.bool true, by simp [upd, e3, e6, e8], rfl, trivial, hC⟩
      | 10, _ =>
        have e3 : z 3 = .bool false := hdp 3 (dep_of (by kernel_rfl))
        have e9 : z 9 = .bool true := hdp 9 (dep_of (by kernel_rfl))
        refine wpOp_step rfl (fun K hK => ?_)
        clear hdp
        go_simp
        exact hK _ _ ⟨.bool true, by simp [upd, e3, e9], rfl, trivial, hC⟩
      | 11, _ =>
        have e10 : z 10 = .bool true := hdp 10 (dep_of (by kernel_rfl))
        refine wpOp_step rfl (fun K hK => ?_)
        clear hdp
        go_simp
        exact hK _ _ ⟨.bool true, by simp [upd, e10], rfl, trivial, hC⟩
      | 12, _ =>
        have e11 : z 11 = .bool true := hdp 11 (dep_of (by kernel_rfl))
        refine wpOp_step rfl (fun K hK => ?_)
        clear hdp
        go_simp
        exact hK _ _ ⟨undef, by simp [upd, e11], rfl, trivial, hC⟩
      | 13, _ =>
        have e11 : z 11 = .bool true := hdp 11 (dep_of (by kernel_rfl))
        refine wpOp_step rfl (fun K hK => ?_)
        clear hdp
        go_simp
        exact hK _ _ ⟨undef, by simp [upd, e11], rfl, trivial, hC⟩
      | 14, _ =>
        have e11 : z 11 = .bool true := hdp 11 (dep_of (by kernel_rfl))
        refine wpOp_step rfl (fun K hK => ?_)
        clear hdp
        go_simp
        exact hK _ _ ⟨undef, by simp [upd, e11], rfl, trivial, hC⟩
      | 15, _ =>
        have e11 : z 11 = .bool true := hdp 11 (dep_of (by kernel_rfl))
        refine wpOp_step rfl (fun K hK => ?_)
        clear hdp
        go_simp
        exact hK _ _ ⟨undef, by simp [upd, e11], rfl, trivial, hC⟩
      | 16, _ =>
        have e11 : z 11 = .bool true := hdp 11 (dep_of (by kernel_rfl))
        refine wpOp_step rfl (fun K hK => ?_)
        clear hdp
        go_simp
        exact hK _ _ ⟨undef, by simp [upd, e11], rfl, trivial, hC⟩
      | n + 17, hn => exact absurd hn (by omega)
    · intro z w7 kk hkk hC hdp
      have e11 : z 11 = .bool true := hdp 11 (by decide)
      have e16 : z 16 = undef := hdp 16 (by decide)
      refine wpOp_step rfl (fun K hK => ?_)
      clear hdp
      go_simp
      refine hK _ _ ?_
      clear hK K e11 e16
      have HBw := Lib.hid (HX.out w7 hC).2.2.2.2
      clear hC
      go_wp2
      go_ret
      exact ⟨rfl, HBw.out⟩
  have g1 : decide (h.maxN < (L.length : Int)) = false := by simp; omega
  by_cases c2 : (bytesE L : Int) ≤ h.maxB
  rotate_left
  · rw [decide_eq_true c1, decide_eq_false c2, show (true && (true && (false && (L.all entryB && decide (apartE L))))) = false from rfl]
    have g2 : decide (h.maxB < (bytesE L : Int)) = true := by simp; omega
    go_enter Tryz.func15, Tryz.ntmps15
    go_wp2_with fail
    rw [← HW.out]
    refine wp_region_last (by kernel_rfl) 17 (by kernel_rfl) (by kernel_rfl) (by kernel_rfl)
      (fun z => { tmps := #[.agg #[u, .int .i64 h.key, .int .i64 h.maxN, .int .i64 h.maxB], .agg #[.slice a L.length c0], .pointer (some ⟨w.heap.size, 0, none⟩), .pointer (some ⟨w.heap.size + 1, 0, none⟩), .bool false, undef, undef, z 0, z 1, z 2, z 3, z 4, z 5, z 6, z 7, z 8, z 9, z 10, z 11, z 12, z 13, z 14, z 15, z 16, undef, undef, undef, undef, undef, undef, undef, undef, undef, undef, undef, undef, undef, undef, undef, undef, undef, undef, undef, undef, undef, undef], defers := [] })
      (fun _ W => Below wA.heap.size wA W)
      (fun i xv _ => xv = ([.agg #[u, .int .i64 h.key, .int .i64 h.maxN, .int .i64 h.maxB], .bool true, .bool false, .bool false, .pointer (some ⟨w.heap.size + 1, 0, none⟩), .slice a L.length c0, .int .i64 (L.length : Int), .pointer (some ⟨w.heap.size, 2, none⟩), .int .i64 h.maxN, .bool false, .bool false, .bool false, .agg #[.slice a L.length c0], .int .i64 (bytesE L : Int), .pointer (some ⟨w.heap.size, 3, none⟩), .int .i64 h.maxB, .bool true] : List Value).getD i undef)
      (fun _ _ => True) (fun _ => undef) (Below.refl _ _).drew
      (fun _ _ _ _ _ h _ => h) ?_ ?_
    · intro i hi z w7 kk hkk hC hdp
      match i, hi with
      | 0, _ =>
        obtain ⟨q0, q1, q2, q3, -⟩ := four_facts (HX.out w7 hC).2.2.1
        refine wpOp_step rfl (fun K hK => ?_)
        clear hdp
        go_simp
        exact hK _ _ ⟨.agg #[u, .int .i64 h.key, .int .i64 h.maxN, .int .i64 h.maxB], rfl, rfl, trivial, hC⟩
      | 1, _ =>
        have e0 : z 0 = .agg #[u, .int .i64 h.key, .int .i64 h.maxN, .int .i64 h.maxB] := hdp 0 (dep_of (by kernel_rfl))
        have hT := HHo.out w7 (HX.out w7 hC)
        refine wpOp_step rfl (fun K hK => ?_)
        clear hdp
        go_simp
        refine hT.mono ?_
        rintro e w8 ⟨rfl, hb8⟩
        exact hK _ _ ⟨.bool true, by simp [upd, e0], rfl, trivial, hC.trans (hb8.mono hC.size)⟩
      | 2, _ =>
        have e1 : z 1 = .bool true := hdp 1 (dep_of (by kernel_rfl))
        refine wpOp_step rfl (fun K hK => ?_)
        clear hdp
        go_simp
        exact hK _ _ ⟨.bool false, by simp [upd, e1], rfl, trivial, hC⟩
      | 3, _ =>
        have e2 : z 2 = .bool false := hdp 2 (dep_of (by kernel_rfl))
        refine wpOp_step rfl (fun K hK => ?_)
        clear hdp
        go_simp
        exact hK _ _ ⟨.bool false, by simp [upd, e2], rfl, trivial, hC⟩
      | 4, _ =>
        have e3 : z 3 = .bool false := hdp 3 (dep_of (by kernel_rfl))
        refine wpOp_step rfl (fun K hK => ?_)
        clear hdp
        go_simp
        exact hK _ _ ⟨.pointer (some ⟨w.heap.size + 1, 0, none⟩), by simp [upd, e3], rfl, trivial, hC⟩
      | 5, _ =>
        obtain ⟨p0, -⟩ := one_factE (HX.out w7 hC).2.2.2.1
        have e3 : z 3 = .bool false := hdp 3 (dep_of (by kernel_rfl))
        have e4 : z 4 = .pointer (some ⟨w.heap.size + 1, 0, none⟩) := hdp 4 (dep_of (by kernel_rfl))
        refine wpOp_step rfl (fun K hK => ?_)
        clear hdp
        go_simp
        exact hK _ _ ⟨.slice a L.length c0, by simp [upd, e3, e4], rfl, trivial, hC⟩
      | 6, _ =>
        have e3 : z 3 = .bool false := hdp 3 (dep_of (by kernel_rfl))
        have e5 : z 5 = .slice a L.length c0 := hdp 5 (dep_of (by kernel_rfl))
        refine wpOp_step rfl (fun K hK => ?_)
        clear hdp
        go_simp
        exact hK _ _ ⟨.int .i64 (L.length : Int), by simp [upd, e3, e5], rfl, trivial, hC⟩
      | 7, _ =>
        have e3 : z 3 = .bool false := hdp 3 (dep_of (by kernel_rfl))
        refine wpOp_step rfl (fun K hK => ?_)
        clear hdp
        go_simp
        exact hK _ _ ⟨.pointer (some ⟨w.heap.size, 2, none⟩), by simp [upd, e3], rfl, trivial, hC⟩
      | 8, _ =>
        obtain ⟨q0, q1, q2, q3, -⟩ := four_facts (HX.out w7 hC).2.2.1
        have e3 : z 3 = .bool false := hdp 3 (dep_of (by kernel_rfl))
        have e7 : z 7 = .pointer (some ⟨w.heap.size, 2, none⟩) := hdp 7 (dep_of (by kernel_rfl))
        refine wpOp_step rfl (fun K hK => ?_)
        clear hdp
        go_simp
        exact hK _ _ ⟨.int .i64 h.maxN, by simp [upd, e3, e7], rfl, trivial, hC⟩
      | 9, _ =>
        have e3 : z 3 = .bool false := hdp 3 (dep_of (by kernel_rfl))
        have e6 : z 6 = .int .i64 (L.length : Int) := hdp 6 (dep_of (by kernel_rfl))
        have e8 : z 8 = .int .i64 h.maxN := hdp 8 (dep_of (by kernel_rfl))
        refine wpOp_step rfl (fun K hK => ?_)
        clear hdp
        go_simp
        exact hK _ _ ⟨.bool false, by simp [upd, e3, e6, e8], rfl, trivial, hC⟩
      | 10, _ =>
        have e3 : z 3 = .bool false := hdp 3 (dep_of (by kernel_rfl))
        have e9 : z 9 = .bool false := hdp 9 (dep_of (by kernel_rfl))
        refine wpOp_step rfl (fun K hK => ?_)
        clear hdp
        go_simp
        exact hK _ _ ⟨.bool false, by simp [upd, e3, e9], rfl, trivial, hC⟩
      | 11, _ =>
        have e10 : z 10 = .bool false := hdp 10 (dep_of (by kernel_rfl))
        refine wpOp_step rfl (fun K hK => ?_)
        clear hdp
        go_simp
        exact hK _ _ ⟨.bool false, by simp [upd, e10], rfl, trivial, hC⟩
      | 12, _ =>
        obtain ⟨p0, -⟩ := one_factE (HX.out w7 hC).2.2.2.1
        have e11 : z 11 = .bool false := hdp 11 (dep_of (by kernel_rfl))
        refine wpOp_step rfl (fun K hK => ?_)
        clear hdp
        go_simp
        exact hK _ _ ⟨.agg #[.slice a L.length c0], by simp [upd, e11], rfl, trivial, hC⟩
      | 13, _ =>
        have e11 : z 11 = .bool false := hdp 11 (dep_of (by kernel_rfl))
        have e12 : z 12 = .agg #[.slice a L.length c0] := hdp 12 (dep_of (by kernel_rfl))
        have hT := HBy.out w7 (HX.out w7 hC)
        refine wpOp_step rfl (fun K hK => ?_)
        clear hdp
        go_simp
        refine hT.mono ?_
        rintro e w8 ⟨rfl, hb8⟩
        exact hK _ _ ⟨.int .i64 (bytesE L : Int), by simp [upd, e11, e12], rfl, trivial, hC.trans (hb8.mono hC.size)⟩
      | 14, _ =>
        have e11 : z 11 = .bool false := hdp 11 (dep_of (by kernel_rfl))
        refine wpOp_step rfl (fun K hK => ?_)
        clear hdp
        go_simp
        exact hK _ _ ⟨.pointer (some ⟨w.heap.size, 3, none⟩), by simp [upd, e11], rfl, trivial, hC⟩
      | 15, _ =>
        obtain ⟨q0, q1, q2, q3, -⟩ := four_facts (HX.out w7 hC).2.2.1
        have e11 : z 11 = .bool false := hdp 11 (dep_of (by kernel_rfl))
        have e14 : z 14 = .pointer (some ⟨w.heap.size, 3, none⟩) := hdp 14 (dep_of (by kernel_rfl))
        refine wpOp_step rfl (fun K hK => ?_)
        clear hdp
        go_simp
        exact hK _ _ ⟨.int .i64 h.maxB, by simp [upd, e11, e14], rfl, trivial, hC⟩
      | 16, _ =>
        have e11 : z 11 = .bool false := hdp 11 (dep_of (by kernel_rfl))
        have e13 : z 13 = .int .i64 (bytesE L : Int) := hdp 13 (dep_of (by kernel_rfl))
        have e15 : z 15 = .int .i64 h.maxB := hdp 15 (dep_of (by kernel_rfl))
        refine wpOp_step rfl (fun K hK => ?_)
        clear hdp
        go_simp
        exact hK _ _ ⟨.bool true, by simp [upd, e11, e13, e15], rfl, trivial, hC⟩
      | n + 17, hn => exact absurd hn (by omega)
    · intro z w7 kk hkk hC hdp
      have e11 : z 11 = .bool false := hdp 11 (by decide)
      have e16 : z 16 = .bool true := hdp 16 (by decide)
      refine wpOp_step rfl (fun K hK => ?_)
      clear hdp
      go_simp
      refine hK _ _ ?_
      clear hK K e11 e16
      have HBw := Lib.hid (HX.out w7 hC).2.2.2.2
      clear hC
      go_wp2
      go_ret
      exact ⟨rfl, HBw.out⟩
  have g2 : decide (h.maxB < (bytesE L : Int)) = false := by simp; omega
  rw [decide_eq_true c1, decide_eq_true c2, show (true && (true && (true && (L.all entryB && decide (apartE L))))) = (L.all entryB && decide (apartE L)) from rfl]
  go_enter Tryz.func15, Tryz.ntmps15
  go_wp2_with fail
  rw [← HW.out]
  refine wp_region_last (by kernel_rfl) 17 (by kernel_rfl) (by kernel_rfl) (by kernel_rfl)
    (fun z => { tmps := #[.agg #[u, .int .i64 h.key, .int .i64 h.maxN, .int .i64 h.maxB], .agg #[.slice a L.length c0], .pointer (some ⟨w.heap.size, 0, none⟩), .pointer (some ⟨w.heap.size + 1, 0, none⟩), .bool false, undef, undef, z 0, z 1, z 2, z 3, z 4, z 5, z 6, z 7, z 8, z 9, z 10, z 11, z 12, z 13, z 14, z 15, z 16, undef, undef, undef, undef, undef, undef, undef, undef, undef, undef, undef, undef, undef, undef, undef, undef, undef, undef, undef, undef, undef, undef], defers := [] })
    (fun _ W => Below wA.heap.size wA W)
    (fun i xv _ => xv = ([.agg #[u, .int .i64 h.key, .int .i64 h.maxN, .int .i64 h.maxB], .bool true, .bool false, .bool false, .pointer (some ⟨w.heap.size + 1, 0, none⟩), .slice a L.length c0, .int .i64 (L.length : Int), .pointer (some ⟨w.heap.size, 2, none⟩), .int .i64 h.maxN, .bool false, .bool false, .bool false, .agg #[.slice a L.length c0], .int .i64 (bytesE L : Int), .pointer (some ⟨w.heap.size, 3, none⟩), .int .i64 h.maxB, .bool false] : List Value).getD i undef)
    (fun _ _ => True) (fun _ => undef) (Below.refl _ _).drew
    (fun _ _ _ _ _ h _ => h) ?_ ?_
  · intro i hi z w7 kk hkk hC hdp
    match i, hi with
    | 0, _ =>
      obtain ⟨q0, q1, q2, q3, -⟩ := four_facts (HX.out w7 hC).2.2.1
      refine wpOp_step rfl (fun K hK => ?_)
      clear hdp
      go_simp
      exact hK _ _ ⟨.agg #[u, .int .i64 h.key, .int .i64 h.maxN, .int .i64 h.maxB], rfl, rfl, trivial, hC⟩
    | 1, _ =>
      have e0 : z 0 = .agg #[u, .int .i64 h.key, .int .i64 h.maxN, .int .i64 h.maxB] := hdp 0 (dep_of (by kernel_rfl))
      have hT := HHo.out w7 (HX.out w7 hC)
      refine wpOp_step rfl (fun K hK => ?_)
      clear hdp
      go_simp
      refine hT.mono ?_
      rintro e w8 ⟨rfl, hb8⟩
      exact hK _ _ ⟨.bool true, by simp [upd, e0], rfl, trivial, hC.trans (hb8.mono hC.size)⟩
    | 2, _ =>
      have e1 : z 1 = .bool true := hdp 1 (dep_of (by kernel_rfl))
      refine wpOp_step rfl (fun K hK => ?_)
      clear hdp
      go_simp
      exact hK _ _ ⟨.bool false, by simp [upd, e1], rfl, trivial, hC⟩
    | 3, _ =>
      have e2 : z 2 = .bool false := hdp 2 (dep_of (by kernel_rfl))
      refine wpOp_step rfl (fun K hK => ?_)
      clear hdp
      go_simp
      exact hK _ _ ⟨.bool false, by simp [upd, e2], rfl, trivial, hC⟩
    | 4, _ =>
      have e3 : z 3 = .bool false := hdp 3 (dep_of (by kernel_rfl))
      refine wpOp_step rfl (fun K hK => ?_)
      clear hdp
      go_simp
      exact hK _ _ ⟨.pointer (some ⟨w.heap.size + 1, 0, none⟩), by simp [upd, e3], rfl, trivial, hC⟩
    | 5, _ =>
      obtain ⟨p0, -⟩ := one_factE (HX.out w7 hC).2.2.2.1
      have e3 : z 3 = .bool false := hdp 3 (dep_of (by kernel_rfl))
      have e4 : z 4 = .pointer (some ⟨w.heap.size + 1, 0, none⟩) := hdp 4 (dep_of (by kernel_rfl))
      refine wpOp_step rfl (fun K hK => ?_)
      clear hdp
      go_simp
      exact hK _ _ ⟨.slice a L.length c0, by simp [upd, e3, e4], rfl, trivial, hC⟩
    | 6, _ =>
      have e3 : z 3 = .bool false := hdp 3 (dep_of (by kernel_rfl))
      have e5 : z 5 = .slice a L.length c0 := hdp 5 (dep_of (by kernel_rfl))
      refine wpOp_step rfl (fun K hK => ?_)
      clear hdp
      go_simp
      exact hK _ _ ⟨.int .i64 (L.length : Int), by simp [upd, e3, e5], rfl, trivial, hC⟩
    | 7, _ =>
      have e3 : z 3 = .bool false := hdp 3 (dep_of (by kernel_rfl))
      refine wpOp_step rfl (fun K hK => ?_)
      clear hdp
      go_simp
      exact hK _ _ ⟨.pointer (some ⟨w.heap.size, 2, none⟩), by simp [upd, e3], rfl, trivial, hC⟩
    | 8, _ =>
      obtain ⟨q0, q1, q2, q3, -⟩ := four_facts (HX.out w7 hC).2.2.1
      have e3 : z 3 = .bool false := hdp 3 (dep_of (by kernel_rfl))
      have e7 : z 7 = .pointer (some ⟨w.heap.size, 2, none⟩) := hdp 7 (dep_of (by kernel_rfl))
      refine wpOp_step rfl (fun K hK => ?_)
      clear hdp
      go_simp
      exact hK _ _ ⟨.int .i64 h.maxN, by simp [upd, e3, e7], rfl, trivial, hC⟩
    | 9, _ =>
      have e3 : z 3 = .bool false := hdp 3 (dep_of (by kernel_rfl))
      have e6 : z 6 = .int .i64 (L.length : Int) := hdp 6 (dep_of (by kernel_rfl))
      have e8 : z 8 = .int .i64 h.maxN := hdp 8 (dep_of (by kernel_rfl))
      refine wpOp_step rfl (fun K hK => ?_)
      clear hdp
      go_simp
      exact hK _ _ ⟨.bool false, by simp [upd, e3, e6, e8], rfl, trivial, hC⟩
    | 10, _ =>
      have e3 : z 3 = .bool false := hdp 3 (dep_of (by kernel_rfl))
      have e9 : z 9 = .bool false := hdp 9 (dep_of (by kernel_rfl))
      refine wpOp_step rfl (fun K hK => ?_)
      clear hdp
      go_simp
      exact hK _ _ ⟨.bool false, by simp [upd, e3, e9], rfl, trivial, hC⟩
    | 11, _ =>
      have e10 : z 10 = .bool false := hdp 10 (dep_of (by kernel_rfl))
      refine wpOp_step rfl (fun K hK => ?_)
      clear hdp
      go_simp
      exact hK _ _ ⟨.bool false, by simp [upd, e10], rfl, trivial, hC⟩
    | 12, _ =>
      obtain ⟨p0, -⟩ := one_factE (HX.out w7 hC).2.2.2.1
      have e11 : z 11 = .bool false := hdp 11 (dep_of (by kernel_rfl))
      refine wpOp_step rfl (fun K hK => ?_)
      clear hdp
      go_simp
      exact hK _ _ ⟨.agg #[.slice a L.length c0], by simp [upd, e11], rfl, trivial, hC⟩
    | 13, _ =>
      have e11 : z 11 = .bool false := hdp 11 (dep_of (by kernel_rfl))
      have e12 : z 12 = .agg #[.slice a L.length c0] := hdp 12 (dep_of (by kernel_rfl))
      have hT := HBy.out w7 (HX.out w7 hC)
      refine wpOp_step rfl (fun K hK => ?_)
      clear hdp
      go_simp
      refine hT.mono ?_
      rintro e w8 ⟨rfl, hb8⟩
      exact hK _ _ ⟨.int .i64 (bytesE L : Int), by simp [upd, e11, e12], rfl, trivial, hC.trans (hb8.mono hC.size)⟩
    | 14, _ =>
      have e11 : z 11 = .bool false := hdp 11 (dep_of (by kernel_rfl))
      refine wpOp_step rfl (fun K hK => ?_)
      clear hdp
      go_simp
      exact hK _ _ ⟨.pointer (some ⟨w.heap.size, 3, none⟩), by simp [upd, e11], rfl, trivial, hC⟩
    | 15, _ =>
      obtain ⟨q0, q1, q2, q3, -⟩ := four_facts (HX.out w7 hC).2.2.1
      have e11 : z 11 = .bool false := hdp 11 (dep_of (by kernel_rfl))
      have e14 : z 14 = .pointer (some ⟨w.heap.size, 3, none⟩) := hdp 14 (dep_of (by kernel_rfl))
      refine wpOp_step rfl (fun K hK => ?_)
      clear hdp
      go_simp
      exact hK _ _ ⟨.int .i64 h.maxB, by simp [upd, e11, e14], rfl, trivial, hC⟩
    | 16, _ =>
      have e11 : z 11 = .bool false := hdp 11 (dep_of (by kernel_rfl))
      have e13 : z 13 = .int .i64 (bytesE L : Int) := hdp 13 (dep_of (by kernel_rfl))
      have e15 : z 15 = .int .i64 h.maxB := hdp 15 (dep_of (by kernel_rfl))
      refine wpOp_step rfl (fun K hK => ?_)
      clear hdp
      go_simp
      exact hK _ _ ⟨.bool false, by simp [upd, e11, e13, e15], rfl, trivial, hC⟩
    | n + 17, hn => exact absurd hn (by omega)
  · intro z w7 kk hkk hC hdp
    have e11 : z 11 = .bool false := hdp 11 (by decide)
    have e16 : z 16 = .bool false := hdp 16 (by decide)
    refine wpOp_step rfl (fun K hK => ?_)
    clear hdp
    go_simp
    refine hK _ _ ?_
    clear hK K e11 e16
    have HBw := Lib.hid hC
    obtain ⟨p0, -⟩ := one_factE (HX.out w7 hC).2.2.2.1
    clear hC g1 g2
    go_wp2_with fail
    go_loopw [6, 28] (fun _ i wr => ∃ k : Nat, k ≤ L.length ∧ i = .int .i64 k ∧ (L.take k).all entryB = true ∧ Below wA.heap.size wA wr) (fun _ i _ => L.length - (intOf i).toNat)
    case atStart => exact ⟨0, Nat.zero_le _, rfl, rfl, HBw.out⟩
    case round =>
      obtain ⟨k, hk, rfl, hall, hbr⟩ := hrel
      clear p0
      by_cases hlt : k < L.length
      · obtain ⟨e, hg⟩ : ∃ e, L[k]? = some e := ⟨_, List.getElem?_eq_getElem hlt⟩
        have hgS := hg
        obtain ⟨b, o, rfl, hbw, hat⟩ := HRow.out k e hg
        have he := HE.out e (List.mem_of_getElem? hg)
        have hat2 := hat.keep ((HX.out wr hbr).2.2.2.2.block b hbw)
        obtain ⟨x0, x1, x2, x3, x4, x5, x6, x7, x8⟩ := hat2
        obtain ⟨wE, hwE⟩ : ∃ x, x = wr.alloc (.cells #[.string e.place, .int .i64 e.mask, .int .i64 e.rsp.code, .int .i64 e.rsp.mx, .bool e.rsp.hide, .string e.rsp.tag, .int .i64 e.rsp.cod, .string e.rsp.body, .int .i64 e.tm] 48) := ⟨_, rfl⟩
        have hnE : wE.heap[wr.heap.size]? = some (.cells #[.string e.place, .int .i64 e.mask, .int .i64 e.rsp.code, .int .i64 e.rsp.mx, .bool e.rsp.hide, .string e.rsp.tag, .int .i64 e.rsp.cod, .string e.rsp.body, .int .i64 e.tm] 48 (0, 0)) := by rw [hwE]; exact heap_alloc_new wr _
        have hbE : Below wA.heap.size wA wE := by rw [hwE]; exact hbr.alloc hbr.size _
        have hsE : wE.heap.size = wr.heap.size + 1 := by rw [hwE]; simp
        have hzr := hbr.size
        have y0 := (nine_facts hnE)
        obtain ⟨y0, y1, y2, y3, y4, y5, y6, y7, y8⟩ := y0
        rw [hwE] at y0 y1 y2 y3 y4 y5 y6 y7 y8
        have HWE := Lib.hid hwE
        have HN := Lib.hid hnE
        have hC := impl_entryok e wE he (HX.out wE hbE).1.1
        unfold enV at hC
        have HAll := Lib.hid hall
        have HG := Lib.hid hg
        clear hwE hnE hall hg hgS he hat hbr
        cases hEB : entryB e with
        | false =>
          rw [hEB] at hC
          have HF : Hid ((L.all entryB && decide (apartE L)) = false) := Lib.hid (by rw [all_bad HG.out hEB]; rfl)
          clear hEB
          go_wp2_with fail
          rw [← HWE.out]
          refine hC.mono ?_
          rintro e' w2 ⟨rfl, hb2⟩
          have HB2 := Lib.hid (HX.out w2 (hbE.trans (hb2.mono hbE.size))).2.2.2.2
          clear hC hbE hb2 x0 x1 x2 x3 x4 x5 x6 x7 x8 y0 y1 y2 y3 y4 y5 y6 y7 y8
          go_wp2
          go_ret
          exact ⟨by rw [HF.out]; rfl, HB2.out⟩
        | true =>
          rw [hEB] at hC
          have HA1 := Lib.hid (all_step HG.out HAll.out hEB)
          clear hEB
          go_wp2_with fail
          rw [← HWE.out]
          refine hC.mono ?_
          rintro e' w2 ⟨rfl, hb2⟩
          have Hb2 := Lib.hid (hbE.trans (hb2.mono hbE.size))
          clear hC hbE hb2 x0 x1 x2 x3 x4 x5 x6 x7 x8 y0 y1 y2 y3 y4 y5 y6 y7 y8
          go_wp2
          go_roundw
          case rel => exact ⟨k + 1, by omega, by go_num, HA1.out, Hb2.out⟩
          case measure => simp [intOf]; omega
      · obtain rfl : k = L.length := by omega
        rw [List.take_length] at hall
        have HF : Hid ((L.all entryB && decide (apartE L)) = decide (apartE L)) := Lib.hid (by rw [hall]; rfl)
        have hEn := fun W (hW : Below wr.heap.size wr W) => entries_any _ L W (HX.out W (hbr.trans (hW.mono hbr.size))).2.1 HE.out hn
        have HEn := Lib.hid hEn
        have HBr := Lib.hid hbr
        clear hall hbr hEn
        go_wp2_with fail
        refine wp_region_last (by kernel_rfl) 10 (by kernel_rfl) (by kernel_rfl) (by kernel_rfl)
          (fun y => { tmps := #[.agg #[u, .int .i64 h.key, .int .i64 h.maxN, .int .i64 h.maxB], .agg #[.slice a L.length c0], .pointer (some ⟨w.heap.size, 0, none⟩), .pointer (some ⟨w.heap.size + 1, 0, none⟩), u4, undef, u6, z 0, z 1, z 2, z 3, z 4, z 5, z 6, z 7, z 8, z 9, z 10, .bool false, z 12, z 13, z 14, z 15, .bool false, .bool false, .pointer (some ⟨w.heap.size + 1, 0, none⟩), .slice a L.length c0, .int .i64 (L.length : Int), .int .i64 (L.length : Int), .bool false, u30, u31, u32, u33, u34, u35, y 0, y 1, y 2, y 3, y 4, y 5, y 6, y 7, y 8, y 9], defers := [] })
          (fun _ w8 => Below wr.heap.size wr w8)
          (fun i x w8 => match i with
            | 0 => x = .agg #[.slice a L.length c0]
            | 1 => ∃ (c mb : Nat) (M : List (Nat × En)), x = .pointer (some ⟨c, 0, none⟩) ∧ Chn w8 c mb 0 L.length M ∧ M.map (·.2) = L
            | 2 => ∃ (c mb : Nat) (M : List (Nat × En)), x = .pointer (some ⟨c, 0, none⟩) ∧ Chn w8 c mb 0 L.length M ∧ M.map (·.2) = L
            | 3 => ∃ (c mb : Nat) (M : List (Nat × En)), x = .pointer (some ⟨c, 1, none⟩) ∧ Chn w8 c mb 0 L.length M ∧ M.map (·.2) = L
            | 4 => ∃ (c mb : Nat) (M : List (Nat × En)), x = .map (some mb) ∧ Chn w8 c mb 0 L.length M ∧ M.map (·.2) = L
            | 5 => ∃ n : Nat, x = .int .i64 (n : Int) ∧ (n = L.length ↔ apartE L)
            | 6 => x = .pointer (some ⟨w.heap.size + 1, 0, none⟩)
            | 7 => x = .slice a L.length c0
            | 8 => x = .int .i64 (L.length : Int)
            | 9 => x = .bool (decide (apartE L))
            | _ => True)
          (fun w8 w9 => Below w8.heap.size w8 w9) (fun _ => undef) (Below.refl _ _).drew ?_ ?_ ?_
        · intro i x w8 w9 hi hR hle
          match i, hi with
          | 0, _ => exact hR
          | 1, _ =>
            obtain ⟨c, mb, M, h1, h2, h3⟩ := hR
            exact ⟨c, mb, M, h1, h2.below hle, h3⟩
          | 2, _ =>
            obtain ⟨c, mb, M, h1, h2, h3⟩ := hR
            exact ⟨c, mb, M, h1, h2.below hle, h3⟩
          | 3, _ =>
            obtain ⟨c, mb, M, h1, h2, h3⟩ := hR
            exact ⟨c, mb, M, h1, h2.below hle, h3⟩
          | 4, _ =>
            obtain ⟨c, mb, M, h1, h2, h3⟩ := hR
            exact ⟨c, mb, M, h1, h2.below hle, h3⟩
          | 5, _ => exact hR
          | 6, _ => exact hR
          | 7, _ => exact hR
          | 8, _ => exact hR
          | 9, _ => exact hR
          | n + 10, hn => exact absurd hn (by omega)
        · intro i hi y w8 kk hkk hC hdp
          match i, hi with
          | 0, _ =>
            obtain ⟨p0, -⟩ := one_factE (HX.out w8 (HBr.out.trans (hC.mono HBr.out.size))).2.2.2.1
            refine wpOp_step rfl (fun K hK => ?_)
            clear hdp
            go_simp
            exact hK _ _ ⟨.agg #[.slice a L.length c0], rfl, rfl, Below.refl _ _, hC⟩
          | 1, _ =>
            have e0 : y 0 = .agg #[.slice a L.length c0] := hdp 0 (dep_of (by kernel_rfl))
            have hT := HEn.out w8 hC
            refine wpOp_step rfl (fun K hK => ?_)
            clear hdp
            go_simp
            refine hT.mono ?_
            rintro e w9 ⟨c, mb, M, rfl, hM, hML, hb9⟩
            exact hK _ _ ⟨_, by simp [upd, e0], ⟨c, mb, M, rfl, hM.lower (Nat.zero_le _), hML⟩, hb9, hC.trans (hb9.mono hC.size)⟩
          | 2, _ =>
            have r1 : ∃ (c mb : Nat) (M : List (Nat × En)), (y 1) = .pointer (some ⟨c, 0, none⟩) ∧ Chn w8 c mb 0 L.length M ∧ M.map (·.2) = L := hdp 1 (dep_of (by kernel_rfl))
            obtain ⟨c, mb, M, e1, hM, hML⟩ := r1
            refine wpOp_step rfl (fun K hK => ?_)
            clear hdp
            go_simp
            exact hK _ _ ⟨_, by simp [upd, e1], ⟨c, mb, M, rfl, hM, hML⟩, Below.refl _ _, hC⟩
          | 3, _ =>
            have r2 : ∃ (c mb : Nat) (M : List (Nat × En)), (y 2) = .pointer (some ⟨c, 0, none⟩) ∧ Chn w8 c mb 0 L.length M ∧ M.map (·.2) = L := hdp 2 (dep_of (by kernel_rfl))
            obtain ⟨c, mb, M, e2, hM, hML⟩ := r2
            refine wpOp_step rfl (fun K hK => ?_)
            clear hdp
            go_simp
            exact hK _ _ ⟨_, by simp [upd, e2], ⟨c, mb, M, rfl, hM, hML⟩, Below.refl _ _, hC⟩
          | 4, _ =>
            have r3 : ∃ (c mb : Nat) (M : List (Nat × En)), (y 3) = .pointer (some ⟨c, 1, none⟩) ∧ Chn w8 c mb 0 L.length M ∧ M.map (·.2) = L := hdp 3 (dep_of (by kernel_rfl))
            obtain ⟨c, mb, M, e3, hM, hML⟩ := r3
            obtain ⟨q0, q1, -⟩ := ch_facts hM.head
            refine wpOp_step rfl (fun K hK => ?_)
            clear hdp
            go_simp
            exact hK _ _ ⟨_, by simp [upd, e3], ⟨c, mb, M, rfl, hM, hML⟩, Below.refl _ _, hC⟩
          | 5, _ =>
            have r4 : ∃ (c mb : Nat) (M : List (Nat × En)), (y 4) = .map (some mb) ∧ Chn w8 c mb 0 L.length M ∧ M.map (·.2) = L := hdp 4 (dep_of (by kernel_rfl))
            obtain ⟨c, mb, M, e4, hM, hML⟩ := r4
            obtain ⟨D, hD, hK5⟩ := hM.map
            have hsz := size_keys (hD.entries lawKe) hK5 hML HE.out
            have hlen := hD.len Tryz.underlying75 3
            have HSz := Lib.hid hsz
            clear hsz hK5 hD
            refine wpOp_step rfl (fun K hK => ?_)
            clear hdp
            go_simp
            exact hK _ _ ⟨_, by simp [upd, e4], ⟨_, rfl, HSz.out⟩, Below.refl _ _, hC⟩
          | 6, _ =>
            refine wpOp_step rfl (fun K hK => ?_)
            clear hdp
            go_simp
            exact hK _ _ ⟨.pointer (some ⟨w.heap.size + 1, 0, none⟩), rfl, rfl, Below.refl _ _, hC⟩
          | 7, _ =>
            obtain ⟨p0, -⟩ := one_factE (HX.out w8 (HBr.out.trans (hC.mono HBr.out.size))).2.2.2.1
            have e6 : y 6 = .pointer (some ⟨w.heap.size + 1, 0, none⟩) := hdp 6 (dep_of (by kernel_rfl))
            refine wpOp_step rfl (fun K hK => ?_)
            clear hdp
            go_simp
            exact hK _ _ ⟨.slice a L.length c0, by simp [upd, e6], rfl, Below.refl _ _, hC⟩
          | 8, _ =>
            have e7 : y 7 = .slice a L.length c0 := hdp 7 (dep_of (by kernel_rfl))
            refine wpOp_step rfl (fun K hK => ?_)
            clear hdp
            go_simp
            exact hK _ _ ⟨.int .i64 (L.length : Int), by simp [upd, e7], rfl, Below.refl _ _, hC⟩
          | 9, _ =>
            have r5 : ∃ n : Nat, (y 5) = .int .i64 (n : Int) ∧ (n = L.length ↔ apartE L) := hdp 5 (dep_of (by kernel_rfl))
            obtain ⟨n, e5, hnn⟩ := r5
            have e8 : y 8 = .int .i64 (L.length : Int) := hdp 8 (dep_of (by kernel_rfl))
            have hbq : ((n : Int) == (L.length : Int)) = decide (apartE L) := by rw [Bool.eq_iff_iff]; simp only [beq_iff_eq, decide_eq_true_eq]; exact ⟨fun h => hnn.1 (by omega), fun h => by rw [hnn.2 h]⟩
            clear hnn
            refine wpOp_step rfl (fun K hK => ?_)
            clear hdp
            go_simp

            exact hK _ _ ⟨.bool (decide (apartE L)), by simp [upd, e5, e8], rfl, Below.refl _ _, hC⟩
          | n + 10, hn => exact absurd hn (by omega)
        · intro y w8 kk hkk hC hdp
          have e9 : y 9 = .bool (decide (apartE L)) := hdp 9 (by decide)
          have HBf := Lib.hid (HX.out w8 (HBr.out.trans (hC.mono HBr.out.size))).2.2.2.2
          refine wpOp_step rfl (fun K hK => ?_)
          clear hdp
          go_simp
          refine hK _ _ ?_
          clear hK K e9 hC
          go_wp2
          go_ret
          exact ⟨by rw [HF.out]; rfl, HBf.out⟩
end Go.Proofs.YtbhnjnoblkfckaaGreatDoor
