/- Walks: whether storage is ok, by the specification. -/
import Derived.Test.YtbhnjnoblkfckaaGreatDoorStO0
import Derived.Test.YtbhnjnoblkfckaaGreatDoorStO1
import Derived.Test.YtbhnjnoblkfckaaGreatDoorGSn
import Derived.Test.YtbhnjnoblkfckaaGreatDoorGZ04
import Derived.Test.YtbhnjnoblkfckaaGreatDoorGZ10
namespace Go.Proofs.YtbhnjnoblkfckaaGreatDoor
open Go.RowKit Go.Maps

theorem bytes_small {L : List En} (hE : EnsOk 1048576 L) (hn : L.length ≤ 2000000) : bytesE L ≤ 6291456000000 := by
  have : ∀ L : List En, EnsOk 1048576 L → bytesE L ≤ L.length * 3145728 := by
    intro L
    induction L with
    | nil => intro _; exact Nat.zero_le _
    | cons e L ih =>
      intro hE
      rw [bytesE_cons, List.length_cons]
      have h1 := size_lt (hE e (List.mem_cons_self ..))
      have h2 := ih (fun x hx => hE x (List.mem_cons_of_mem _ hx))
      omega
  have := this L hE
  omega
open Classical in
set_option maxRecDepth 100000 in
set_option maxHeartbeats 6400000 in
theorem spec_stook (h : Hs) (u v : Value) (L : List En) (w : World) (hS : NRow w u h.names) (hN : NOk h.names 1048576) (hR : ERow w v L) (hE : EnsOk 1048576 L) (hn : L.length ≤ 2000000) :
    Calls Tryz.prog 12 #[.agg #[u, .int .i64 h.key, .int .i64 h.maxN, .int .i64 h.maxB], .agg #[v]] w fun e w' => e = .returned (.bool (okE h L)) ∧ Below w.heap.size w w' := by
  obtain ⟨wA, hwA⟩ : ∃ wA, wA = (w.alloc (.cells #[u, .int .i64 h.key, .int .i64 h.maxN, .int .i64 h.maxB] 31)).alloc (.cells #[v] 35) := ⟨_, rfl⟩
  have hsA : wA.heap.size = w.heap.size + 2 := by rw [hwA]; simp
  have hbA : Below w.heap.size w wA := by rw [hwA]; exact ((Below.refl _ _).alloc (Nat.le_refl _) _).alloc (by simp) _
  have hH0 : wA.heap[w.heap.size]? = some (.cells #[u, .int .i64 h.key, .int .i64 h.maxN, .int .i64 h.maxB] 31 (0, 0)) := by
    rw [hwA]; exact (Below.heap_alloc _ _ _ (by simp)).trans (heap_alloc_new w _)
  have hH1 : wA.heap[w.heap.size + 1]? = some (.cells #[v] 35 (0, 0)) := by
    rw [hwA]
    have := heap_alloc_new (w.alloc (.cells #[u, .int .i64 h.key, .int .i64 h.maxN, .int .i64 h.maxB] 31)) (.cells #[v] 35)
    rwa [World.size_alloc] at this
  have HX : Hid (∀ W, Below wA.heap.size wA W → (True ∧ NRow W u h.names) ∧ ERow W v L ∧ W.heap[w.heap.size]? = some (.cells #[u, .int .i64 h.key, .int .i64 h.maxN, .int .i64 h.maxB] 31 (0, 0)) ∧ W.heap[w.heap.size + 1]? = some (.cells #[v] 35 (0, 0)) ∧ Below w.heap.size w W) := Lib.hid fun W hW => by
    have hb := hbA.trans (hW.mono (by omega))
    exact ⟨⟨trivial, hS.below (Nat.le_refl _) hb⟩, hR.below (Nat.le_refl _) hb, (hW.block _ (by omega)).trans hH0, (hW.block _ (by omega)).trans hH1, hb⟩
  have HW := Lib.hid hwA
  have hb0 : Below wA.heap.size wA wA := Below.refl _ _
  have HHo : Hid (∀ W, ((True ∧ NRow W u h.names) ∧ ERow W v L ∧ W.heap[w.heap.size]? = some (.cells #[u, .int .i64 h.key, .int .i64 h.maxN, .int .i64 h.maxB] 31 (0, 0)) ∧ W.heap[w.heap.size + 1]? = some (.cells #[v] 35 (0, 0)) ∧ Below w.heap.size w W) → Calls Tryz.prog 38 #[.agg #[u, .int .i64 h.key, .int .i64 h.maxN, .int .i64 h.maxB]] W fun e w' => e = .returned (.bool (houseB h)) ∧ Below W.heap.size W w') := Lib.hid fun W hW => l5_house h u W hW.1.2 hN
  have HBy : Hid (∀ W, ((True ∧ NRow W u h.names) ∧ ERow W v L ∧ W.heap[w.heap.size]? = some (.cells #[u, .int .i64 h.key, .int .i64 h.maxN, .int .i64 h.maxB] 31 (0, 0)) ∧ W.heap[w.heap.size + 1]? = some (.cells #[v] 35 (0, 0)) ∧ Below w.heap.size w W) → Calls Tryz.prog 34 #[.agg #[v]] W fun e' w' => e' = .returned (.int .i64 ((bytesE L : Nat) : Int)) ∧ Below W.heap.size W w') := Lib.hid fun W hW => spec_bytes v L W hW.2.1 hE hn
  have HE := Lib.hid hE
  have hrow := hR
  obtain ⟨a, c0, rfl, hl1, hl2, h3⟩ := hR
  unfold maxLen at hl2
  have HRow := Lib.hid h3
  clear h3 hE
  rw [okE_split]
  clear hwA hbA hH0 hH1 hS hN hrow
  generalize houseB h = HB at *
  have hbl : (bytesE L : Int) ≤ 9223372036854775807 := by
    have : bytesE L ≤ 6291456000000 := bytes_small HE.out hn
    omega
  cases HB
  · rw [show (false && (decide ((L.length : Int) ≤ h.maxN) && (decide ((bytesE L : Int) ≤ h.maxB) && (L.all entryB && decide (apartE L))))) = false from rfl]
    go_enter Tryz.func12, Tryz.ntmps12
    go_wp2_with fail
    rw [← HW.out]
    refine wp_region_last (by kernel_rfl) 17 (by kernel_rfl) (by kernel_rfl) (by kernel_rfl)
      (fun z => { tmps := #[.agg #[u, .int .i64 h.key, .int .i64 h.maxN, .int .i64 h.maxB], .agg #[.slice a L.length c0], .pointer (some ⟨w.heap.size, 0, none⟩), .pointer (some ⟨w.heap.size + 1, 0, none⟩), .bool false, undef, undef, z 0, z 1, z 2, z 3, z 4, z 5, z 6, z 7, z 8, z 9, z 10, z 11, z 12, z 13, z 14, z 15, z 16, undef, undef, undef, undef, undef, undef, undef, undef, undef, undef, undef, undef, undef, undef, undef, undef, undef, undef, undef, undef, undef, undef, undef, undef, undef, undef], defers := [] })
      (fun _ W => Below wA.heap.size wA W)
      (fun i xv _ => xv = ([.agg #[u, .int .i64 h.key, .int .i64 h.maxN, .int .i64 h.maxB], .bool false, .bool true, .bool true, undef, undef, undef, undef, undef, undef, .bool true, .bool true, undef, undef, undef, undef, undef] : List Value).getD i undef)
      (fun _ _ => True) (fun _ => undef) (Below.refl _ _).drew
      (fun _ _ _ _ _ h _ => h) ?_ ?_
    · intro i hi z w7 kk hkk hC hdp
      match i, hi with
      | 0, _ =>
        obtain ⟨q0, q1, q2, q3, -⟩ := four_facts (HX.out w7 hC).2.2.1
        refine wpOp_step rfl (fun K hK => ?_)
        clear hdp
        go_simp
        exact hK _ _ ⟨.agg #[u, .int .i64 h.key, .int .i64 h.maxN, .int .i64 h.maxB], rfl, rfl, trivial, hC⟩
      | 1, _ =>
        have e0 : z 0 = .agg #[u, .int .i64 h.key, .int .i64 h.maxN, .int .i64 h.maxB] := hdp 0 (dep_of (by kernel_rfl))
        have hT := HHo.out w7 (HX.out w7 hC)
        refine wpOp_step rfl (fun K hK => ?_)
        clear hdp
        go_simp
        refine hT.mono ?_
        rintro e w8 ⟨rfl, hb8⟩
        exact hK _ _ ⟨.bool false, by simp [upd, e0], rfl, trivial, hC.trans (hb8.mono hC.size)⟩
      | 2, _ =>
        have e1 : z 1 = .bool false := hdp 1 (dep_of (by kernel_rfl))
        refine wpOp_step rfl (fun K hK => ?_)
        clear hdp
        go_simp
        exact hK _ _ ⟨.bool true, by simp [upd, e1], rfl, trivial, hC⟩
      | 3, _ =>
        have e2 : z 2 = .bool true := hdp 2 (dep_of (by kernel_rfl))
        refine wpOp_step rfl (fun K hK => ?_)
        clear hdp
        go_simp
        exact hK _ _ ⟨.bool true, by simp [upd, e2], rfl, trivial, hC⟩
      | 4, _ =>
        have e3 : z 3 = .bool true := hdp 3 (dep_of (by kernel_rfl))
        refine wpOp_step rfl (fun K hK => ?_)
        clear hdp
        go_simp
        exact hK _ _ ⟨undef, by simp [upd, e3], rfl, trivial, hC⟩
      | 5, _ =>
        have e3 : z 3 = .bool true := hdp 3 (dep_of (by kernel_rfl))
        refine wpOp_step rfl (fun K hK => ?_)
        clear hdp
        go_simp
        exact hK _ _ ⟨undef, by simp [upd, e3], rfl, trivial, hC⟩
      | 6, _ =>
        have e3 : z 3 = .bool true := hdp 3 (dep_of (by kernel_rfl))
        refine wpOp_step rfl (fun K hK => ?_)
        clear hdp
        go_simp
        exact hK _ _ ⟨undef, by simp [upd, e3], rfl, trivial, hC⟩
      | 7, _ =>
        have e3 : z 3 = .bool true := hdp 3 (dep_of (by kernel_rfl))
        refine wpOp_step rfl (fun K hK => ?_)
        clear hdp
        go_simp
        exact hK _ _ ⟨undef, by simp [upd, e3], rfl, trivial, hC⟩
      | 8, _ =>
        have e3 : z 3 = .bool true := hdp 3 (dep_of (by kernel_rfl))
        refine wpOp_step rfl (fun K hK => ?_)
        clear hdp
        go_simp
        exact hK _ _ ⟨undef, by simp [upd, e3], rfl, trivial, hC⟩
      | 9, _ =>
        have e3 : z 3 = .bool true := hdp 3 (dep_of (by kernel_rfl))
        refine wpOp_step rfl (fun K hK => ?_)
        clear hdp
        go_simp
        exact hK _ _ ⟨undef, by simp [upd, e3], rfl, trivial, hC⟩
      | 10, _ =>
        have e3 : z 3 = .bool true := hdp 3 (dep_of (by kernel_rfl))
        have e9 : z 9 = undef := hdp 9 (dep_of (by kernel_rfl))
        refine wpOp_step rfl (fun K hK => ?_)
        clear hdp
        go_simp
        exact hK _ _ ⟨.bool true, by simp [upd, e3, e9], rfl, trivial, hC⟩
      | 11, _ =>
        have e10 : z 10 = .bool true := hdp 10 (dep_of (by kernel_rfl))
        refine wpOp_step rfl (fun K hK => ?_)
        clear hdp
        go_simp
        exact hK _ _ ⟨.bool true, by simp [upd, e10], rfl, trivial, hC⟩
      | 12, _ =>
        have e11 : z 11 = .bool true := hdp 11 (dep_of (by kernel_rfl))
        refine wpOp_step rfl (fun K hK => ?_)
        clear hdp
        go_simp
        exact hK _ _ ⟨undef, by simp [upd, e11], rfl, trivial, hC⟩
      | 13, _ =>
        have e11 : z 11 = .bool true := hdp 11 (dep_of (by kernel_rfl))
        refine wpOp_step rfl (fun K hK => ?_)
        clear hdp
        go_simp
        exact hK _ _ ⟨undef, by simp [upd, e11], rfl, trivial, hC⟩
      | 14, _ =>
        have e11 : z 11 = .bool true := hdp 11 (dep_of (by kernel_rfl))
        refine wpOp_step rfl (fun K hK => ?_)
        clear hdp
        go_simp
        exact hK _ _ ⟨undef, by simp [upd, e11], rfl, trivial, hC⟩
      | 15, _ =>
        have e11 : z 11 = .bool true := hdp 11 (dep_of (by kernel_rfl))
        refine wpOp_step rfl (fun K hK => ?_)
        clear hdp
        go_simp
        exact hK _ _ ⟨undef, by simp [upd, e11], rfl, trivial, hC⟩
      | 16, _ =>
        have e11 : z 11 = .bool true := hdp 11 (dep_of (by kernel_rfl))
        refine wpOp_step rfl (fun K hK => ?_)
        clear hdp
        go_simp
        exact hK _ _ ⟨undef, by simp [upd, e11], rfl, trivial, hC⟩
      | n + 17, hn => exact absurd hn (by omega)
    · intro z w7 kk hkk hC hdp
      have e11 : z 11 = .bool true := hdp 11 (by decide)
      have e16 : z 16 = undef := hdp 16 (by decide)
      refine wpOp_step rfl (fun K hK => ?_)
      clear hdp
      go_simp
      refine hK _ _ ?_
      clear hK K e11 e16
      have HBw := Lib.hid (HX.out w7 hC).2.2.2.2
      clear hC
      go_wp2
      go_ret
      exact ⟨rfl, HBw.out⟩
  by_cases c1 : (L.length : Int) ≤ h.maxN
  rotate_left
  · rw [decide_eq_false c1, show (true && (false && (decide ((bytesE L : Int) ≤ h.maxB) && (L.all entryB && decide (apartE L))))) = false from rfl]
    have g1 : decide (h.maxN < (L.length : Int)) = true := by simp; omega
    go_enter Tryz.func12, Tryz.ntmps12
    go_wp2_with fail
    rw [← HW.out]
    refine wp_region_last (by kernel_rfl) 17 (by kernel_rfl) (by kernel_rfl) (by kernel_rfl)
      (fun z => { tmps := #[.agg #[u, .int .i64 h.key, .int .i64 h.maxN, .int .i64 h.maxB], .agg #[.slice a L.length c0], .pointer (some ⟨w.heap.size, 0, none⟩), .pointer (some ⟨w.heap.size + 1, 0, none⟩), .bool false, undef, undef, z 0, z 1, z 2, z 3, z 4, z 5, z 6, z 7, z 8, z 9, z 10, z 11, z 12, z 13, z 14, z 15, z 16, undef, undef, undef, undef, undef, undef, undef, undef, undef, undef, undef, undef, undef, undef, undef, undef, undef, undef, undef, undef, undef, undef, undef, undef, undef, undef], defers := [] })
      (fun _ W => Below wA.heap.size wA W)
      (fun i xv _ => xv = ([.agg #[u, .int .i64 h.key, .int .i64 h.maxN, .int .i64 h.maxB], .bool true, .bool false, .bool false, .pointer (some ⟨w.heap.size + 1, 0, none⟩), .slice a L.length c0, .int .i64 (L.length : Int), .pointer (some ⟨w.heap.size, 2, none⟩), .int .i64 h.maxN, .bool true, .bool true, .bool true, undef, undef, undef, undef, undef] : List Value).getD i undef)
      (fun _ _ => True) (fun _ => undef) (Below.refl _ _).drew
      (fun _ _ _ _ _ h _ => h) ?_ ?_
    · intro i hi z w7 kk hkk hC hdp
      match i, hi with
      | 0, _ =>
        obtain ⟨q0, q1, q2, q3, -⟩ := four_facts (HX.out w7 hC).2.2.1
        refine wpOp_step rfl (fun K hK => ?_)
        clear hdp
        go_simp
        exact hK _ _ ⟨.agg #[u, .int .i64 h.key, .int .i64 h.maxN, .int .i64 h.maxB], rfl, rfl, trivial, hC⟩
      | 1, _ =>
        have e0 : z 0 = .agg #[u, .int .i64 h.key, .int .i64 h.maxN, .int .i64 h.maxB] := hdp 0 (dep_of (by kernel_rfl))
        have hT := HHo.out w7 (HX.out w7 hC)
        refine wpOp_step rfl (fun K hK => ?_)
        clear hdp
        go_simp
        refine hT.mono ?_
        rintro e w8 ⟨rfl, hb8⟩
        exact hK _ _ ⟨.bool true, by simp [upd, e0], rfl, trivial, hC.trans (hb8.mono hC.size)⟩
      | 2, _ =>
        have e1 : z 1 = .bool true := hdp 1 (dep_of (by kernel_rfl))
        refine wpOp_step rfl (fun K hK => ?_)
        clear hdp
        go_simp
        exact hK _ _ ⟨.bool false, by simp [upd, e1], rfl, trivial, hC⟩
      | 3, _ =>
        have e2 : z 2 = .bool false := hdp 2 (dep_of (by kernel_rfl))
        refine wpOp_step rfl (fun K hK => ?_)
        clear hdp
        go_simp
        exact hK _ _ ⟨.bool false, by simp [upd, e2], rfl, trivial, hC⟩
      | 4, _ =>
        have e3 : z 3 = .bool false := hdp 3 (dep_of (by kernel_rfl))
        refine wpOp_step rfl (fun K hK => ?_)
        clear hdp
        go_simp
        exact hK _ _ ⟨.pointer (some ⟨w.heap.size + 1, 0, none⟩), by simp [upd, e3], rfl, trivial, hC⟩
      | 5, _ =>
        obtain ⟨p0, -⟩ := one_factE (HX.out w7 hC).2.2.2.1
        have e3 : z 3 = .bool false := hdp 3 (dep_of (by kernel_rfl))
        have e4 : z 4 = .pointer (some ⟨w.heap.size + 1, 0, none⟩) := hdp 4 (dep_of (by kernel_rfl))
        refine wpOp_step rfl (fun K hK => ?_)
        clear hdp
        go_simp
        exact hK _ _ ⟨.slice a L.length c0, by simp [upd, e3, e4], rfl, trivial, hC⟩
      | 6, _ =>
        have e3 : z 3 = .bool false := hdp 3 (dep_of (by kernel_rfl))
        have e5 : z 5 = .slice a L.length c0 := hdp 5 (dep_of (by kernel_rfl))
        refine wpOp_step rfl (fun K hK => ?_)
        clear hdp
        go_simp
        exact hK _ _ ⟨.int .i64 (L.length : Int), by simp [upd, e3, e5], rfl, trivial, hC⟩
      | 7, _ =>
        have e3 : z 3 = .bool false := hdp 3 (dep_of (by kernel_rfl))
        refine wpOp_step rfl (fun K hK => ?_)
        clear hdp
        go_simp
        exact hK _ _ ⟨.pointer (some ⟨w.heap.size, 2, none⟩), by simp [upd, e3], rfl, trivial, hC⟩
      | 8, _ =>
        obtain ⟨q0, q1, q2, q3, -⟩ := four_facts (HX.out w7 hC).2.2.1
        have e3 : z 3 = .bool false := hdp 3 (dep_of (by kernel_rfl))
        have e7 : z 7 = .pointer (some ⟨w.heap.size, 2, none⟩) := hdp 7 (dep_of (by kernel_rfl))
        refine wpOp_step rfl (fun K hK => ?_)
        clear hdp
        go_simp
        exact hK _ _ ⟨.int .i64 h.maxN, by simp [upd, e3, e7], rfl, trivial, hC⟩
      | 9, _ =>
        have e3 : z 3 = .bool false := hdp 3 (dep_of (by kernel_rfl))
        have e6 : z 6 = .int .i64 (L.length : Int) := hdp 6 (dep_of (by kernel_rfl))
        have e8 : z 8 = .int .i64 h.maxN := hdp 8 (dep_of (by kernel_rfl))
        refine wpOp_step rfl (fun K hK => ?_)
        clear hdp
        go_simp
        exact hK _ _ ⟨.bool true, by simp [upd, e3, e6, e8], rfl, trivial, hC⟩
      | 10, _ =>
        have e3 : z 3 = .bool false := hdp 3 (dep_of (by kernel_rfl))
        have e9 : z 9 = .bool true := hdp 9 (dep_of (by kernel_rfl))
        refine wpOp_step rfl (fun K hK => ?_)
        clear hdp
        go_simp
        exact hK _ _ ⟨.bool true, by simp [upd, e3, e9], rfl, trivial, hC⟩
      | 11, _ =>
        have e10 : z 10 = .bool true := hdp 10 (dep_of (by kernel_rfl))
        refine wpOp_step rfl (fun K hK => ?_)
        clear hdp
        go_simp
        exact hK _ _ ⟨.bool true, by simp [upd, e10], rfl, trivial, hC⟩
      | 12, _ =>
        have e11 : z 11 = .bool true := hdp 11 (dep_of (by kernel_rfl))
        refine wpOp_step rfl (fun K hK => ?_)
        clear hdp
        go_simp
        exact hK _ _ ⟨undef, by simp [upd, e11], rfl, trivial, hC⟩
      | 13, _ =>
        have e11 : z 11 = .bool true := hdp 11 (dep_of (by kernel_rfl))
        refine wpOp_step rfl (fun K hK => ?_)
        clear hdp
        go_simp
        exact hK _ _ ⟨undef, by simp [upd, e11], rfl, trivial, hC⟩
      | 14, _ =>
        have e11 : z 11 = .bool true := hdp 11 (dep_of (by kernel_rfl))
        refine wpOp_step rfl (fun K hK => ?_)
        clear hdp
        go_simp
        exact hK _ _ ⟨undef, by simp [upd, e11], rfl, trivial, hC⟩
      | 15, _ =>
        have e11 : z 11 = .bool true := hdp 11 (dep_of (by kernel_rfl))
        refine wpOp_step rfl (fun K hK => ?_)
        clear hdp
        go_simp
        exact hK _ _ ⟨undef, by simp [upd, e11], rfl, trivial, hC⟩
      | 16, _ =>
        have e11 : z 11 = .bool true := hdp 11 (dep_of (by kernel_rfl))
        refine wpOp_step rfl (fun K hK => ?_)
        clear hdp
        go_simp
        exact hK _ _ ⟨undef, by simp [upd, e11], rfl, trivial, hC⟩
      | n + 17, hn => exact absurd hn (by omega)
    · intro z w7 kk hkk hC hdp
      have e11 : z 11 = .bool true := hdp 11 (by decide)
      have e16 : z 16 = undef := hdp 16 (by decide)
      refine wpOp_step rfl (fun K hK => ?_)
      clear hdp
      go_simp
      refine hK _ _ ?_
      clear hK K e11 e16
      have HBw := Lib.hid (HX.out w7 hC).2.2.2.2
      clear hC
      go_wp2
      go_ret
      exact ⟨rfl, HBw.out⟩
  have g1 : decide (h.maxN < (L.length : Int)) = false := by simp; omega
  by_cases c2 : (bytesE L : Int) ≤ h.maxB
  rotate_left
  · rw [decide_eq_true c1, decide_eq_false c2, show (true && (true && (false && (L.all entryB && decide (apartE L))))) = false from rfl]
    have g2 : decide (h.maxB < (bytesE L : Int)) = true := by simp; omega
    go_enter Tryz.func12, Tryz.ntmps12
    go_wp2_with fail
    rw [← HW.out]
    refine wp_region_last (by kernel_rfl) 17 (by kernel_rfl) (by kernel_rfl) (by kernel_rfl)
      (fun z => { tmps := #[.agg #[u, .int .i64 h.key, .int .i64 h.maxN, .int .i64 h.maxB], .agg #[.slice a L.length c0], .pointer (some ⟨w.heap.size, 0, none⟩), .pointer (some ⟨w.heap.size + 1, 0, none⟩), .bool false, undef, undef, z 0, z 1, z 2, z 3, z 4, z 5, z 6, z 7, z 8, z 9, z 10, z 11, z 12, z 13, z 14, z 15, z 16, undef, undef, undef, undef, undef, undef, undef, undef, undef, undef, undef, undef, undef, undef, undef, undef, undef, undef, undef, undef, undef, undef, undef, undef, undef, undef], defers := [] })
      (fun _ W => Below wA.heap.size wA W)
      (fun i xv _ => xv = ([.agg #[u, .int .i64 h.key, .int .i64 h.maxN, .int .i64 h.maxB], .bool true, .bool false, .bool false, .pointer (some ⟨w.heap.size + 1, 0, none⟩), .slice a L.length c0, .int .i64 (L.length : Int), .pointer (some ⟨w.heap.size, 2, none⟩), .int .i64 h.maxN, .bool false, .bool false, .bool false, .agg #[.slice a L.length c0], .int .i64 (bytesE L : Int), .pointer (some ⟨w.heap.size, 3, none⟩), .int .i64 h.maxB, .bool true] : List Value).getD i undef)
      (fun _ _ => True) (fun _ => undef) (Below.refl _ _).drew
      (fun _ _ _ _ _ h _ => h) ?_ ?_
    · intro i hi z w7 kk hkk hC hdp
      match i, hi with
      | 0, _ =>
        obtain ⟨q0, q1, q2, q3, -⟩ := four_facts (HX.out w7 hC).2.2.1
        refine wpOp_step rfl (fun K hK => ?_)
        clear hdp
        go_simp
        exact hK _ _ ⟨.agg #[u, .int .i64 h.key, .int .i64 h.maxN, .int .i64 h.maxB], rfl, rfl, trivial, hC⟩
      | 1, _ =>
        have e0 : z 0 = .agg #[u, .int .i64 h.key, .int .i64 h.maxN, .int .i64 h.maxB] := hdp 0 (dep_of (by kernel_rfl))
        have hT := HHo.out w7 (HX.out w7 hC)
        refine wpOp_step rfl (fun K hK => ?_)
        clear hdp
        go_simp
        refine hT.mono ?_
        rintro e w8 ⟨rfl, hb8⟩
        exact hK _ _ ⟨.bool true, by simp [upd, e0], rfl, trivial, hC.trans (hb8.mono hC.size)⟩
      | 2, _ =>
        have e1 : z 1 = .bool true := hdp 1 (dep_of (by kernel_rfl))
        refine wpOp_step rfl (fun K hK => ?_)
        clear hdp
        go_simp
        exact hK _ _ ⟨.bool false, by simp [upd, e1], rfl, trivial, hC⟩
      | 3, _ =>
        have e2 : z 2 = .bool false := hdp 2 (dep_of (by kernel_rfl))
        refine wpOp_step rfl (fun K hK => ?_)
        clear hdp
        go_simp
        exact hK _ _ ⟨.bool false, by simp [upd, e2], rfl, trivial, hC⟩
      | 4, _ =>
        have e3 : z 3 = .bool false := hdp 3 (dep_of (by kernel_rfl))
        refine wpOp_step rfl (fun K hK => ?_)
        clear hdp
        go_simp
        exact hK _ _ ⟨.pointer (some ⟨w.heap.size + 1, 0, none⟩), by simp [upd, e3], rfl, trivial, hC⟩
      | 5, _ =>
        obtain ⟨p0, -⟩ := one_factE (HX.out w7 hC).2.2.2.1
        have e3 : z 3 = .bool false := hdp 3 (dep_of (by kernel_rfl))
        have e4 : z 4 = .pointer (some ⟨w.heap.size + 1, 0, none⟩) := hdp 4 (dep_of (by kernel_rfl))
        refine wpOp_step rfl (fun K hK => ?_)
        clear hdp
        go_simp
        exact hK _ _ ⟨.slice a L.length c0, by simp [upd, e3, e4], rfl, trivial, hC⟩
      | 6, _ =>
        have e3 : z 3 = .bool false := hdp 3 (dep_of (by kernel_rfl))
        have e5 : z 5 = .slice a L.length c0 := hdp 5 (dep_of (by kernel_rfl))
        refine wpOp_step rfl (fun K hK => ?_)
        clear hdp
        go_simp
        exact hK _ _ ⟨.int .i64 (L.length : Int), by simp [upd, e3, e5], rfl, trivial, hC⟩
      | 7, _ =>
        have e3 : z 3 = .bool false := hdp 3 (dep_of (by kernel_rfl))
        refine wpOp_step rfl (fun K hK => ?_)
        clear hdp
        go_simp
        exact hK _ _ ⟨.pointer (some ⟨w.heap.size, 2, none⟩), by simp [upd, e3], rfl, trivial, hC⟩
      | 8, _ =>
        obtain ⟨q0, q1, q2, q3, -⟩ := four_facts (HX.out w7 hC).2.2.1
        have e3 : z 3 = .bool false := hdp 3 (dep_of (by kernel_rfl))
        have e7 : z 7 = .pointer (some ⟨w.heap.size, 2, none⟩) := hdp 7 (dep_of (by kernel_rfl))
        refine wpOp_step rfl (fun K hK => ?_)
        clear hdp
        go_simp
        exact hK _ _ ⟨.int .i64 h.maxN, by simp [upd, e3, e7], rfl, trivial, hC⟩
      | 9, _ =>
        have e3 : z 3 = .bool false := hdp 3 (dep_of (by kernel_rfl))
        have e6 : z 6 = .int .i64 (L.length : Int) := hdp 6 (dep_of (by kernel_rfl))
        have e8 : z 8 = .int .i64 h.maxN := hdp 8 (dep_of (by kernel_rfl))
        refine wpOp_step rfl (fun K hK => ?_)
        clear hdp
        go_simp
        exact hK _ _ ⟨.bool false, by simp [upd, e3, e6, e8], rfl, trivial, hC⟩
      | 10, _ =>
        have e3 : z 3 = .bool false := hdp 3 (dep_of (by kernel_rfl))
        have e9 : z 9 = .bool false := hdp 9 (dep_of (by kernel_rfl))
        refine wpOp_step rfl (fun K hK => ?_)
        clear hdp
        go_simp
        exact hK _ _ ⟨.bool false, by simp [upd, e3, e9], rfl, trivial, hC⟩
      | 11, _ =>
        have e10 : z 10 = .bool false := hdp 10 (dep_of (by kernel_rfl))
        refine wpOp_step rfl (fun K hK => ?_)
        clear hdp
        go_simp
        exact hK _ _ ⟨.bool false, by simp [upd, e10], rfl, trivial, hC⟩
      | 12, _ =>
        obtain ⟨p0, -⟩ := one_factE (HX.out w7 hC).2.2.2.1
        have e11 : z 11 = .bool false := hdp 11 (dep_of (by kernel_rfl))
        refine wpOp_step rfl (fun K hK => ?_)
        clear hdp
        go_simp
        exact hK _ _ ⟨.agg #[.slice a L.length c0], by simp [upd, e11], rfl, trivial, hC⟩
      | 13, _ =>
        have e11 : z 11 = .bool false := hdp 11 (dep_of (by kernel_rfl))
        have e12 : z 12 = .agg #[.slice a L.length c0] := hdp 12 (dep_of (by kernel_rfl))
        have hT := HBy.out w7 (HX.out w7 hC)
        refine wpOp_step rfl (fun K hK => ?_)
        clear hdp
        go_simp
        refine hT.mono ?_
        rintro e w8 ⟨rfl, hb8⟩
        exact hK _ _ ⟨.int .i64 (bytesE L : Int), by simp [upd, e11, e12], rfl, trivial, hC.trans (hb8.mono hC.size)⟩
      | 14, _ =>
        have e11 : z 11 = .bool false := hdp 11 (dep_of (by kernel_rfl))
        refine wpOp_step rfl (fun K hK => ?_)
        clear hdp
        go_simp
        exact hK _ _ ⟨.pointer (some ⟨w.heap.size, 3, none⟩), by simp [upd, e11], rfl, trivial, hC⟩
      | 15, _ =>
        obtain ⟨q0, q1, q2, q3, -⟩ := four_facts (HX.out w7 hC).2.2.1
        have e11 : z 11 = .bool false := hdp 11 (dep_of (by kernel_rfl))
        have e14 : z 14 = .pointer (some ⟨w.heap.size, 3, none⟩) := hdp 14 (dep_of (by kernel_rfl))
        refine wpOp_step rfl (fun K hK => ?_)
        clear hdp
        go_simp
        exact hK _ _ ⟨.int .i64 h.maxB, by simp [upd, e11, e14], rfl, trivial, hC⟩
      | 16, _ =>
        have e11 : z 11 = .bool false := hdp 11 (dep_of (by kernel_rfl))
        have e13 : z 13 = .int .i64 (bytesE L : Int) := hdp 13 (dep_of (by kernel_rfl))
        have e15 : z 15 = .int .i64 h.maxB := hdp 15 (dep_of (by kernel_rfl))
        refine wpOp_step rfl (fun K hK => ?_)
        clear hdp
        go_simp
        exact hK _ _ ⟨.bool true, by simp [upd, e11, e13, e15], rfl, trivial, hC⟩
      | n + 17, hn => exact absurd hn (by omega)
    · intro z w7 kk hkk hC hdp
      have e11 : z 11 = .bool false := hdp 11 (by decide)
      have e16 : z 16 = .bool true := hdp 16 (by decide)
      refine wpOp_step rfl (fun K hK => ?_)
      clear hdp
      go_simp
      refine hK _ _ ?_
      clear hK K e11 e16
      have HBw := Lib.hid (HX.out w7 hC).2.2.2.2
      clear hC
      go_wp2
      go_ret
      exact ⟨rfl, HBw.out⟩
  have g2 : decide (h.maxB < (bytesE L : Int)) = false := by simp; omega
  rw [decide_eq_true c1, decide_eq_true c2, show (true && (true && (true && (L.all entryB && decide (apartE L))))) = (L.all entryB && decide (apartE L)) from rfl]
  go_enter Tryz.func12, Tryz.ntmps12
  go_wp2_with fail
  rw [← HW.out]
  refine wp_region_last (by kernel_rfl) 17 (by kernel_rfl) (by kernel_rfl) (by kernel_rfl)
    (fun z => { tmps := #[.agg #[u, .int .i64 h.key, .int .i64 h.maxN, .int .i64 h.maxB], .agg #[.slice a L.length c0], .pointer (some ⟨w.heap.size, 0, none⟩), .pointer (some ⟨w.heap.size + 1, 0, none⟩), .bool false, undef, undef, z 0, z 1, z 2, z 3, z 4, z 5, z 6, z 7, z 8, z 9, z 10, z 11, z 12, z 13, z 14, z 15, z 16, undef, undef, undef, undef, undef, undef, undef, undef, undef, undef, undef, undef, undef, undef, undef, undef, undef, undef, undef, undef, undef, undef, undef, undef, undef, undef], defers := [] })
    (fun _ W => Below wA.heap.size wA W)
    (fun i xv _ => xv = ([.agg #[u, .int .i64 h.key, .int .i64 h.maxN, .int .i64 h.maxB], .bool true, .bool false, .bool false, .pointer (some ⟨w.heap.size + 1, 0, none⟩), .slice a L.length c0, .int .i64 (L.length : Int), .pointer (some ⟨w.heap.size, 2, none⟩), .int .i64 h.maxN, .bool false, .bool false, .bool false, .agg #[.slice a L.length c0], .int .i64 (bytesE L : Int), .pointer (some ⟨w.heap.size, 3, none⟩), .int .i64 h.maxB, .bool false] : List Value).getD i undef)
    (fun _ _ => True) (fun _ => undef) (Below.refl _ _).drew
    (fun _ _ _ _ _ h _ => h) ?_ ?_
  · intro i hi z w7 kk hkk hC hdp
    match i, hi with
    | 0, _ =>
      obtain ⟨q0, q1, q2, q3, -⟩ := four_facts (HX.out w7 hC).2.2.1
      refine wpOp_step rfl (fun K hK => ?_)
      clear hdp
      go_simp
      exact hK _ _ ⟨.agg #[u, .int .i64 h.key, .int .i64 h.maxN, .int .i64 h.maxB], rfl, rfl, trivial, hC⟩
    | 1, _ =>
      have e0 : z 0 = .agg #[u, .int .i64 h.key, .int .i64 h.maxN, .int .i64 h.maxB] := hdp 0 (dep_of (by kernel_rfl))
      have hT := HHo.out w7 (HX.out w7 hC)
      refine wpOp_step rfl (fun K hK => ?_)
      clear hdp
      go_simp
      refine hT.mono ?_
      rintro e w8 ⟨rfl, hb8⟩
      exact hK _ _ ⟨.bool true, by simp [upd, e0], rfl, trivial, hC.trans (hb8.mono hC.size)⟩
    | 2, _ =>
      have e1 : z 1 = .bool true := hdp 1 (dep_of (by kernel_rfl))
      refine wpOp_step rfl (fun K hK => ?_)
      clear hdp
      go_simp
      exact hK _ _ ⟨.bool false, by simp [upd, e1], rfl, trivial, hC⟩
    | 3, _ =>
      have e2 : z 2 = .bool false := hdp 2 (dep_of (by kernel_rfl))
      refine wpOp_step rfl (fun K hK => ?_)
      clear hdp
      go_simp
      exact hK _ _ ⟨.bool false, by simp [upd, e2], rfl, trivial, hC⟩
    | 4, _ =>
      have e3 : z 3 = .bool false := hdp 3 (dep_of (by kernel_rfl))
      refine wpOp_step rfl (fun K hK => ?_)
      clear hdp
      go_simp
      exact hK _ _ ⟨.pointer (some ⟨w.heap.size + 1, 0, none⟩), by simp [upd, e3], rfl, trivial, hC⟩
    | 5, _ =>
      obtain ⟨p0, -⟩ := one_factE (HX.out w7 hC).2.2.2.1
      have e3 : z 3 = .bool false := hdp 3 (dep_of (by kernel_rfl))
      have e4 : z 4 = .pointer (some ⟨w.heap.size + 1, 0, none⟩) := hdp 4 (dep_of (by kernel_rfl))
      refine wpOp_step rfl (fun K hK => ?_)
      clear hdp
      go_simp
      exact hK _ _ ⟨.slice a L.length c0, by simp [upd, e3, e4], rfl, trivial, hC⟩
    | 6, _ =>
      have e3 : z 3 = .bool false := hdp 3 (dep_of (by kernel_rfl))
      have e5 : z 5 = .slice a L.length c0 := hdp 5 (dep_of (by kernel_rfl))
      refine wpOp_step rfl (fun K hK => ?_)
      clear hdp
      go_simp
      exact hK _ _ ⟨.int .i64 (L.length : Int), by simp [upd, e3, e5], rfl, trivial, hC⟩
    | 7, _ =>
      have e3 : z 3 = .bool false := hdp 3 (dep_of (by kernel_rfl))
      refine wpOp_step rfl (fun K hK => ?_)
      clear hdp
      go_simp
      exact hK _ _ ⟨.pointer (some ⟨w.heap.size, 2, none⟩), by simp [upd, e3], rfl, trivial, hC⟩
    | 8, _ =>
      obtain ⟨q0, q1, q2, q3, -⟩ := four_facts (HX.out w7 hC).2.2.1
      have e3 : z 3 = .bool false := hdp 3 (dep_of (by kernel_rfl))
      have e7 : z 7 = .pointer (some ⟨w.heap.size, 2, none⟩) := hdp 7 (dep_of (by kernel_rfl))
      refine wpOp_step rfl (fun K hK => ?_)
      clear hdp
      go_simp
      exact hK _ _ ⟨.int .i64 h.maxN, by simp [upd, e3, e7], rfl, trivial, hC⟩
    | 9, _ =>
      have e3 : z 3 = .bool false := hdp 3 (dep_of (by kernel_rfl))
      have e6 : z 6 = .int .i64 (L.length : Int) := hdp 6 (dep_of (by kernel_rfl))
      have e8 : z 8 = .int .i64 h.maxN := hdp 8 (dep_of (by kernel_rfl))
      refine wpOp_step rfl (fun K hK => ?_)
      clear hdp
      go_simp
      exact hK _ _ ⟨.bool false, by simp [upd, e3, e6, e8], rfl, trivial, hC⟩
    | 10, _ =>
      have e3 : z 3 = .bool false := hdp 3 (dep_of (by kernel_rfl))
      have e9 : z 9 = .bool false := hdp 9 (dep_of (by kernel_rfl))
      refine wpOp_step rfl (fun K hK => ?_)
      clear hdp
      go_simp
      exact hK _ _ ⟨.bool false, by simp [upd, e3, e9], rfl, trivial, hC⟩
    | 11, _ =>
      have e10 : z 10 = .bool false := hdp 10 (dep_of (by kernel_rfl))
      refine wpOp_step rfl (fun K hK => ?_)
      clear hdp
      go_simp
      exact hK _ _ ⟨.bool false, by simp [upd, e10], rfl, trivial, hC⟩
    | 12, _ =>
      obtain ⟨p0, -⟩ := one_factE (HX.out w7 hC).2.2.2.1
      have e11 : z 11 = .bool false := hdp 11 (dep_of (by kernel_rfl))
      refine wpOp_step rfl (fun K hK => ?_)
      clear hdp
      go_simp
      exact hK _ _ ⟨.agg #[.slice a L.length c0], by simp [upd, e11], rfl, trivial, hC⟩
    | 13, _ =>
      have e11 : z 11 = .bool false := hdp 11 (dep_of (by kernel_rfl))
      have e12 : z 12 = .agg #[.slice a L.length c0] := hdp 12 (dep_of (by kernel_rfl))
      have hT := HBy.out w7 (HX.out w7 hC)
      refine wpOp_step rfl (fun K hK => ?_)
      clear hdp
      go_simp
      refine hT.mono ?_
      rintro e w8 ⟨rfl, hb8⟩
      exact hK _ _ ⟨.int .i64 (bytesE L : Int), by simp [upd, e11, e12], rfl, trivial, hC.trans (hb8.mono hC.size)⟩
    | 14, _ =>
      have e11 : z 11 = .bool false := hdp 11 (dep_of (by kernel_rfl))
      refine wpOp_step rfl (fun K hK => ?_)
      clear hdp
      go_simp
      exact hK _ _ ⟨.pointer (some ⟨w.heap.size, 3, none⟩), by simp [upd, e11], rfl, trivial, hC⟩
    | 15, _ =>
      obtain ⟨q0, q1, q2, q3, -⟩ := four_facts (HX.out w7 hC).2.2.1
      have e11 : z 11 = .bool false := hdp 11 (dep_of (by kernel_rfl))
      have e14 : z 14 = .pointer (some ⟨w.heap.size, 3, none⟩) := hdp 14 (dep_of (by kernel_rfl))
      refine wpOp_step rfl (fun K hK => ?_)
      clear hdp
      go_simp
      exact hK _ _ ⟨.int .i64 h.maxB, by simp [upd, e11, e14], rfl, trivial, hC⟩
    | 16, _ =>
      have e11 : z 11 = .bool false := hdp 11 (dep_of (by kernel_rfl))
      have e13 : z 13 = .int .i64 (bytesE L : Int) := hdp 13 (dep_of (by kernel_rfl))
      have e15 : z 15 = .int .i64 h.maxB := hdp 15 (dep_of (by kernel_rfl))
      refine wpOp_step rfl (fun K hK => ?_)
      clear hdp
      go_simp
      exact hK _ _ ⟨.bool false, by simp [upd, e11, e13, e15], rfl, trivial, hC⟩
    | n + 17, hn => exact absurd hn (by omega)
  · intro z w7 kk hkk hC hdp
    have e11 : z 11 = .bool false := hdp 11 (by decide)
    have e16 : z 16 = .bool false := hdp 16 (by decide)
    refine wpOp_step rfl (fun K hK => ?_)
    clear hdp
    go_simp
    refine hK _ _ ?_
    clear hK K e11 e16
    have HBw := Lib.hid hC
    obtain ⟨p0, -⟩ := one_factE (HX.out w7 hC).2.2.2.1
    clear hC g1 g2
    go_wp2_with fail
    go_loopw [5, 6] (fun i _ wr => ∃ k : Nat, k ≤ L.length ∧ i = .int .i64 k ∧ (L.take k).all entryB = true ∧ apartE (L.take k) ∧ Below wA.heap.size wA wr) (fun i _ _ => L.length - (intOf i).toNat)
    case atStart => exact ⟨0, Nat.zero_le _, rfl, rfl, List.Pairwise.nil, HBw.out⟩
    case round =>
      obtain ⟨k, hk, rfl, hall, hap, hbr⟩ := hrel
      clear p0
      obtain ⟨p0, -⟩ := one_factE (HX.out wr hbr).2.2.2.1
      by_cases hlt : k < L.length
      · obtain ⟨e, hg⟩ : ∃ e, L[k]? = some e := ⟨_, List.getElem?_eq_getElem hlt⟩
        have hgS := hg
        obtain ⟨b, o, rfl, hbw, hat⟩ := HRow.out k e hg
        have he := HE.out e (List.mem_of_getElem? hg)
        have hat2 := hat.keep ((HX.out wr hbr).2.2.2.2.block b hbw)
        obtain ⟨x0, x1, x2, x3, x4, x5, x6, x7, x8⟩ := hat2
        obtain ⟨wE, hwE⟩ : ∃ x, x = wr.alloc (.cells #[.string e.place, .int .i64 e.mask, .int .i64 e.rsp.code, .int .i64 e.rsp.mx, .bool e.rsp.hide, .string e.rsp.tag, .int .i64 e.rsp.cod, .string e.rsp.body, .int .i64 e.tm] 48) := ⟨_, rfl⟩
        have hnE : wE.heap[wr.heap.size]? = some (.cells #[.string e.place, .int .i64 e.mask, .int .i64 e.rsp.code, .int .i64 e.rsp.mx, .bool e.rsp.hide, .string e.rsp.tag, .int .i64 e.rsp.cod, .string e.rsp.body, .int .i64 e.tm] 48 (0, 0)) := by rw [hwE]; exact heap_alloc_new wr _
        have hbE : Below wA.heap.size wA wE := by rw [hwE]; exact hbr.alloc hbr.size _
        have hsE : wE.heap.size = wr.heap.size + 1 := by rw [hwE]; simp
        have hzr := hbr.size
        have y0 := (nine_facts hnE)
        obtain ⟨y0, y1, y2, y3, y4, y5, y6, y7, y8⟩ := y0
        rw [hwE] at y0 y1 y2 y3 y4 y5 y6 y7 y8
        have HWE := Lib.hid hwE
        have HN := Lib.hid hnE
        have hC := spec_entryok e wE he
        unfold enV at hC
        have HAll := Lib.hid hall
        have HAp := Lib.hid hap
        have HG := Lib.hid hg
        clear hwE hnE hall hap hg hgS he hat hbr
        cases hEB : entryB e with
        | false =>
          rw [hEB] at hC
          have HF : Hid ((L.all entryB && decide (apartE L)) = false) := Lib.hid (by rw [all_bad HG.out hEB]; rfl)
          clear hEB
          go_wp2_with fail
          rw [← HWE.out]
          refine hC.mono ?_
          rintro e' w2 ⟨rfl, hb2⟩
          have HB2 := Lib.hid (HX.out w2 (hbE.trans (hb2.mono hbE.size))).2.2.2.2
          clear hC hbE hb2 x0 x1 x2 x3 x4 x5 x6 x7 x8 y0 y1 y2 y3 y4 y5 y6 y7 y8 p0
          go_wp2
          go_ret
          exact ⟨by rw [HF.out]; rfl, HB2.out⟩
        | true =>
          rw [hEB] at hC
          have HEB := Lib.hid hEB
          clear hEB
          go_wp2_with fail
          rw [← HWE.out]
          refine hC.mono ?_
          rintro e' w2 ⟨rfl, hb2⟩
          have hb02 := hbE.trans (hb2.mono hbE.size)
          clear hC x0 x1 x2 x3 x4 x5 x6 x7 x8 y0 y1 y2 y3 y4 y5 y6 y7 y8 p0
          obtain ⟨y0, y1, y2, y3, y4, y5, y6, y7, y8⟩ := nine_facts ((hb2.block wr.heap.size (by omega)).trans HN.out)
          obtain ⟨p0, -⟩ := one_factE (HX.out w2 hb02).2.2.2.1
          have hF := spec_stofind _ L e.place e.mask w2 (HX.out w2 hb02).2.1
          clear hb2 hbE
          go_wp2_with fail
          refine hF.mono ?_
          rintro e' w3 ⟨rfl, hb3⟩
          have hb03 := hb02.trans (hb3.mono hb02.size)
          have HB3 := Lib.hid (HX.out w3 hb03).2.2.2.2
          have Hb3 := Lib.hid hb03
          clear hF hb3 hb02 hb03 y0 y1 y2 y3 y4 y5 y6 y7 y8 p0
          by_cases hf : foundI L e.place e.mask = (k : Int)
          · have HA1 := Lib.hid (all_step HG.out HAll.out HEB.out)
            have HA2 := Lib.hid (apart_step HG.out HAp.out hf)
            rw [hf]
            clear hf
            go_wp2
            go_roundw
            case rel => exact ⟨k + 1, by omega, by go_num, HA1.out, HA2.out, Hb3.out⟩
            case measure => simp [intOf]; omega
          · have HF : Hid ((L.all entryB && decide (apartE L)) = false) := Lib.hid (by rw [decide_eq_false (apart_bad HG.out hf)]; simp)
            have hne : (foundI L e.place e.mask != (k : Int)) = true := by simpa using hf
            have hne2 : (foundI L e.place e.mask == (k : Int)) = false := by simpa using hf
            generalize foundI L e.place e.mask = fi at *
            clear hf
            go_wp2
            go_ret
            exact ⟨by rw [HF.out]; rfl, HB3.out⟩
      · obtain rfl : k = L.length := by omega
        rw [List.take_length] at hall hap
        have HF : Hid ((L.all entryB && decide (apartE L)) = true) := Lib.hid (by rw [hall, decide_eq_true hap]; rfl)
        have HB2 := Lib.hid (HX.out wr hbr).2.2.2.2
        clear hall hap hbr
        go_wp2
        go_ret
        exact ⟨by rw [HF.out]; rfl, HB2.out⟩
end Go.Proofs.YtbhnjnoblkfckaaGreatDoor
