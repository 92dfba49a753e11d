/- Walks: the key of a request, by the specification. -/
import Derived.Test.YtiepobifbkleaaaGreatDoorGKy
import Derived.Test.YtiepobifbkleaaaGreatDoorKyQ2
import Derived.Test.YtiepobifbkleaaaGreatDoorGCs
namespace Go.Proofs.YtiepobifbkleaaaGreatDoor
open Go.RowKit Go.Maps

set_option maxRecDepth 100000 in
set_option maxHeartbeats 3200000 in
theorem spec_keyof (hs : List Hs) (v : Value) (h : Hd) (u : Value) (w : World) (hH : HRow w v hs) (hN : HOks hs 1048576) (hF : FRow w u h.fs) (hz : HdSz h) :
    Calls Tryz.prog 23 #[.agg #[v], headV h u] w fun e w' => e = .returned (.tuple #[keyV (keyOf hs h).1, .bool (keyOf hs h).2]) ∧ Below w.heap.size w w' := by
  obtain ⟨hz3, hb3, hA0, hA1, hA2⟩ := box3_new w (.cells #[v] 25) (.cells #[.string h.verb, .string h.target, .string h.host, u, .string h.body] 40) (.cells #[.int .i64 0, .string ⟨#[]⟩, .int .i64 0] 27)
  obtain ⟨W3, hW3⟩ : ∃ W3, W3 = ((w.alloc (.cells #[v] 25)).alloc (.cells #[.string h.verb, .string h.target, .string h.host, u, .string h.body] 40)).alloc (.cells #[.int .i64 0, .string ⟨#[]⟩, .int .i64 0] 27) := ⟨_, rfl⟩
  rw [← hW3] at hz3 hb3 hA0 hA1 hA2
  have HX : Hid (∀ W, Below W3.heap.size W3 W → Below w.heap.size w W ∧ W.heap[w.heap.size]? = some (.cells #[v] 25 (0, 0)) ∧ W.heap[w.heap.size + 1]? = some (.cells #[.string h.verb, .string h.target, .string h.host, u, .string h.body] 40 (0, 0)) ∧ W.heap[w.heap.size + 2]? = some (.cells #[.int .i64 0, .string ⟨#[]⟩, .int .i64 0] 27 (0, 0))) := Lib.hid fun W hW =>
    ⟨hb3.trans (hW.mono (by omega)), (hW.block _ (by omega)).trans hA0, (hW.block _ (by omega)).trans hA1, (hW.block _ (by omega)).trans hA2⟩
  have HM : Hid (∀ W, Below w.heap.size w W → Calls Tryz.prog 70 #[u] W fun e w' => e = .returned (.int .i64 (codOfF h.fs : Int)) ∧ Below W.heap.size W w') := Lib.hid fun W hW => spec_codof u h.fs W (hF.below (Nat.le_refl _) hW) hz.fs hz.len
  have HR : Hid (∀ W, Below W3.heap.size W3 W → Calls Tryz.prog 63 #[.agg #[v]] W (fun e w' => e = .returned (.bool (cfgB hs)) ∧ Below W.heap.size W w') ∧
      Calls Tryz.prog 37 #[.agg #[.string h.verb, .string h.target, .string h.host, u, .string h.body]] W (fun e w' => e = .returned (.bool (hedB h)) ∧ Below W.heap.size W w') ∧
      Calls Tryz.prog 69 #[.agg #[v], .string h.host] W (fun e w' => e = .returned (.int .i64 (routeI hs h.host)) ∧ Below W.heap.size W w')) := Lib.hid fun W hW => by
    have hb := hb3.trans (hW.mono (by omega))
    have hH' := hH.below (Nat.le_refl _) hb
    exact ⟨spec_cfgok hs v W hH' hN, spec_hedok h u W (hF.below (Nat.le_refl _) hb) hz.len (fun f hf => ⟨by have := (hz.fs f hf).1; omega, by have := (hz.fs f hf).2; omega⟩) (by have := hz.verb; omega) (by have := hz.target; omega) (by have := hz.host; omega) (by have := hz.body; omega), spec_route hs v h.host W hH' hN⟩
  have hno : cfgB hs = false ∨ hedB h = false ∨ h.verb.data.toList ≠ bGet ∨ routeI hs h.host < 0 → keyOf hs h = (noKy, false) := fun e => by
    unfold keyOf
    rw [if_neg]
    intro ha
    obtain ⟨a1, a2, a3⟩ := get_iff.1 ha
    rcases e with e | e | e | e
    · rw [route_no e] at a1; exact absurd a1 (by decide)
    · rw [e] at a3; cases a3
    · exact e a2
    · omega
  have hyes : hedB h = true → h.verb.data.toList = bGet → 0 ≤ routeI hs h.host → keyOf hs h = (⟨routeI hs h.host, h.target, codOfF h.fs⟩, true) := fun a b c => if_pos (get_iff.2 ⟨c, b, a⟩)
  generalize keyOf hs h = KV at *
  obtain ⟨t0, _⟩ := one_fact hA0
  obtain ⟨t1, t2, t3, t4, t5, _⟩ := five_facts hA1
  obtain ⟨va, vc, rfl, _⟩ := hH
  obtain ⟨ua, uc, rfl, _⟩ := hF
  obtain ⟨hverb, target, host, fs, body⟩ := h
  unfold headV
  dsimp only at *
  generalize codOfF fs = M at *
  generalize cfgB hs = R1 at *
  generalize hedB ⟨hverb, target, host, fs, body⟩ = R2 at *
  generalize routeI hs host = r at *
  have hc0 := (HR.out _ (Below.refl _ _)).1
  rw [hW3] at t0 t1 t2 t3 t4 t5 hc0
  have HW := Lib.hid hW3
  have HNo := Lib.hid hno; have HYes := Lib.hid hyes
  clear hW3 hb3 hA0 hA1 hA2 hN hz hno hyes
  go_enter Tryz.func23, Tryz.ntmps23
  go_wp2_with fail
  refine hc0.mono ?_
  rintro e w1 ⟨rfl, hb1⟩
  rw [← HW.out] at hb1
  obtain ⟨k1, k2, k3, k4⟩ := HX.out _ hb1
  have hz1 := hb1.size
  have HB1 := Lib.hid hb1
  clear hc0 hb1 t0 t1 t2 t3 t4 t5
  cases R1
  · obtain rfl := HNo.out (.inl rfl)
    have z := three_set k4 (.int .i64 0) (.string ⟨#[]⟩) (.int .i64 0)
    have HB : Hid (Below w.heap.size w (set3k w1 (w.heap.size + 2) (.int .i64 0) (.string ⟨#[]⟩) (.int .i64 0))) := Lib.hid (k1.grown (grown_set3 _ _ _ _ _) k1.size (fun k hk => by cases hk; omega))
    unfold set3k at z HB
    obtain ⟨z0, z1, z2, _⟩ := three_facts z
    obtain ⟨_, _, _, f0, f1, f2⟩ := three_facts k4
    have HZ := Lib.hid (And.intro z0 (And.intro z1 z2))
    clear k1 k2 k3 k4 z z0 z1 z2
    go_wp2_with fail
    obtain ⟨z0, z1, z2⟩ := HZ.out
    refine bodyPost_ret (v := .tuple #[.agg #[.int .i64 0, .string ⟨#[]⟩, .int .i64 0], .bool false]) (by simp [results, Tryz.results23, go_sem, z0, z1, z2]) rfl ?_
    exact ⟨rfl, HB.out⟩
  obtain ⟨t0, _⟩ := one_fact k2
  obtain ⟨t1, t2, t3, t4, t5, _⟩ := five_facts k3
  have hc := (HR.out _ HB1.out).2.1
  clear k1 k2 k3 k4
  go_wp2_with fail
  refine hc.mono ?_
  rintro e w2 ⟨rfl, hb2⟩
  have HB2 := Lib.hid (HB1.out.trans (hb2.mono hz1))
  obtain ⟨k1, k2, k3, k4⟩ := HX.out _ HB2.out
  have hz2 := HB2.out.size
  clear hc hb2 t0 t1 t2 t3 t4 t5
  cases R2
  · obtain rfl := HNo.out (.inr (.inl rfl))
    have z := three_set k4 (.int .i64 0) (.string ⟨#[]⟩) (.int .i64 0)
    have HB : Hid (Below w.heap.size w (set3k w2 (w.heap.size + 2) (.int .i64 0) (.string ⟨#[]⟩) (.int .i64 0))) := Lib.hid (k1.grown (grown_set3 _ _ _ _ _) k1.size (fun k hk => by cases hk; omega))
    unfold set3k at z HB
    obtain ⟨z0, z1, z2, _⟩ := three_facts z
    obtain ⟨_, _, _, f0, f1, f2⟩ := three_facts k4
    have HZ := Lib.hid (And.intro z0 (And.intro z1 z2))
    clear k1 k2 k3 k4 z z0 z1 z2
    go_wp2_with fail
    obtain ⟨z0, z1, z2⟩ := HZ.out
    refine bodyPost_ret (v := .tuple #[.agg #[.int .i64 0, .string ⟨#[]⟩, .int .i64 0], .bool false]) (by simp [results, Tryz.results23, go_sem, z0, z1, z2]) rfl ?_
    exact ⟨rfl, HB.out⟩
  obtain ⟨t0, _⟩ := one_fact k2
  obtain ⟨t1, t2, t3, t4, t5, _⟩ := five_facts k3
  by_cases cv : ¬ hverb.data.toList = bGet
  · obtain rfl := HNo.out (.inr (.inr (.inl cv)))
    have b0 : (hverb.toList == [103, 101, 116]) = false := by rw [Lib.toList_data]; exact beq_eq_false_iff_ne.2 cv
    clear cv
    have z := three_set k4 (.int .i64 0) (.string ⟨#[]⟩) (.int .i64 0)
    have HB : Hid (Below w.heap.size w (set3k w2 (w.heap.size + 2) (.int .i64 0) (.string ⟨#[]⟩) (.int .i64 0))) := Lib.hid (k1.grown (grown_set3 _ _ _ _ _) k1.size (fun k hk => by cases hk; omega))
    unfold set3k at z HB
    obtain ⟨z0, z1, z2, _⟩ := three_facts z
    obtain ⟨_, _, _, f0, f1, f2⟩ := three_facts k4
    have HZ := Lib.hid (And.intro z0 (And.intro z1 z2))
    clear k1 k2 k3 k4 z z0 z1 z2
    go_wp2_with fail
    obtain ⟨z0, z1, z2⟩ := HZ.out
    refine bodyPost_ret (v := .tuple #[.agg #[.int .i64 0, .string ⟨#[]⟩, .int .i64 0], .bool false]) (by simp [results, Tryz.results23, go_sem, z0, z1, z2]) rfl ?_
    exact ⟨rfl, HB.out⟩
  have cv := Classical.not_not.1 cv
  have b0 : (hverb.toList == [103, 101, 116]) = true := by rw [Lib.toList_data, cv]; rfl
  have HV := Lib.hid cv
  have hc := (HR.out _ HB2.out).2.2
  clear k1 k2 k3 k4 cv
  go_wp2_with fail
  refine hc.mono ?_
  rintro e w3 ⟨rfl, hb3⟩
  have HB3 := Lib.hid (HB2.out.trans (hb3.mono hz2))
  obtain ⟨k1, k2, k3, k4⟩ := HX.out _ HB3.out
  have hz3 := HB3.out.size
  clear hc hb3 t0 t1 t2 t3 t4 t5
  by_cases c1 : r < 0
  · obtain rfl := HNo.out (.inr (.inr (.inr c1)))
    have z := three_set k4 (.int .i64 0) (.string ⟨#[]⟩) (.int .i64 0)
    have HB : Hid (Below w.heap.size w (set3k w3 (w.heap.size + 2) (.int .i64 0) (.string ⟨#[]⟩) (.int .i64 0))) := Lib.hid (k1.grown (grown_set3 _ _ _ _ _) k1.size (fun k hk => by cases hk; omega))
    unfold set3k at z HB
    obtain ⟨z0, z1, z2, _⟩ := three_facts z
    obtain ⟨_, _, _, f0, f1, f2⟩ := three_facts k4
    have HZ := Lib.hid (And.intro z0 (And.intro z1 z2))
    clear k1 k2 k3 k4 z z0 z1 z2
    go_wp2_with fail
    obtain ⟨z0, z1, z2⟩ := HZ.out
    refine bodyPost_ret (v := .tuple #[.agg #[.int .i64 0, .string ⟨#[]⟩, .int .i64 0], .bool false]) (by simp [results, Tryz.results23, go_sem, z0, z1, z2]) rfl ?_
    exact ⟨rfl, HB.out⟩
  · obtain rfl := HYes.out (by first | rfl | trivial) HV.out (by omega)
    have HC : Hid (CTell w (w.heap.size) (w.heap.size + 1) (.cells #[.slice va hs.length vc] 25 (0, 0)) (.cells #[.string hverb, .string target, .string host, .slice ua fs.length uc, .string body] 40 (0, 0)) (w.heap.size + 2) #[.int .i64 0, .string ⟨#[]⟩, .int .i64 0] 27 7 (fun _ => False) w3) := Lib.hid ⟨k1, k2, k3, fun _ => k4, by omega⟩
    clear k1 k2 k3 k4
    go_wp2_with fail
    refine wp_region_lastL (by kernel_rfl) 8 (by kernel_rfl) (by kernel_rfl) (by kernel_rfl)
      (fun u => { tmps := #[.agg #[.slice va hs.length vc], .agg #[.string hverb, .string target, .string host, .slice ua fs.length uc, .string body], .pointer (some ⟨w.heap.size, 0, none⟩), .pointer (some ⟨w.heap.size + 1, 0, none⟩), .pointer (some ⟨w.heap.size + 2, 0, none⟩), .bool false, .int .i64 r, .agg #[.slice va hs.length vc], .bool true, .bool false, .bool false, .agg #[.string hverb, .string target, .string host, .slice ua fs.length uc, .string body], .bool true, .bool false, .bool false, .bool false, .pointer (some ⟨w.heap.size + 1, 0, none⟩), .string hverb, .bool false, .bool false, undef, .agg #[.slice va hs.length vc], .pointer (some ⟨w.heap.size + 1, 2, none⟩), .string host, .int .i64 r, .int .i64 r, .bool (decide (r < 0)), undef, u 0, u 1, u 2, u 3, u 4, u 5, u 6], defers := [] })
      (fun L _ W => CTell w (w.heap.size) (w.heap.size + 1) (.cells #[.slice va hs.length vc] 25 (0, 0)) (.cells #[.string hverb, .string target, .string host, .slice ua fs.length uc, .string body] 40 (0, 0)) (w.heap.size + 2) #[.int .i64 0, .string ⟨#[]⟩, .int .i64 0] 27 7 L W)
      (RTell (w.heap.size + 2) #[.int .i64 r, .string target, .int .i64 (M : Int)] 27 7 [.int .i64 r, .pointer (some ⟨w.heap.size + 1, 1, none⟩), .string target, .pointer (some ⟨w.heap.size + 1, 3, none⟩), .slice ua fs.length uc, .int .i64 (M : Int), .agg #[.int .i64 r, .string target, .int .i64 (M : Int)], undef])
      (LeK 7 (some (w.heap.size + 2))) (fun _ => undef) HC.out.drew
      (fun i j v' w1 w2 _ _ hij hR hle => rtell_stay hij hR hle) ?_ ?_
    · intro i hi2 L u W k hk hL hC hd
      match i, hi2 with
      | 0, _ =>
        refine wpOp_step rfl (fun K hK => ?_)
        clear hd
        go_simp
        exact hK _ _ ⟨_, rfl, (rtell_eq (by decide)).2 rfl, lek_mk (by decide) (Below.refl _ _), hC.same⟩
      | 1, _ =>
        refine wpOp_step rfl (fun K hK => ?_)
        clear hd
        go_simp
        exact hK _ _ ⟨_, rfl, (rtell_eq (by decide)).2 rfl, lek_mk (by decide) (Below.refl _ _), hC.same⟩
      | 2, _ =>
        have e1 : u 1 = .pointer (some ⟨w.heap.size + 1, 1, none⟩) := (rtell_eq (by decide)).1 (hd 1 (dep_of (by kernel_rfl)))
        obtain ⟨_, x1, _⟩ := five_facts hC.c1
        refine wpOp_step rfl (fun K hK => ?_)
        clear hd
        go_simp
        exact hK _ _ ⟨_, by simp [upd, e1], (rtell_eq (by decide)).2 rfl, lek_mk (by decide) (Below.refl _ _), hC.same⟩
      | 3, _ =>
        refine wpOp_step rfl (fun K hK => ?_)
        clear hd
        go_simp
        exact hK _ _ ⟨_, rfl, (rtell_eq (by decide)).2 rfl, lek_mk (by decide) (Below.refl _ _), hC.same⟩
      | 4, _ =>
        have e3 : u 3 = .pointer (some ⟨w.heap.size + 1, 3, none⟩) := (rtell_eq (by decide)).1 (hd 3 (dep_of (by kernel_rfl)))
        obtain ⟨_, _, _, x3, _⟩ := five_facts hC.c1
        refine wpOp_step rfl (fun K hK => ?_)
        clear hd
        go_simp
        exact hK _ _ ⟨_, by simp [upd, e3], (rtell_eq (by decide)).2 rfl, lek_mk (by decide) (Below.refl _ _), hC.same⟩
      | 5, _ =>
        have e4 : u 4 = .slice ua fs.length uc := (rtell_eq (by decide)).1 (hd 4 (dep_of (by kernel_rfl)))
        refine wpOp_step rfl (fun K hK => ?_)
        clear hd
        go_simp
        refine (HM.out _ hC.bel).mono ?_
        rintro e w1 ⟨rfl, hb1⟩
        exact hK _ _ ⟨_, by simp [upd, e4], (rtell_eq (by decide)).2 rfl, lek_mk (by decide) hb1, hC.keep hb1⟩
      | 6, _ =>
        have e0 : u 0 = .int .i64 r := (rtell_eq (by decide)).1 (hd 0 (dep_of (by kernel_rfl)))
        have e2 : u 2 = .string target := (rtell_eq (by decide)).1 (hd 2 (dep_of (by kernel_rfl)))
        have e5 : u 5 = .int .i64 (M : Int) := (rtell_eq (by decide)).1 (hd 5 (dep_of (by kernel_rfl)))
        refine wpOp_step rfl (fun K hK => ?_)
        clear hd
        go_simp
        exact hK _ _ ⟨_, by simp [upd, e0, e2, e5], (rtell_eq (by decide)).2 rfl, lek_mk (by decide) (Below.refl _ _), hC.same⟩
      | 7, _ =>
        have e6 : u 6 = .agg #[.int .i64 r, .string target, .int .i64 (M : Int)] := (rtell_eq (by decide)).1 (hd 6 (dep_of (by kernel_rfl)))
        have hc := hC.cell hL
        obtain ⟨_, _, _, f0, f1, f2⟩ := three_facts hc
        refine wpOp_step rfl (fun K hK => ?_)
        clear hd
        go_simp
        exact hK _ _ ⟨undef, by simp [upd, e6], rtell_at.2 (three_set hc _ _ _), lek_at (grown_set3 _ _ _ _ _), hC.tell (grown_set3 _ _ _ _ _) (by omega) (by omega) (by omega)⟩
    · intro L u W k hk hC hd
      have hc := rtell_at.1 (hd 7 (by decide))
      obtain ⟨z0, z1, z2, _⟩ := three_facts hc
      have HB := Lib.hid hC.bel
      clear hC hd hc
      refine wpOp_step rfl (fun K hK => ?_)
      go_simp
      refine hK _ _ ?_
      clear hK K
      go_wp2_with fail
      refine bodyPost_ret (v := .tuple #[.agg #[.int .i64 r, .string target, .int .i64 (M : Int)], .bool true]) (by simp [results, Tryz.results23, go_sem, z0, z1, z2]) rfl ?_
      exact ⟨rfl, HB.out⟩
end Go.Proofs.YtiepobifbkleaaaGreatDoor
