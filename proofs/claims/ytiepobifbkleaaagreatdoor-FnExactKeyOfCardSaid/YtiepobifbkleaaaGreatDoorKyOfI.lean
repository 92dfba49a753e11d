/- Walks: the key of a request, by the program. -/
import Derived.Test.YtiepobifbkleaaaGreatDoorGKy
import Derived.Test.YtiepobifbkleaaaGreatDoorKyV
import Derived.Test.YtiepobifbkleaaaGreatDoorKyQ2
namespace Go.Proofs.YtiepobifbkleaaaGreatDoor
open Go.RowKit Go.Maps

set_option maxRecDepth 100000 in
set_option maxHeartbeats 3200000 in
theorem impl_keyof (hs : List Hs) (v : Value) (h : Hd) (u : Value) (w : World) (hH : HRow w v hs) (hN : HOks hs 1048576) (hF : FRow w u h.fs) (hz : HdSz h) (hE : Env w) :
    Calls Tryz.prog 22 #[.agg #[v], headV h u] w fun e w' => e = .returned (.tuple #[keyV (keyOf hs h).1, .bool (keyOf hs h).2]) ∧ Below w.heap.size w w' := by
  obtain ⟨hz3, hb3, hA0, hA1, hA2⟩ := box3_new w (.cells #[v] 25) (.cells #[.string h.verb, .string h.target, .string h.host, u, .string h.body] 40) (.cells #[.int .i64 0, .string ⟨#[]⟩, .int .i64 0] 27)
  obtain ⟨W3, hW3⟩ : ∃ W3, W3 = ((w.alloc (.cells #[v] 25)).alloc (.cells #[.string h.verb, .string h.target, .string h.host, u, .string h.body] 40)).alloc (.cells #[.int .i64 0, .string ⟨#[]⟩, .int .i64 0] 27) := ⟨_, rfl⟩
  rw [← hW3] at hz3 hb3 hA0 hA1 hA2
  have HX : Hid (∀ W, Below W3.heap.size W3 W → Below w.heap.size w W ∧ W.heap[w.heap.size]? = some (.cells #[v] 25 (0, 0)) ∧ W.heap[w.heap.size + 1]? = some (.cells #[.string h.verb, .string h.target, .string h.host, u, .string h.body] 40 (0, 0)) ∧ W.heap[w.heap.size + 2]? = some (.cells #[.int .i64 0, .string ⟨#[]⟩, .int .i64 0] 27 (0, 0))) := Lib.hid fun W hW =>
    ⟨hb3.trans (hW.mono (by omega)), (hW.block _ (by omega)).trans hA0, (hW.block _ (by omega)).trans hA1, (hW.block _ (by omega)).trans hA2⟩
  have HM : Hid (∀ W, Below w.heap.size w W → Calls Tryz.prog 25 #[u] W fun e w' => e = .returned (.int .i64 (codOfF h.fs : Int)) ∧ Below W.heap.size W w') := Lib.hid fun W hW => impl_codof u h.fs W (hF.below (Nat.le_refl _) hW) hz.fs hz.len (hE.below hW (Nat.le_refl _)).2.2.1 (hE.below hW (Nat.le_refl _)).1 (hE.below hW (Nat.le_refl _)).2.2.2
  have HF : Hid (∀ W, Calls Tryz.prog 68 #[.string h.target] W fun e w' => e = .returned (.string h.target) ∧ Below W.heap.size W w') := Lib.hid fun W => fresh h.target W (by have := hz.target; omega)
  have hR := impl_routed hs v h u ⟨#[103, 101, 116]⟩ W3 (hH.below (Nat.le_refl _) hb3) hN (hF.below (Nat.le_refl _) hb3) hz (hE.below hb3 (Nat.le_refl _)).1 (hE.below hb3 (Nat.le_refl _)).2.1
  have hdef : keyOf hs h = if askB hs h bGet = true then (⟨routeI hs h.host, h.target, codOfF h.fs⟩, true) else (noKy, false) := rfl
  have hr1 : askR hs h bGet = if askB hs h bGet = true then routeI hs h.host else 0 := rfl
  have hb : (⟨#[103, 101, 116]⟩ : ByteArray).data.toList = bGet := rfl
  rw [hb] at hR
  rw [hdef]
  obtain ⟨t0, _⟩ := one_fact hA0
  obtain ⟨t1, t2, t3, t4, t5, _⟩ := five_facts hA1
  obtain ⟨va, vc, rfl, _⟩ := hH
  obtain ⟨ua, uc, rfl, _⟩ := hF
  obtain ⟨hverb, target, host, fs, body⟩ := h
  unfold headV at hR ⊢
  dsimp only at *
  generalize askR hs ⟨hverb, target, host, fs, body⟩ bGet = r at *
  generalize codOfF fs = M at *
  rw [hW3] at t0 t1 t2 t3 t4 t5
  have HW := Lib.hid hW3
  clear hW3 hb3 hA0 hA1 hA2 hdef hN hE hz hb
  cases hA : askB hs ⟨hverb, target, host, fs, body⟩ bGet with
  | false =>
    rw [hA] at hR hr1
    rw [if_neg (by decide)]
    rw [if_neg (by decide)] at hr1
    subst hr1
    clear hA
    go_enter Tryz.func22, Tryz.ntmps22
    go_wp2_with fail
    rw [← HW.out]
    refine hR.mono ?_
    rintro e w1 ⟨rfl, hb1⟩
    obtain ⟨k1, _, _, k4⟩ := HX.out _ hb1
    have hz1 := hb1.size
    have z := three_set k4 (.int .i64 0) (.string ⟨#[]⟩) (.int .i64 0)
    have HB : Hid (Below w.heap.size w (set3k w1 (w.heap.size + 2) (.int .i64 0) (.string ⟨#[]⟩) (.int .i64 0))) := Lib.hid (k1.grown (grown_set3 _ _ _ _ _) k1.size (fun k hk => by cases hk; omega))
    unfold set3k at z HB
    obtain ⟨z0, z1, z2, _⟩ := three_facts z
    obtain ⟨_, _, _, f0, f1, f2⟩ := three_facts k4
    have HZ := Lib.hid (And.intro z0 (And.intro z1 z2))
    clear hR hb1 t0 t1 t2 t3 t4 t5 k1 k4 z z0 z1 z2
    go_wp2_with fail
    obtain ⟨z0, z1, z2⟩ := HZ.out
    refine bodyPost_ret (v := .tuple #[.agg #[.int .i64 0, .string ⟨#[]⟩, .int .i64 0], .bool false]) (by simp [results, Tryz.results22, go_sem, z0, z1, z2]) rfl ?_
    exact ⟨rfl, HB.out⟩
  | true =>
    rw [hA] at hR hr1
    rw [if_pos rfl]
    rw [if_pos rfl] at hr1
    rw [← hr1]
    clear hA hr1
    go_enter Tryz.func22, Tryz.ntmps22
    go_wp2_with fail
    rw [← HW.out]
    refine hR.mono ?_
    rintro e w1 ⟨rfl, hb1⟩
    obtain ⟨k1, k2, k3, k4⟩ := HX.out _ hb1
    have hz1 := hb1.size
    have HC : Hid (CTell w (w.heap.size) (w.heap.size + 1) (.cells #[.slice va hs.length vc] 25 (0, 0)) (.cells #[.string hverb, .string target, .string host, .slice ua fs.length uc, .string body] 40 (0, 0)) (w.heap.size + 2) #[.int .i64 0, .string ⟨#[]⟩, .int .i64 0] 27 8 (fun _ => False) w1) := Lib.hid ⟨k1, k2, k3, fun _ => k4, by omega⟩
    clear hR hb1 t0 t1 t2 t3 t4 t5 k1 k2 k3 k4
    go_wp2_with fail
    refine wp_region_lastL (by kernel_rfl) 9 (by kernel_rfl) (by kernel_rfl) (by kernel_rfl)
      (fun u => { tmps := #[.agg #[.slice va hs.length vc], .agg #[.string hverb, .string target, .string host, .slice ua fs.length uc, .string body], .pointer (some ⟨w.heap.size, 0, none⟩), .pointer (some ⟨w.heap.size + 1, 0, none⟩), .pointer (some ⟨w.heap.size + 2, 0, none⟩), .bool false, .int .i64 r, .bool true, .tuple #[.int .i64 r, .bool true], .agg #[.slice va hs.length vc], .agg #[.string hverb, .string target, .string host, .slice ua fs.length uc, .string body], .tuple #[.int .i64 r, .bool true], .int .i64 r, .bool true, .bool true, .bool false, undef, u 0, u 1, u 2, u 3, u 4, u 5, u 6, u 7], defers := [] })
      (fun L _ W => CTell w (w.heap.size) (w.heap.size + 1) (.cells #[.slice va hs.length vc] 25 (0, 0)) (.cells #[.string hverb, .string target, .string host, .slice ua fs.length uc, .string body] 40 (0, 0)) (w.heap.size + 2) #[.int .i64 0, .string ⟨#[]⟩, .int .i64 0] 27 8 L W)
      (RTell (w.heap.size + 2) #[.int .i64 r, .string target, .int .i64 (M : Int)] 27 8 [.int .i64 r, .pointer (some ⟨w.heap.size + 1, 1, none⟩), .string target, .string target, .pointer (some ⟨w.heap.size + 1, 3, none⟩), .slice ua fs.length uc, .int .i64 (M : Int), .agg #[.int .i64 r, .string target, .int .i64 (M : Int)], undef])
      (LeK 8 (some (w.heap.size + 2))) (fun _ => undef) HC.out.drew
      (fun i j v' w1 w2 _ _ hij hR hle => rtell_stay hij hR hle) ?_ ?_
    · intro i hi2 L u W k hk hL hC hd
      match i, hi2 with
      | 0, _ =>
        refine wpOp_step rfl (fun K hK => ?_)
        clear hd
        go_simp
        exact hK _ _ ⟨_, rfl, (rtell_eq (by decide)).2 rfl, lek_mk (by decide) (Below.refl _ _), hC.same⟩
      | 1, _ =>
        refine wpOp_step rfl (fun K hK => ?_)
        clear hd
        go_simp
        exact hK _ _ ⟨_, rfl, (rtell_eq (by decide)).2 rfl, lek_mk (by decide) (Below.refl _ _), hC.same⟩
      | 2, _ =>
        have e1 : u 1 = .pointer (some ⟨w.heap.size + 1, 1, none⟩) := (rtell_eq (by decide)).1 (hd 1 (dep_of (by kernel_rfl)))
        obtain ⟨_, x1, _⟩ := five_facts hC.c1
        refine wpOp_step rfl (fun K hK => ?_)
        clear hd
        go_simp
        exact hK _ _ ⟨_, by simp [upd, e1], (rtell_eq (by decide)).2 rfl, lek_mk (by decide) (Below.refl _ _), hC.same⟩
      | 3, _ =>
        have e2 : u 2 = .string target := (rtell_eq (by decide)).1 (hd 2 (dep_of (by kernel_rfl)))
        refine wpOp_step rfl (fun K hK => ?_)
        clear hd
        go_simp
        refine (HF.out _).mono ?_
        rintro e w1 ⟨rfl, hb1⟩
        exact hK _ _ ⟨_, by simp [upd, e2], (rtell_eq (by decide)).2 rfl, lek_mk (by decide) hb1, hC.keep hb1⟩
      | 4, _ =>
        refine wpOp_step rfl (fun K hK => ?_)
        clear hd
        go_simp
        exact hK _ _ ⟨_, rfl, (rtell_eq (by decide)).2 rfl, lek_mk (by decide) (Below.refl _ _), hC.same⟩
      | 5, _ =>
        have e4 : u 4 = .pointer (some ⟨w.heap.size + 1, 3, none⟩) := (rtell_eq (by decide)).1 (hd 4 (dep_of (by kernel_rfl)))
        obtain ⟨_, _, _, x3, _⟩ := five_facts hC.c1
        refine wpOp_step rfl (fun K hK => ?_)
        clear hd
        go_simp
        exact hK _ _ ⟨_, by simp [upd, e4], (rtell_eq (by decide)).2 rfl, lek_mk (by decide) (Below.refl _ _), hC.same⟩
      | 6, _ =>
        have e5 : u 5 = .slice ua fs.length uc := (rtell_eq (by decide)).1 (hd 5 (dep_of (by kernel_rfl)))
        refine wpOp_step rfl (fun K hK => ?_)
        clear hd
        go_simp
        refine (HM.out _ hC.bel).mono ?_
        rintro e w1 ⟨rfl, hb1⟩
        exact hK _ _ ⟨_, by simp [upd, e5], (rtell_eq (by decide)).2 rfl, lek_mk (by decide) hb1, hC.keep hb1⟩
      | 7, _ =>
        have e0 : u 0 = .int .i64 r := (rtell_eq (by decide)).1 (hd 0 (dep_of (by kernel_rfl)))
        have e3 : u 3 = .string target := (rtell_eq (by decide)).1 (hd 3 (dep_of (by kernel_rfl)))
        have e6 : u 6 = .int .i64 (M : Int) := (rtell_eq (by decide)).1 (hd 6 (dep_of (by kernel_rfl)))
        refine wpOp_step rfl (fun K hK => ?_)
        clear hd
        go_simp
        exact hK _ _ ⟨_, by simp [upd, e0, e3, e6], (rtell_eq (by decide)).2 rfl, lek_mk (by decide) (Below.refl _ _), hC.same⟩
      | 8, _ =>
        have e7 : u 7 = .agg #[.int .i64 r, .string target, .int .i64 (M : Int)] := (rtell_eq (by decide)).1 (hd 7 (dep_of (by kernel_rfl)))
        have hc := hC.cell hL
        obtain ⟨_, _, _, f0, f1, f2⟩ := three_facts hc
        refine wpOp_step rfl (fun K hK => ?_)
        clear hd
        go_simp
        exact hK _ _ ⟨undef, by simp [upd, e7], rtell_at.2 (three_set hc _ _ _), lek_at (grown_set3 _ _ _ _ _), hC.tell (grown_set3 _ _ _ _ _) (by omega) (by omega) (by omega)⟩
    · intro L u W k hk hC hd
      have hc := rtell_at.1 (hd 8 (by decide))
      obtain ⟨z0, z1, z2, _⟩ := three_facts hc
      have HB := Lib.hid hC.bel
      clear hC hd hc
      refine wpOp_step rfl (fun K hK => ?_)
      go_simp
      refine hK _ _ ?_
      clear hK K
      go_wp2_with fail
      refine bodyPost_ret (v := .tuple #[.agg #[.int .i64 r, .string target, .int .i64 (M : Int)], .bool true]) (by simp [results, Tryz.results22, go_sem, z0, z1, z2]) rfl ?_
      exact ⟨rfl, HB.out⟩
end Go.Proofs.YtiepobifbkleaaaGreatDoor
