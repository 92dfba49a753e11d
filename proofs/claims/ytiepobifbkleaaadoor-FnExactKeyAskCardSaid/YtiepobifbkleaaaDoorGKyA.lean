import Derived.Test.YtiepobifbkleaaaDoorKyA0
import Derived.Test.YtiepobifbkleaaaDoorGCs
import Derived.Test.YtiepobifbkleaaaDoorKyS1
-- from XKyAI
/- Walks: the request that goes on for a key, by the program. -/
namespace Go.Proofs.YtiepobifbkleaaaDoor
open Go.RowKit Go.Maps

/-- What stands while the request is told. -/
structure CAsk (w0 : World) (res B0 : Nat) (v ov : Value) (opts : List FOpt) (kc : Array Value) (W : World) : Prop where
  bel : Below w0.heap.size w0 W
  cfg : W.heap[w0.heap.size]? = some (.cells #[v] 32 (0, 0))
  key : W.heap[w0.heap.size + 1]? = some (.cells kc 34 (0, 0))
  cell : W.heap[res]? = some (.cells #[.string ⟨#[]⟩, .string ⟨#[]⟩, .string ⟨#[]⟩, .slice none 0 0, .string ⟨#[]⟩] 42 (0, 0))
  opt : ORow W ov opts
  size : B0 ≤ W.heap.size
theorem CAsk.keep {w0 W W' : World} {res B0 : Nat} {v ov : Value} {opts : List FOpt} {kc : Array Value} (h : CAsk w0 res B0 v ov opts kc W) (hb : Below W.heap.size W W') : CAsk w0 res B0 v ov opts kc W' :=
  ⟨h.bel.trans (hb.mono h.bel.size), heap_keep hb (Nat.le_refl _) _ _ h.cfg, heap_keep hb (Nat.le_refl _) _ _ h.key, heap_keep hb (Nat.le_refl _) _ _ h.cell, h.opt.below hb (Nat.le_refl _), Nat.le_trans h.size hb.size⟩
theorem CAsk.drew {w0 W : World} {res B0 : Nat} {v ov : Value} {opts : List FOpt} {kc : Array Value} (h : CAsk w0 res B0 v ov opts kc W) : CAsk w0 res B0 v ov opts kc W.drew :=
  ⟨h.bel.drew, h.cfg, h.key, h.cell, h.opt, h.size⟩
def RAsk (B0 : Nat) (q : Hd) (E : List Value) (i : Nat) (v : Value) (W : World) : Prop :=
  match i with
  | 9 => ∃ vr, v = headV q vr ∧ W.ownsRow B0 63 2 vr q.fs.length (fcells q.fs)
  | i => v = E.getD i undef
theorem rask_stay {B0 : Nat} {q : Hd} {E : List Value} {i : Nat} {v : Value} {W W' : World} (h : RAsk B0 q E i v W) (hb : Below W.heap.size W W') : RAsk B0 q E i v W' := by
  by_cases h9 : i = 9
  · subst h9
    obtain ⟨vr, h1, h2⟩ := h
    exact ⟨vr, h1, own_below h2 hb⟩
  · have e : ∀ W, RAsk B0 q E i v W = (v = E.getD i undef) := fun W => by
      unfold RAsk
      split
      · exact absurd rfl h9
      · rfl
    rw [e] at h ⊢
    exact h

set_option maxRecDepth 100000 in
set_option maxHeartbeats 6400000 in
theorem impl_keyask (hs : List Hs) (v : Value) (k : Ky) (tag : ByteArray) (w : World) (hH : HRow w v hs) (hN : HOks hs 1048576) (hk : k.place.size ≤ 1048576) (ht : tag.size ≤ 1048576) (hcls : Cls w) (hcds : Cds w) :
    Calls Tryd.prog 16 #[.agg #[v], keyV k, .string tag] w fun e w' => HRet w.heap.size (keyAsk hs k tag) e w' ∧ Below w.heap.size w w' := by
  obtain ⟨hz3, hb3, hA0, hA1, hA2⟩ := box3_new w (.cells #[v] 32) (.cells #[.int .i64 k.house, .string k.place, .int .i64 k.mask] 34) (.cells #[.string ⟨#[]⟩, .string ⟨#[]⟩, .string ⟨#[]⟩, .slice none 0 0, .string ⟨#[]⟩] 42)
  obtain ⟨W3, hW3⟩ : ∃ W3, W3 = ((w.alloc (.cells #[v] 32)).alloc (.cells #[.int .i64 k.house, .string k.place, .int .i64 k.mask] 34)).alloc (.cells #[.string ⟨#[]⟩, .string ⟨#[]⟩, .string ⟨#[]⟩, .slice none 0 0, .string ⟨#[]⟩] 42) := ⟨_, rfl⟩
  rw [← hW3] at hz3 hb3 hA0 hA1 hA2
  have hK := impl_keyok hs v k W3 (hH.below (Nat.le_refl _) hb3) hN hk (hcls.below hb3 (Nat.le_refl _))
  have HT : Hid (∀ W, Below w.heap.size w W → Calls Tryd.prog 34 #[.string tag] W fun e w' => e = .returned (.bool (tagB tag.data.toList)) ∧ W = w') := Lib.hid fun W hW => impl_tagok tag W (by unfold maxLen; omega) (hcls.below hW (Nat.le_refl _))
  have HC : Hid (∀ W, Below w.heap.size w W → Calls Tryd.prog 36 #[.int .i64 k.mask] W fun e w' => e = .returned (strV (codT k.mask)) ∧ W = w') := Lib.hid fun W hW => impl_codtext k.mask W (hcds.below hW (Nat.le_refl _))
  have HX : Hid (∀ W, Below W3.heap.size W3 W → Below w.heap.size w W ∧ W.heap[w.heap.size]? = some (.cells #[v] 32 (0, 0)) ∧ W.heap[w.heap.size + 1]? = some (.cells #[.int .i64 k.house, .string k.place, .int .i64 k.mask] 34 (0, 0)) ∧ W.heap[w.heap.size + 2]? = some (.cells #[.string ⟨#[]⟩, .string ⟨#[]⟩, .string ⟨#[]⟩, .slice none 0 0, .string ⟨#[]⟩] 42 (0, 0)) ∧ HRow W v hs) := Lib.hid fun W hW => by
    have hb := hb3.trans (hW.mono (by omega))
    exact ⟨hb, (hW.block _ (by omega)).trans hA0, (hW.block _ (by omega)).trans hA1, (hW.block _ (by omega)).trans hA2, hH.below (Nat.le_refl _) hb⟩
  have hfst : keyB hs k = true → (0 ≤ k.house ∧ k.house < hs.length) ∧ ∃ x, hs[k.house.toNat]? = some x ∧ x.names[0]? = some (name0 hs k.house) ∧ (name0 hs k.house).size ≤ 1048576 := fun e => by
    obtain ⟨a1, a2, _⟩ := keyB_iff.1 e
    obtain ⟨x, b1, b2, b3, _⟩ := name0_at a1 a2.1 a2.2
    exact ⟨a2, x, b1, b2, hN x (List.mem_of_getElem? b1) _ b3⟩
  have hno : ¬ (keyB hs k = true ∧ tagB tag.data.toList = true) → keyAsk hs k tag = noHd := fun e => if_neg e
  have hyes : keyB hs k = true → tagB tag.data.toList = true → keyAsk hs k tag = ⟨sGet, k.place, name0 hs k.house, askFs k tag, ⟨#[]⟩⟩ := fun a b => if_pos ⟨a, b⟩
  have hall1 := fun h => optAll_ask sGet k.place (name0 hs k.house) k tag h
  have hall2 := fun h => optAll_ask2 sGet k.place (name0 hs k.house) k tag h
  have hcl : (ByteArray.mk (codT k.mask).toArray).size ≤ 281474976710656 := by
    rw [size_len]
    by_cases hm : 0 ≤ k.mask ∧ k.mask < 8
    · obtain ⟨p, hp⟩ := mask_fin hm
      have := (ky_val p).2
      rw [hp]; show (codT _).length ≤ _; omega
    · rw [codT_out hm]; decide
  generalize askFs k tag = FS at *
  generalize name0 hs k.house = nm at *
  obtain ⟨va, vc, hv, hv1, hv2, hv3⟩ := hH
  subst hv
  unfold maxLen at hv2
  obtain ⟨house, place, mask⟩ := k
  unfold keyV at hK ⊢
  dsimp only at *
  unfold strV at HC
  generalize (ByteArray.mk (codT mask).toArray) = ct at *
  generalize keyAsk hs ⟨house, place, mask⟩ tag = Q at *
  obtain ⟨t0, _⟩ := one_fact hA0
  obtain ⟨t1, t2, t3, _⟩ := three_facts hA1
  rw [hW3] at t0 t1 t2 t3
  have HW := Lib.hid hW3
  have HNo := Lib.hid hno; have HYes := Lib.hid hyes; have HFst := Lib.hid hfst; have HA1' := Lib.hid hall1; have HA2' := Lib.hid hall2
  clear hW3 hb3 hA0 hA1 hA2 hN hcls hcds hno hyes hfst hall1 hall2
  generalize keyB hs ⟨house, place, mask⟩ = R1 at *
  generalize tagB tag.data.toList = R2 at *
  cases R1
  · obtain rfl := HNo.out (fun e => by cases e.1)
    unfold noHd
    go_enter Tryd.func16, Tryd.ntmps16
    go_wp2_with fail
    rw [← HW.out]
    refine hK.mono ?_
    rintro e w1 ⟨rfl, hb1⟩
    have HB1 := Lib.hid hb1
    obtain ⟨k1, k2, k3, k4, _⟩ := HX.out _ hb1
    have hz1 := hb1.size
    clear hK hb1 t0 t1 t2 t3
    have z := five_set k4 (.string ⟨#[]⟩) (.string ⟨#[]⟩) (.string ⟨#[]⟩) (.slice none 0 0) (.string ⟨#[]⟩)
    have HB : Hid (Below w.heap.size w (set5 w1 (w.heap.size + 2) (.string ⟨#[]⟩) (.string ⟨#[]⟩) (.string ⟨#[]⟩) (.slice none 0 0) (.string ⟨#[]⟩))) := Lib.hid (k1.grown (grown_set5 _ _ _ _ _ _ _) k1.size (fun k hk => by cases hk; omega))
    unfold set5 at z HB
    obtain ⟨z0, z1, z2, z3, z4, _⟩ := five_facts z
    obtain ⟨_, _, _, _, _, f0, f1, f2, f3, f4⟩ := five_facts k4
    have HZ := Lib.hid (And.intro z0 (And.intro z1 (And.intro z2 (And.intro z3 z4))))
    clear k1 k2 k3 k4 z z0 z1 z2 z3 z4
    go_wp2_with fail
    obtain ⟨z0, z1, z2, z3, z4⟩ := HZ.out
    refine bodyPost_ret (v := .agg #[.string ⟨#[]⟩, .string ⟨#[]⟩, .string ⟨#[]⟩, .slice none 0 0, .string ⟨#[]⟩]) (by simp [results, Tryd.results16, go_sem, z0, z1, z2, z3, z4]) rfl ?_
    exact ⟨⟨_, rfl, World.ownsRow_nil _ _ _ _⟩, HB.out⟩
  cases R2
  · obtain rfl := HNo.out (fun e => by cases e.2)
    unfold noHd
    go_enter Tryd.func16, Tryd.ntmps16
    go_wp2_with fail
    rw [← HW.out]
    refine hK.mono ?_
    rintro e w1 ⟨rfl, hb1⟩
    have HB1 := Lib.hid hb1
    obtain ⟨k1, k2, k3, k4, _⟩ := HX.out _ hb1
    have hz1 := hb1.size
    clear hK hb1 t0 t1 t2 t3
    go_wp2_with fail
    refine (HT.out _ k1).mono ?_
    rintro e w2 ⟨rfl, rfl⟩
    have z := five_set k4 (.string ⟨#[]⟩) (.string ⟨#[]⟩) (.string ⟨#[]⟩) (.slice none 0 0) (.string ⟨#[]⟩)
    have HB : Hid (Below w.heap.size w (set5 w1 (w.heap.size + 2) (.string ⟨#[]⟩) (.string ⟨#[]⟩) (.string ⟨#[]⟩) (.slice none 0 0) (.string ⟨#[]⟩))) := Lib.hid (k1.grown (grown_set5 _ _ _ _ _ _ _) k1.size (fun k hk => by cases hk; omega))
    unfold set5 at z HB
    obtain ⟨z0, z1, z2, z3, z4, _⟩ := five_facts z
    obtain ⟨_, _, _, _, _, f0, f1, f2, f3, f4⟩ := five_facts k4
    have HZ := Lib.hid (And.intro z0 (And.intro z1 (And.intro z2 (And.intro z3 z4))))
    clear k1 k2 k3 k4 z z0 z1 z2 z3 z4
    go_wp2_with fail
    obtain ⟨z0, z1, z2, z3, z4⟩ := HZ.out
    refine bodyPost_ret (v := .agg #[.string ⟨#[]⟩, .string ⟨#[]⟩, .string ⟨#[]⟩, .slice none 0 0, .string ⟨#[]⟩]) (by simp [results, Tryd.results16, go_sem, z0, z1, z2, z3, z4]) rfl ?_
    exact ⟨⟨_, rfl, World.ownsRow_nil _ _ _ _⟩, HB.out⟩
  obtain rfl := HYes.out (by first | rfl | trivial) (by first | rfl | trivial)
  obtain ⟨⟨h0, h1⟩, x, hx, hx0, hnm⟩ := HFst.out (by first | rfl | trivial)
  obtain ⟨j, rfl⟩ := Int.eq_ofNat_of_zero_le h0
  rw [Int.toNat_natCast] at hx
  obtain ⟨hb, ho, hu, hva, hblt, d0, dS, d1, d2, d3⟩ := hv3 j x hx
  subst hva
  have HCell : Hid (∀ W, Below w.heap.size w W → W.cell? ⟨hb, ho + j * 4, none⟩ = some hu ∧ W.cell? ⟨hb, ho + j * 4 + 1, none⟩ = some (.int .i64 x.key) ∧ W.cell? ⟨hb, ho + j * 4 + 2, none⟩ = some (.int .i64 x.maxN) ∧ W.cell? ⟨hb, ho + j * 4 + 3, none⟩ = some (.int .i64 x.maxB) ∧ NRow W hu x.names) := Lib.hid fun W hW =>
    ⟨(hW.cell (p := ⟨hb, ho + j * 4, none⟩) hblt).trans d0, (hW.cell (p := ⟨hb, ho + j * 4 + 1, none⟩) hblt).trans d1, (hW.cell (p := ⟨hb, ho + j * 4 + 2, none⟩) hblt).trans d2, (hW.cell (p := ⟨hb, ho + j * 4 + 3, none⟩) hblt).trans d3, dS.below (Nat.le_refl _) hW⟩
  have HFs := Lib.hid hx0
  clear hx hx0 hv3 d0 d1 d2 d3 dS
  by_cases htg : tag.data.toList = []
  · have hall := HA1'.out htg
    obtain rfl := str_nil htg
    have HFw : Hid (∀ ov W, CAsk w (w.heap.size + 2) (w.heap.size + 3) (.slice (some ⟨hb, ho, none⟩) hs.length vc) ov [.field bAcc ct] #[.int .i64 (j : Int), .string place, .int .i64 mask] W → Calls Tryd.prog 37 #[.agg #[hu, .int .i64 x.key, .int .i64 x.maxN, .int .i64 x.maxB], .string ⟨#[103, 101, 116]⟩, .string place, ov] W fun e w' => HRet W.heap.size ⟨sGet, place, nm, FS, ⟨#[]⟩⟩ e w' ∧ Below W.heap.size W w') := Lib.hid fun ov W hW => by
      have := impl_forwarded hu x.key x.maxN x.maxB x.names nm sGet place ov _ W (HCell.out _ hW.bel).2.2.2.2 HFs.out hW.opt (by simp) (by omega) (by omega)
      rw [hall] at this
      exact this
    clear htg hall
    go_enter Tryd.func16, Tryd.ntmps16
    go_wp2_with fail
    rw [← HW.out]
    refine hK.mono ?_
    rintro e w1 ⟨rfl, hb1⟩
    have HB1 := Lib.hid hb1
    obtain ⟨k1, k2, k3, k4, _⟩ := HX.out _ hb1
    have hz1 := hb1.size
    clear hK hb1 t0 t1 t2 t3
    go_wp2_with fail
    refine (HT.out _ k1).mono ?_
    rintro e w2 ⟨rfl, rfl⟩
    obtain ⟨t1, t2, t3, _⟩ := three_facts k3
    go_wp2_with fail
    refine (HC.out _ k1).mono ?_
    rintro e w2 ⟨rfl, rfl⟩
    go_wp2_with fail
    refine (with_field _ _ _).mono ?_
    rintro e w2 ⟨rfl, hw2⟩
    obtain ⟨q1, q2, q3, q4, q5⟩ := box3_new w1 (.cells #[.string ⟨#[97, 99, 99, 101, 112, 116]⟩] 9) (.cells #[.string ct] 9) (.cells #[.func (.func 58) #[] #[.pointer (some ⟨w1.heap.size, 0, none⟩), .pointer (some ⟨w1.heap.size + 1, 0, none⟩)]] 65)
    obtain ⟨W4, hW4⟩ : ∃ W4, W4 = ((w1.alloc (.cells #[.string ⟨#[97, 99, 99, 101, 112, 116]⟩] 9)).alloc (.cells #[.string ct] 9)).alloc (.cells #[.func (.func 58) #[] #[.pointer (some ⟨w1.heap.size, 0, none⟩), .pointer (some ⟨w1.heap.size + 1, 0, none⟩)]] 65) := ⟨_, rfl⟩
    rw [← hW4] at q1 q2 q3 q4 q5
    have hop : optAt W4 (.func (.func 58) #[] #[.pointer (some ⟨w1.heap.size, 0, none⟩), .pointer (some ⟨w1.heap.size + 1, 0, none⟩)]) (.field bAcc ct) := ⟨_, _, rfl, q3, q4, hcl⟩
    have hca : CAsk w (w.heap.size + 2) (w.heap.size + 3) (.slice (some ⟨hb, ho, none⟩) hs.length vc) (.slice (some ⟨w1.heap.size + 2, 0, none⟩) 1 1) [.field bAcc ct] #[.int .i64 (j : Int), .string place, .int .i64 mask] W4 :=
      ⟨k1.trans (q2.mono k1.size), heap_keep q2 (Nat.le_refl _) _ _ k2, heap_keep q2 (Nat.le_refl _) _ _ k3, heap_keep q2 (Nat.le_refl _) _ _ k4, orow_one q5 hop, by omega⟩
    have HCA := Lib.hid hca; have HW4 := Lib.hid hW4
    clear hca hW4 q1 q2 q3 q4 q5 hop k1 k2 k3 k4 t1 t2 t3
    go_wp2_with fail
    rw [← HW4.out]
    refine wp_region_last (by kernel_rfl) 10 (by kernel_rfl) (by kernel_rfl) (by kernel_rfl)
      (fun z => { tmps := #[.agg #[.slice (some ⟨hb, ho, none⟩) hs.length vc], .agg #[.int .i64 (j : Int), .string place, .int .i64 mask], .string ⟨#[]⟩, .pointer (some ⟨w.heap.size, 0, none⟩), .pointer (some ⟨w.heap.size + 1, 0, none⟩), undef, .pointer (some ⟨w.heap.size + 2, 0, none⟩), .slice (some ⟨w1.heap.size + 2, 0, none⟩) 1 1, .agg #[.slice (some ⟨hb, ho, none⟩) hs.length vc], .agg #[.int .i64 (j : Int), .string place, .int .i64 mask], .bool true, .bool false, .bool false, .string ⟨#[]⟩, .bool true, .bool false, .bool false, undef, .pointer (some ⟨w.heap.size + 1, 2, none⟩), .int .i64 mask, .string ct, .func (.func 58) #[] #[.pointer (some ⟨w1.heap.size, 0, none⟩), .pointer (some ⟨w1.heap.size + 1, 0, none⟩)], .slice (some ⟨w1.heap.size + 2, 0, none⟩) 1 1, .string ⟨#[]⟩, .bool false, undef, undef, undef, undef, undef, z 0, z 1, z 2, z 3, z 4, z 5, z 6, z 7, z 8, z 9], defers := [] })
      (fun _ W => CAsk w (w.heap.size + 2) (w.heap.size + 3) (.slice (some ⟨hb, ho, none⟩) hs.length vc) (.slice (some ⟨w1.heap.size + 2, 0, none⟩) 1 1) [.field bAcc ct] #[.int .i64 (j : Int), .string place, .int .i64 mask] W)
      (RAsk (w.heap.size + 3) ⟨sGet, place, nm, FS, ⟨#[]⟩⟩ [.pointer (some ⟨w.heap.size, 0, none⟩), .slice (some ⟨hb, ho, none⟩) hs.length vc, .pointer (some ⟨w.heap.size + 1, 0, none⟩), .int .i64 (j : Int), .pointer (some ⟨hb, ho + j * 4, none⟩), .agg #[hu, .int .i64 x.key, .int .i64 x.maxN, .int .i64 x.maxB], .pointer (some ⟨w.heap.size + 1, 1, none⟩), .string place, .slice (some ⟨w1.heap.size + 2, 0, none⟩) 1 1])
      (fun w1 w2 => Below w1.heap.size w1 w2) (fun _ => undef) HCA.out.drew
      (fun i v w1 w2 _ hR hle => rask_stay hR hle) ?_ ?_
    · intro i hi z W kk hkk hC hd
      match i, hi with
        | 0, _ =>
          refine wpOp_step rfl (fun K hK => ?_)
          clear hd
          go_simp
          exact hK _ _ ⟨_, rfl, rfl, Below.refl _ _, hC⟩
        | 1, _ =>
          have e0 : z 0 = .pointer (some ⟨w.heap.size, 0, none⟩) := hd 0 (dep_of (by kernel_rfl))
          obtain ⟨y0, _⟩ := one_fact hC.cfg
          refine wpOp_step rfl (fun K hK => ?_)
          clear hd
          go_simp
          exact hK _ _ ⟨_, by simp [upd, e0], rfl, Below.refl _ _, hC⟩
        | 2, _ =>
          refine wpOp_step rfl (fun K hK => ?_)
          clear hd
          go_simp
          exact hK _ _ ⟨_, rfl, rfl, Below.refl _ _, hC⟩
        | 3, _ =>
          have e2 : z 2 = .pointer (some ⟨w.heap.size + 1, 0, none⟩) := hd 2 (dep_of (by kernel_rfl))
          obtain ⟨y0, y1, y2, _⟩ := three_facts hC.key
          refine wpOp_step rfl (fun K hK => ?_)
          clear hd
          go_simp
          exact hK _ _ ⟨_, by simp [upd, e2], rfl, Below.refl _ _, hC⟩
        | 4, _ =>
          have e1 : z 1 = .slice (some ⟨hb, ho, none⟩) hs.length vc := hd 1 (dep_of (by kernel_rfl))
          have e3 : z 3 = .int .i64 (j : Int) := hd 3 (dep_of (by kernel_rfl))
          refine wpOp_step rfl (fun K hK => ?_)
          clear hd
          go_simp
          exact hK _ _ ⟨_, by simp [upd, e1, e3], rfl, Below.refl _ _, hC⟩
        | 5, _ =>
          have e4 : z 4 = .pointer (some ⟨hb, ho + j * 4, none⟩) := hd 4 (dep_of (by kernel_rfl))
          obtain ⟨y0, y1, y2, y3, _⟩ := HCell.out _ hC.bel
          refine wpOp_step rfl (fun K hK => ?_)
          clear hd
          go_simp
          exact hK _ _ ⟨_, by simp [upd, e4], rfl, Below.refl _ _, hC⟩
        | 6, _ =>
          refine wpOp_step rfl (fun K hK => ?_)
          clear hd
          go_simp
          exact hK _ _ ⟨_, rfl, rfl, Below.refl _ _, hC⟩
        | 7, _ =>
          have e6 : z 6 = .pointer (some ⟨w.heap.size + 1, 1, none⟩) := hd 6 (dep_of (by kernel_rfl))
          obtain ⟨y0, y1, y2, _⟩ := three_facts hC.key
          refine wpOp_step rfl (fun K hK => ?_)
          clear hd
          go_simp
          exact hK _ _ ⟨_, by simp [upd, e6], rfl, Below.refl _ _, hC⟩
        | 8, _ =>
          refine wpOp_step rfl (fun K hK => ?_)
          clear hd
          go_simp
          exact hK _ _ ⟨_, rfl, rfl, Below.refl _ _, hC⟩
        | 9, _ =>
          have e5 : z 5 = .agg #[hu, .int .i64 x.key, .int .i64 x.maxN, .int .i64 x.maxB] := hd 5 (dep_of (by kernel_rfl))
          have e7 : z 7 = .string place := hd 7 (dep_of (by kernel_rfl))
          have e8 : z 8 = .slice (some ⟨w1.heap.size + 2, 0, none⟩) 1 1 := hd 8 (dep_of (by kernel_rfl))
          have hfw := HFw.out _ _ hC
          have hsz := hC.size
          refine wpOp_step rfl (fun K hK => ?_)
          clear hd
          go_simp
          refine hfw.mono ?_
          rintro e w5 ⟨⟨vr, rfl, ho5⟩, hb5⟩
          exact hK _ _ ⟨_, by simp [upd, e5, e7, e8], ⟨vr, rfl, own_base ho5 hsz⟩, hb5, hC.keep hb5⟩
    · intro z W kk hkk hC hd
      obtain ⟨vr, e9, ho9⟩ := hd 9 (by decide)
      unfold headV at e9
      dsimp only at e9 ho9
      obtain ⟨a8, c8, hv8⟩ := own_len2 ho9
      subst hv8
      obtain ⟨y0, y1, y2, y3, y4, f0, f1, f2, f3, f4⟩ := five_facts hC.cell
      have hzz := five_set hC.cell (.string sGet) (.string place) (.string nm) (.slice a8 FS.length c8) (.string ⟨#[]⟩)
      have hbw : Below w.heap.size w (set5 W (w.heap.size + 2) (.string sGet) (.string place) (.string nm) (.slice a8 FS.length c8) (.string ⟨#[]⟩)) := hC.bel.grown (grown_set5 _ _ _ _ _ _ _) hC.bel.size (fun k hk => by cases hk; omega)
      have hown : (set5 W (w.heap.size + 2) (.string sGet) (.string place) (.string nm) (.slice a8 FS.length c8) (.string ⟨#[]⟩)).ownsRow w.heap.size 63 2 (.slice a8 FS.length c8) FS.length (fcells FS) := by
        have hlt1 : w.heap.size + 2 < w.heap.size + 3 := by omega
        exact own_base (own_setk (own_setk (own_setk (own_setk (own_setk ho9 hlt1 _) hlt1 _) hlt1 _) hlt1 _) hlt1 _) (by omega)
      unfold set5 sGet at hzz
      unfold set5 at hbw hown
      unfold sGet at e9 hbw hown
      obtain ⟨z0, z1, z2, z3, z4, _⟩ := five_facts hzz
      have HZ := Lib.hid (And.intro z0 (And.intro z1 (And.intro z2 (And.intro z3 (And.intro z4 (And.intro hown hbw))))))
      clear hzz z0 z1 z2 z3 z4 hown hbw hC hd ho9
      refine wpOp_step rfl (fun K hK => ?_)
      go_simp
      refine hK _ _ ?_
      clear hK K y0 y1 y2 y3 y4 f0 f1 f2 f3 f4 e9
      go_wp2_with fail
      obtain ⟨z0, z1, z2, z3, z4, hown, hbw⟩ := HZ.out
      refine bodyPost_ret (v := .agg #[.string ⟨#[103, 101, 116]⟩, .string place, .string nm, .slice a8 FS.length c8, .string ⟨#[]⟩]) (by simp [results, Tryd.results16, go_sem, z0, z1, z2, z3, z4]) rfl ?_
      exact ⟨⟨_, rfl, hown⟩, hbw⟩
  · have hall := HA2'.out htg
    have HFw : Hid (∀ ov W, CAsk w (w.heap.size + 2) (w.heap.size + 3) (.slice (some ⟨hb, ho, none⟩) hs.length vc) ov [.field bAcc ct, .field bIfNone tag] #[.int .i64 (j : Int), .string place, .int .i64 mask] W → Calls Tryd.prog 37 #[.agg #[hu, .int .i64 x.key, .int .i64 x.maxN, .int .i64 x.maxB], .string ⟨#[103, 101, 116]⟩, .string place, ov] W fun e w' => HRet W.heap.size ⟨sGet, place, nm, FS, ⟨#[]⟩⟩ e w' ∧ Below W.heap.size W w') := Lib.hid fun ov W hW => by
      have := impl_forwarded hu x.key x.maxN x.maxB x.names nm sGet place ov _ W (HCell.out _ hW.bel).2.2.2.2 HFs.out hW.opt (by simp) (by omega) (by omega)
      rw [hall] at this
      exact this
    have b0 : (tag.toList == ([] : List UInt8)) = false := by rw [Lib.toList_data]; exact beq_eq_false_iff_ne.2 htg
    have b1 : tag.toList.isEmpty = false := by rw [Lib.toList_data]; cases hh : tag.data.toList with
      | nil => exact absurd hh htg
      | cons _ _ => rfl
    obtain ⟨i0, hi, hy0, hy1, hy2⟩ := info_parts infoOpt
    clear htg hall
    go_enter Tryd.func16, Tryd.ntmps16
    go_wp2_with fail
    rw [← HW.out]
    refine hK.mono ?_
    rintro e w1 ⟨rfl, hb1⟩
    have HB1 := Lib.hid hb1
    obtain ⟨k1, k2, k3, k4, _⟩ := HX.out _ hb1
    have hz1 := hb1.size
    clear hK hb1 t0 t1 t2 t3
    go_wp2_with fail
    refine (HT.out _ k1).mono ?_
    rintro e w2 ⟨rfl, rfl⟩
    obtain ⟨t1, t2, t3, _⟩ := three_facts k3
    go_wp2_with fail
    refine (HC.out _ k1).mono ?_
    rintro e w2 ⟨rfl, rfl⟩
    go_wp2_with fail
    refine (with_field _ _ _).mono ?_
    rintro e w2 ⟨rfl, hw2⟩
    obtain ⟨q1, q2, q3, q4, q5⟩ := box3_new w1 (.cells #[.string ⟨#[97, 99, 99, 101, 112, 116]⟩] 9) (.cells #[.string ct] 9) (.cells #[.func (.func 58) #[] #[.pointer (some ⟨w1.heap.size, 0, none⟩), .pointer (some ⟨w1.heap.size + 1, 0, none⟩)]] 65)
    obtain ⟨W4, hW4⟩ : ∃ W4, W4 = ((w1.alloc (.cells #[.string ⟨#[97, 99, 99, 101, 112, 116]⟩] 9)).alloc (.cells #[.string ct] 9)).alloc (.cells #[.func (.func 58) #[] #[.pointer (some ⟨w1.heap.size, 0, none⟩), .pointer (some ⟨w1.heap.size + 1, 0, none⟩)]] 65) := ⟨_, rfl⟩
    rw [← hW4] at q1 q2 q3 q4 q5
    have hop : optAt W4 (.func (.func 58) #[] #[.pointer (some ⟨w1.heap.size, 0, none⟩), .pointer (some ⟨w1.heap.size + 1, 0, none⟩)]) (.field bAcc ct) := ⟨_, _, rfl, q3, q4, hcl⟩
    have hz4 := q1
    obtain ⟨p1, p2, p3, p4, p5⟩ := box3_new W4 (.cells #[.string ⟨#[105, 102, 45, 110, 111, 110, 101]⟩] 9) (.cells #[.string tag] 9) (.cells #[.func (.func 58) #[] #[.pointer (some ⟨W4.heap.size, 0, none⟩), .pointer (some ⟨W4.heap.size + 1, 0, none⟩)]] 65)
    have hrow6 : (((W4.alloc (.cells #[.string ⟨#[105, 102, 45, 110, 111, 110, 101]⟩] 9)).alloc (.cells #[.string tag] 9)).alloc (.cells #[.func (.func 58) #[] #[.pointer (some ⟨W4.heap.size, 0, none⟩), .pointer (some ⟨W4.heap.size + 1, 0, none⟩)]] 65)).ownsRow (w1.heap.size + 2) 65 1 (.slice (some ⟨w1.heap.size + 2, 0, none⟩) 1 1) 1 [.func (.func 58) #[] #[.pointer (some ⟨w1.heap.size, 0, none⟩), .pointer (some ⟨w1.heap.size + 1, 0, none⟩)]] := ⟨rfl, .inr ⟨w1.heap.size + 2, 1, _, rfl, Nat.le_refl _, heap_keep p2 (Nat.le_refl _) _ _ q5, Nat.le_refl _, by decide, rfl, rfl⟩⟩
    have hm1 := heap_keep p2 (Nat.le_refl _) _ _ q3
    have hm2 := heap_keep p2 (Nat.le_refl _) _ _ q4
    have hbel6 : Below w.heap.size w (((W4.alloc (.cells #[.string ⟨#[105, 102, 45, 110, 111, 110, 101]⟩] 9)).alloc (.cells #[.string tag] 9)).alloc (.cells #[.func (.func 58) #[] #[.pointer (some ⟨W4.heap.size, 0, none⟩), .pointer (some ⟨W4.heap.size + 1, 0, none⟩)]] 65)) := (k1.trans (q2.mono k1.size)).trans (p2.mono (by have := k1.size; omega))
    have hn2 := heap_keep p2 (Nat.le_refl _) _ _ (heap_keep q2 (Nat.le_refl _) _ _ k2)
    have hn3 := heap_keep p2 (Nat.le_refl _) _ _ (heap_keep q2 (Nat.le_refl _) _ _ k3)
    have hn4 := heap_keep p2 (Nat.le_refl _) _ _ (heap_keep q2 (Nat.le_refl _) _ _ k4)
    have HM : Hid (∀ w9 g3 cap, (((W4.alloc (.cells #[.string ⟨#[105, 102, 45, 110, 111, 110, 101]⟩] 9)).alloc (.cells #[.string tag] 9)).alloc (.cells #[.func (.func 58) #[] #[.pointer (some ⟨W4.heap.size, 0, none⟩), .pointer (some ⟨W4.heap.size + 1, 0, none⟩)]] 65)).grownBy w9 (some (w1.heap.size + 2)) → w9.ownsRow (w1.heap.size + 2) 65 1 (.slice (some ⟨g3, 0, none⟩) 2 cap) 2 [.func (.func 58) #[] #[.pointer (some ⟨w1.heap.size, 0, none⟩), .pointer (some ⟨w1.heap.size + 1, 0, none⟩)], .func (.func 58) #[] #[.pointer (some ⟨W4.heap.size, 0, none⟩), .pointer (some ⟨W4.heap.size + 1, 0, none⟩)]] → CAsk w (w.heap.size + 2) (w.heap.size + 3) (.slice (some ⟨hb, ho, none⟩) hs.length vc) (.slice (some ⟨g3, 0, none⟩) 2 cap) [.field bAcc ct, .field bIfNone tag] #[.int .i64 (j : Int), .string place, .int .i64 mask] w9) := Lib.hid fun w9 g3 cap hg9 ho9 => by
      have kp : ∀ (b : Nat) (o : Obj), b ≠ w1.heap.size + 2 → (((W4.alloc (.cells #[.string ⟨#[105, 102, 45, 110, 111, 110, 101]⟩] 9)).alloc (.cells #[.string tag] 9)).alloc (.cells #[.func (.func 58) #[] #[.pointer (some ⟨W4.heap.size, 0, none⟩), .pointer (some ⟨W4.heap.size + 1, 0, none⟩)]] 65)).heap[b]? = some o → w9.heap[b]? = some o := fun b o hb ho => (hg9.block b (Array.getElem?_eq_some_iff.1 ho).1 (fun e => hb (by cases e; rfl))).trans ho
      have hs9 := hg9.size
      exact ⟨hbel6.grown hg9 hbel6.size (fun k hk => by cases hk; have := k1.size; omega), kp _ _ (by have := k1.size; omega) hn2, kp _ _ (by have := k1.size; omega) hn3, kp _ _ (by have := k1.size; omega) hn4,
        orow_two ho9 ⟨_, _, rfl, kp _ _ (by omega) hm1, kp _ _ (by omega) hm2, hcl⟩ ⟨_, _, rfl, kp _ _ (by omega) p3, kp _ _ (by omega) p4, by omega⟩, by omega⟩
    have hk1s := k1.size
    have HP5 := Lib.hid p5; have HR6 := Lib.hid hrow6; have HW4 := Lib.hid hW4; have HQ1 := Lib.hid q1; have HP1 := Lib.hid p1
    clear hW4 q1 q2 q3 q4 q5 hop k1 k2 k3 k4 t1 t2 t3 p1 p2 p3 p4 p5 hrow6 hm1 hm2 hbel6 hn2 hn3 hn4 hz4
    go_wp2_with fail
    rw [← HW4.out]
    refine (with_field _ _ _).mono ?_
    rintro e w5 ⟨rfl, rfl⟩
    go_wp2_with (at_builtin; go_must (refine wpList_append_lies _ rfl _ _ 67 (by rfl) (w1.heap.size + 2) 65 i0 _ 1 8 Tryd.underlying67 hi hy0 hy1 hy2 (by rfl) (by decide) _ 1 [.func (.func 58) #[] #[.pointer (some ⟨w1.heap.size, 0, none⟩), .pointer (some ⟨w1.heap.size + 1, 0, none⟩)]] (by rfl) HR6.out ⟨W4.heap.size + 2, 0, none⟩ 1 1 [.func (.func 58) #[] #[.pointer (some ⟨W4.heap.size, 0, none⟩), .pointer (some ⟨W4.heap.size + 1, 0, none⟩)]] (by rfl) (by rfl) (World.news_of_block HP5.out) (by intro x hx; simp at hx; subst hx; rfl) (by omega) (by unfold maxLen; omega) (by omega) (by rw [HP1.out]; have := HQ1.out; omega) (W4.heap.size + 3) (by rw [HP1.out]) ?_); intro g3 cap w9 ho9 hg9 hat9 hlt9; have HCA := Lib.hid (HM.out w9 g3 cap hg9 ho9); clear hg9 ho9)
    refine wp_region_last (by kernel_rfl) 10 (by kernel_rfl) (by kernel_rfl) (by kernel_rfl)
      (fun z => { tmps := #[.agg #[.slice (some ⟨hb, ho, none⟩) hs.length vc], .agg #[.int .i64 (j : Int), .string place, .int .i64 mask], .string tag, .pointer (some ⟨w.heap.size, 0, none⟩), .pointer (some ⟨w.heap.size + 1, 0, none⟩), undef, .pointer (some ⟨w.heap.size + 2, 0, none⟩), .slice (some ⟨g3, 0, none⟩) 2 cap, .agg #[.slice (some ⟨hb, ho, none⟩) hs.length vc], .agg #[.int .i64 (j : Int), .string place, .int .i64 mask], .bool true, .bool false, .bool false, .string tag, .bool true, .bool false, .bool false, undef, .pointer (some ⟨w.heap.size + 1, 2, none⟩), .int .i64 mask, .string ct, .func (.func 58) #[] #[.pointer (some ⟨w1.heap.size, 0, none⟩), .pointer (some ⟨w1.heap.size + 1, 0, none⟩)], .slice (some ⟨w1.heap.size + 2, 0, none⟩) 1 1, .string tag, .bool true, .slice (some ⟨w1.heap.size + 2, 0, none⟩) 1 1, .string tag, .func (.func 58) #[] #[.pointer (some ⟨W4.heap.size, 0, none⟩), .pointer (some ⟨W4.heap.size + 1, 0, none⟩)], .slice (some ⟨W4.heap.size + 2, 0, none⟩) 1 1, .slice (some ⟨g3, 0, none⟩) 2 cap, z 0, z 1, z 2, z 3, z 4, z 5, z 6, z 7, z 8, z 9], defers := [] })
      (fun _ W => CAsk w (w.heap.size + 2) (w.heap.size + 3) (.slice (some ⟨hb, ho, none⟩) hs.length vc) (.slice (some ⟨g3, 0, none⟩) 2 cap) [.field bAcc ct, .field bIfNone tag] #[.int .i64 (j : Int), .string place, .int .i64 mask] W)
      (RAsk (w.heap.size + 3) ⟨sGet, place, nm, FS, ⟨#[]⟩⟩ [.pointer (some ⟨w.heap.size, 0, none⟩), .slice (some ⟨hb, ho, none⟩) hs.length vc, .pointer (some ⟨w.heap.size + 1, 0, none⟩), .int .i64 (j : Int), .pointer (some ⟨hb, ho + j * 4, none⟩), .agg #[hu, .int .i64 x.key, .int .i64 x.maxN, .int .i64 x.maxB], .pointer (some ⟨w.heap.size + 1, 1, none⟩), .string place, .slice (some ⟨g3, 0, none⟩) 2 cap])
      (fun w1 w2 => Below w1.heap.size w1 w2) (fun _ => undef) HCA.out.drew
      (fun i v w1 w2 _ hR hle => rask_stay hR hle) ?_ ?_
    · intro i hi z W kk hkk hC hd
      match i, hi with
        | 0, _ =>
          refine wpOp_step rfl (fun K hK => ?_)
          clear hd
          go_simp
          exact hK _ _ ⟨_, rfl, rfl, Below.refl _ _, hC⟩
        | 1, _ =>
          have e0 : z 0 = .pointer (some ⟨w.heap.size, 0, none⟩) := hd 0 (dep_of (by kernel_rfl))
          obtain ⟨y0, _⟩ := one_fact hC.cfg
          refine wpOp_step rfl (fun K hK => ?_)
          clear hd
          go_simp
          exact hK _ _ ⟨_, by simp [upd, e0], rfl, Below.refl _ _, hC⟩
        | 2, _ =>
          refine wpOp_step rfl (fun K hK => ?_)
          clear hd
          go_simp
          exact hK _ _ ⟨_, rfl, rfl, Below.refl _ _, hC⟩
        | 3, _ =>
          have e2 : z 2 = .pointer (some ⟨w.heap.size + 1, 0, none⟩) := hd 2 (dep_of (by kernel_rfl))
          obtain ⟨y0, y1, y2, _⟩ := three_facts hC.key
          refine wpOp_step rfl (fun K hK => ?_)
          clear hd
          go_simp
          exact hK _ _ ⟨_, by simp [upd, e2], rfl, Below.refl _ _, hC⟩
        | 4, _ =>
          have e1 : z 1 = .slice (some ⟨hb, ho, none⟩) hs.length vc := hd 1 (dep_of (by kernel_rfl))
          have e3 : z 3 = .int .i64 (j : Int) := hd 3 (dep_of (by kernel_rfl))
          refine wpOp_step rfl (fun K hK => ?_)
          clear hd
          go_simp
          exact hK _ _ ⟨_, by simp [upd, e1, e3], rfl, Below.refl _ _, hC⟩
        | 5, _ =>
          have e4 : z 4 = .pointer (some ⟨hb, ho + j * 4, none⟩) := hd 4 (dep_of (by kernel_rfl))
          obtain ⟨y0, y1, y2, y3, _⟩ := HCell.out _ hC.bel
          refine wpOp_step rfl (fun K hK => ?_)
          clear hd
          go_simp
          exact hK _ _ ⟨_, by simp [upd, e4], rfl, Below.refl _ _, hC⟩
        | 6, _ =>
          refine wpOp_step rfl (fun K hK => ?_)
          clear hd
          go_simp
          exact hK _ _ ⟨_, rfl, rfl, Below.refl _ _, hC⟩
        | 7, _ =>
          have e6 : z 6 = .pointer (some ⟨w.heap.size + 1, 1, none⟩) := hd 6 (dep_of (by kernel_rfl))
          obtain ⟨y0, y1, y2, _⟩ := three_facts hC.key
          refine wpOp_step rfl (fun K hK => ?_)
          clear hd
          go_simp
          exact hK _ _ ⟨_, by simp [upd, e6], rfl, Below.refl _ _, hC⟩
        | 8, _ =>
          refine wpOp_step rfl (fun K hK => ?_)
          clear hd
          go_simp
          exact hK _ _ ⟨_, rfl, rfl, Below.refl _ _, hC⟩
        | 9, _ =>
          have e5 : z 5 = .agg #[hu, .int .i64 x.key, .int .i64 x.maxN, .int .i64 x.maxB] := hd 5 (dep_of (by kernel_rfl))
          have e7 : z 7 = .string place := hd 7 (dep_of (by kernel_rfl))
          have e8 : z 8 = .slice (some ⟨g3, 0, none⟩) 2 cap := hd 8 (dep_of (by kernel_rfl))
          have hfw := HFw.out _ _ hC
          have hsz := hC.size
          refine wpOp_step rfl (fun K hK => ?_)
          clear hd
          go_simp
          refine hfw.mono ?_
          rintro e w5 ⟨⟨vr, rfl, ho5⟩, hb5⟩
          exact hK _ _ ⟨_, by simp [upd, e5, e7, e8], ⟨vr, rfl, own_base ho5 hsz⟩, hb5, hC.keep hb5⟩
    · intro z W kk hkk hC hd
      obtain ⟨vr, e9, ho9⟩ := hd 9 (by decide)
      unfold headV at e9
      dsimp only at e9 ho9
      obtain ⟨a8, c8, hv8⟩ := own_len2 ho9
      subst hv8
      obtain ⟨y0, y1, y2, y3, y4, f0, f1, f2, f3, f4⟩ := five_facts hC.cell
      have hzz := five_set hC.cell (.string sGet) (.string place) (.string nm) (.slice a8 FS.length c8) (.string ⟨#[]⟩)
      have hbw : Below w.heap.size w (set5 W (w.heap.size + 2) (.string sGet) (.string place) (.string nm) (.slice a8 FS.length c8) (.string ⟨#[]⟩)) := hC.bel.grown (grown_set5 _ _ _ _ _ _ _) hC.bel.size (fun k hk => by cases hk; omega)
      have hown : (set5 W (w.heap.size + 2) (.string sGet) (.string place) (.string nm) (.slice a8 FS.length c8) (.string ⟨#[]⟩)).ownsRow w.heap.size 63 2 (.slice a8 FS.length c8) FS.length (fcells FS) := by
        have hlt1 : w.heap.size + 2 < w.heap.size + 3 := by omega
        exact own_base (own_setk (own_setk (own_setk (own_setk (own_setk ho9 hlt1 _) hlt1 _) hlt1 _) hlt1 _) hlt1 _) (by omega)
      unfold set5 sGet at hzz
      unfold set5 at hbw hown
      unfold sGet at e9 hbw hown
      obtain ⟨z0, z1, z2, z3, z4, _⟩ := five_facts hzz
      have HZ := Lib.hid (And.intro z0 (And.intro z1 (And.intro z2 (And.intro z3 (And.intro z4 (And.intro hown hbw))))))
      clear hzz z0 z1 z2 z3 z4 hown hbw hC hd ho9
      refine wpOp_step rfl (fun K hK => ?_)
      go_simp
      refine hK _ _ ?_
      clear hK K y0 y1 y2 y3 y4 f0 f1 f2 f3 f4 e9
      go_wp2_with fail
      obtain ⟨z0, z1, z2, z3, z4, hown, hbw⟩ := HZ.out
      refine bodyPost_ret (v := .agg #[.string ⟨#[103, 101, 116]⟩, .string place, .string nm, .slice a8 FS.length c8, .string ⟨#[]⟩]) (by simp [results, Tryd.results16, go_sem, z0, z1, z2, z3, z4]) rfl ?_
      exact ⟨⟨_, rfl, hown⟩, hbw⟩
end Go.Proofs.YtiepobifbkleaaaDoor

-- from XKyAS
/- Walks: the request that goes on for a key, by the specification. -/
namespace Go.Proofs.YtiepobifbkleaaaDoor
open Go.RowKit Go.Maps

/-- What stands while the request is told. -/
structure CSk (w0 : World) (res B0 : Nat) (v : Value) (kc : Array Value) (W : World) : Prop where
  bel : Below w0.heap.size w0 W
  cfg : W.heap[w0.heap.size]? = some (.cells #[v] 32 (0, 0))
  key : W.heap[w0.heap.size + 1]? = some (.cells kc 34 (0, 0))
  cell : W.heap[res]? = some (.cells #[.string ⟨#[]⟩, .string ⟨#[]⟩, .string ⟨#[]⟩, .slice none 0 0, .string ⟨#[]⟩] 42 (0, 0))
  size : B0 ≤ W.heap.size
theorem CSk.keep {w0 W W' : World} {res B0 : Nat} {v : Value} {kc : Array Value} (h : CSk w0 res B0 v kc W) (hb : Below W.heap.size W W') : CSk w0 res B0 v kc W' :=
  ⟨h.bel.trans (hb.mono h.bel.size), heap_keep hb (Nat.le_refl _) _ _ h.cfg, heap_keep hb (Nat.le_refl _) _ _ h.key, heap_keep hb (Nat.le_refl _) _ _ h.cell, Nat.le_trans h.size hb.size⟩
theorem CSk.drew {w0 W : World} {res B0 : Nat} {v : Value} {kc : Array Value} (h : CSk w0 res B0 v kc W) : CSk w0 res B0 v kc W.drew :=
  ⟨h.bel.drew, h.cfg, h.key, h.cell, h.size⟩
def RSk (B0 : Nat) (place nm ct : ByteArray) (E : List Value) (i : Nat) (v : Value) (W : World) : Prop :=
  match i with
  | 15 => ∃ c, v = .slice (some ⟨c, 0, none⟩) 1 1 ∧ B0 ≤ c ∧ W.heap[c]? = some (.cells #[.string ⟨#[97, 99, 99, 101, 112, 116]⟩, .string ct] 63 (0, 0))
  | 16 => ∃ c, v = .agg #[.string ⟨#[103, 101, 116]⟩, .string place, .string nm, .slice (some ⟨c, 0, none⟩) 1 1, .string ⟨#[]⟩] ∧ B0 ≤ c ∧ W.heap[c]? = some (.cells #[.string ⟨#[97, 99, 99, 101, 112, 116]⟩, .string ct] 63 (0, 0))
  | 17 => ∃ b, v = .pointer (some ⟨b, 0, none⟩) ∧ B0 ≤ b ∧ W.heap[b]? = some (.cells #[.string ⟨#[]⟩, .string ⟨#[]⟩, .string ⟨#[]⟩, .slice none 0 0, .string ⟨#[]⟩] 42 (0, 0))
  | i => v = E.getD i undef
theorem rsk_stay {B0 : Nat} {place nm ct : ByteArray} {E : List Value} {i : Nat} {v : Value} {W W' : World} (h : RSk B0 place nm ct E i v W) (hb : Below W.heap.size W W') : RSk B0 place nm ct E i v W' := by
  by_cases h15 : i = 15
  · subst h15
    obtain ⟨c, h1, h2, h3⟩ := h
    exact ⟨c, h1, h2, heap_keep hb (Nat.le_refl _) _ _ h3⟩
  by_cases h16 : i = 16
  · subst h16
    obtain ⟨c, h1, h2, h3⟩ := h
    exact ⟨c, h1, h2, heap_keep hb (Nat.le_refl _) _ _ h3⟩
  by_cases h17 : i = 17
  · subst h17
    obtain ⟨c, h1, h2, h3⟩ := h
    exact ⟨c, h1, h2, heap_keep hb (Nat.le_refl _) _ _ h3⟩
  have e : ∀ W, RSk B0 place nm ct E i v W = (v = E.getD i undef) := fun W => by
    unfold RSk
    split
    · exact absurd rfl h15
    · exact absurd rfl h16
    · exact absurd rfl h17
    · rfl
  rw [e] at h ⊢
  exact h
theorem infoFdKs : (Tryd.prog.info? 63).map (fun i => (i.zero, i.size, i.bytes)) = some (some (.agg #[.string ⟨#[]⟩, .string ⟨#[]⟩]), 2, 32) := by kernel_rfl

set_option maxRecDepth 100000 in
set_option maxHeartbeats 6400000 in
theorem spec_keyask (hs : List Hs) (v : Value) (k : Ky) (tag : ByteArray) (w : World) (hH : HRow w v hs) (hN : HOks hs 1048576) (hk : k.place.size ≤ 1048576) (ht : tag.size ≤ 1048576) :
    Calls Tryd.prog 15 #[.agg #[v], keyV k, .string tag] w fun e w' => HRet w.heap.size (keyAsk hs k tag) e w' ∧ Below w.heap.size w w' := by
  obtain ⟨hz3, hb3, hA0, hA1, hA2⟩ := box3_new w (.cells #[v] 32) (.cells #[.int .i64 k.house, .string k.place, .int .i64 k.mask] 34) (.cells #[.string ⟨#[]⟩, .string ⟨#[]⟩, .string ⟨#[]⟩, .slice none 0 0, .string ⟨#[]⟩] 42)
  obtain ⟨W3, hW3⟩ : ∃ W3, W3 = ((w.alloc (.cells #[v] 32)).alloc (.cells #[.int .i64 k.house, .string k.place, .int .i64 k.mask] 34)).alloc (.cells #[.string ⟨#[]⟩, .string ⟨#[]⟩, .string ⟨#[]⟩, .slice none 0 0, .string ⟨#[]⟩] 42) := ⟨_, rfl⟩
  rw [← hW3] at hz3 hb3 hA0 hA1 hA2
  have hK := spec_keyok hs v k W3 (hH.below (Nat.le_refl _) hb3) hN hk
  have HT : Hid (∀ W, Calls Tryd.prog 32 #[.string tag] W fun e w' => e = .returned (.bool (tokB tag.data.toList)) ∧ W = w') := Lib.hid fun W => spec_tok tag W (by unfold maxLen; omega)
  have HC : Hid (∀ W, Calls Tryd.prog 33 #[.int .i64 k.mask] W fun e w' => e = .returned (strV (codT k.mask)) ∧ Below W.heap.size W w') := Lib.hid fun W => spec_codtext k.mask W
  have HX : Hid (∀ W, Below W3.heap.size W3 W → Below w.heap.size w W ∧ W.heap[w.heap.size]? = some (.cells #[v] 32 (0, 0)) ∧ W.heap[w.heap.size + 1]? = some (.cells #[.int .i64 k.house, .string k.place, .int .i64 k.mask] 34 (0, 0)) ∧ W.heap[w.heap.size + 2]? = some (.cells #[.string ⟨#[]⟩, .string ⟨#[]⟩, .string ⟨#[]⟩, .slice none 0 0, .string ⟨#[]⟩] 42 (0, 0))) := Lib.hid fun W hW =>
    ⟨hb3.trans (hW.mono (by omega)), (hW.block _ (by omega)).trans hA0, (hW.block _ (by omega)).trans hA1, (hW.block _ (by omega)).trans hA2⟩
  have hfst : keyB hs k = true → (0 ≤ k.house ∧ k.house < hs.length) ∧ ∃ x, hs[k.house.toNat]? = some x ∧ x.names[0]? = some (name0 hs k.house) := fun e => by
    obtain ⟨a1, a2, _⟩ := keyB_iff.1 e
    obtain ⟨x, b1, b2, b3, _⟩ := name0_at a1 a2.1 a2.2
    exact ⟨a2, x, b1, b2⟩
  have hno : ¬ (keyB hs k = true ∧ tagB tag.data.toList = true) → keyAsk hs k tag = noHd := fun e => if_neg e
  have hyes : keyB hs k = true → tagB tag.data.toList = true → keyAsk hs k tag = ⟨sGet, k.place, name0 hs k.house, askFs k tag, ⟨#[]⟩⟩ := fun a b => if_pos ⟨a, b⟩
  have htb1 : tag.data.toList = [] → tagB tag.data.toList = true := fun e => by unfold tagB; rw [e]; rfl
  have htb2 : tag.data.toList ≠ [] → tagB tag.data.toList = tokB tag.data.toList := fun e => by unfold tagB; rw [decide_eq_false e]; rfl
  have hfs1 : tag.data.toList = [] → askFs k tag = [(bAcc, ⟨(codT k.mask).toArray⟩)] := fun e => by simp [askFs, e]
  have hfs2 : tag.data.toList ≠ [] → askFs k tag = [(bAcc, ⟨(codT k.mask).toArray⟩), (bIfNone, tag)] := fun e => by simp [askFs, e]
  generalize askFs k tag = FS at *
  generalize name0 hs k.house = nm at *
  obtain ⟨va, vc, hv, hv1, hv2, hv3⟩ := hH
  subst hv
  unfold maxLen at hv2
  obtain ⟨house, place, mask⟩ := k
  unfold keyV at hK ⊢
  dsimp only at *
  unfold strV at HC
  generalize (ByteArray.mk (codT mask).toArray) = ct at *
  generalize keyAsk hs ⟨house, place, mask⟩ tag = Q at *
  obtain ⟨t0, _⟩ := one_fact hA0
  obtain ⟨t1, t2, t3, _⟩ := three_facts hA1
  rw [hW3] at t0 t1 t2 t3
  have HW := Lib.hid hW3
  have HNo := Lib.hid hno; have HYes := Lib.hid hyes; have HFst := Lib.hid hfst; have HF1 := Lib.hid hfs1; have HF2 := Lib.hid hfs2
  clear hW3 hb3 hA0 hA1 hA2 hN hno hyes hfst hfs1 hfs2
  generalize keyB hs ⟨house, place, mask⟩ = R1 at *
  cases R1
  · obtain rfl := HNo.out (fun e => by cases e.1)
    clear htb1 htb2
    go_enter Tryd.func15, Tryd.ntmps15
    go_wp2_with fail
    rw [← HW.out]
    refine hK.mono ?_
    rintro e w1 ⟨rfl, hb1⟩
    obtain ⟨k1, k2, k3, k4⟩ := HX.out _ hb1
    have hz1 := hb1.size
    clear hK hb1 t0 t1 t2 t3
    have z := five_set k4 (.string ⟨#[]⟩) (.string ⟨#[]⟩) (.string ⟨#[]⟩) (.slice none 0 0) (.string ⟨#[]⟩)
    have HB : Hid (Below w.heap.size w (set5 w1 (w.heap.size + 2) (.string ⟨#[]⟩) (.string ⟨#[]⟩) (.string ⟨#[]⟩) (.slice none 0 0) (.string ⟨#[]⟩))) := Lib.hid (k1.grown (grown_set5 _ _ _ _ _ _ _) k1.size (fun k hk => by cases hk; omega))
    unfold set5 at z HB
    obtain ⟨z0, z1, z2, z3, z4, _⟩ := five_facts z
    obtain ⟨_, _, _, _, _, f0, f1, f2, f3, f4⟩ := five_facts k4
    have HZ := Lib.hid (And.intro z0 (And.intro z1 (And.intro z2 (And.intro z3 z4))))
    clear k1 k2 k3 k4 z z0 z1 z2 z3 z4
    go_wp2_with fail
    obtain ⟨z0, z1, z2, z3, z4⟩ := HZ.out
    refine bodyPost_ret (v := .agg #[.string ⟨#[]⟩, .string ⟨#[]⟩, .string ⟨#[]⟩, .slice none 0 0, .string ⟨#[]⟩]) (by simp [results, Tryd.results15, go_sem, z0, z1, z2, z3, z4]) rfl ?_
    exact ⟨⟨_, rfl, World.ownsRow_nil _ _ _ _⟩, HB.out⟩
  by_cases htg : tag.data.toList = []
  · obtain rfl := HYes.out (by first | rfl | trivial) (htb1 htg)
    have HFS := Lib.hid (HF1.out htg)
    obtain rfl := str_nil htg
    clear htg htb1 htb2
    obtain ⟨⟨h0, h1⟩, x, hx, hx0⟩ := HFst.out (by first | rfl | trivial)
    obtain ⟨j, rfl⟩ := Int.eq_ofNat_of_zero_le h0
    rw [Int.toNat_natCast] at hx
    obtain ⟨hb, ho, hu, hva, hblt, d0, dS, d1, d2, d3⟩ := hv3 j x hx
    subst hva
    have hn0 : 0 < x.names.length := (List.getElem?_eq_some_iff.1 hx0).1
    obtain ⟨na, nc, rfl, hnc1, hnc2, hnn⟩ := dS
    obtain ⟨nb, no, rfl, hnb, hcn⟩ := hnn 0 nm hx0
    have HCell : Hid (∀ W, Below w.heap.size w W → W.cell? ⟨hb, ho + j * 4, none⟩ = some (.slice (some ⟨nb, no, none⟩) x.names.length nc) ∧ W.cell? ⟨nb, no, none⟩ = some (.string nm)) := Lib.hid fun W hW =>
      ⟨(hW.cell (p := ⟨hb, ho + j * 4, none⟩) hblt).trans d0, (hW.cell (p := ⟨nb, no, none⟩) hnb).trans hcn⟩
    clear hx hx0 hv3 d0 d1 d2 d3 hnn hcn
    have i0' : (0 : Int) < (x.names.length : Int) := by omega
    go_enter Tryd.func15, Tryd.ntmps15
    go_wp2_with fail
    rw [← HW.out]
    refine hK.mono ?_
    rintro e w1 ⟨rfl, hb1⟩
    obtain ⟨k1, k2, k3, k4⟩ := HX.out _ hb1
    have hz1 := hb1.size
    clear hK hb1 t0 t1 t2 t3
    have HCS : Hid (CSk w (w.heap.size + 2) (w.heap.size + 3) (.slice (some ⟨hb, ho, none⟩) hs.length vc) #[.int .i64 (j : Int), .string place, .int .i64 mask] w1) := Lib.hid ⟨k1, k2, k3, k4, by omega⟩
    clear k1 k2 k3 k4
    go_wp2_with fail
    refine wp_region_last (by kernel_rfl) 18 (by kernel_rfl) (by kernel_rfl) (by kernel_rfl)
      (fun z => { tmps := #[.agg #[.slice (some ⟨hb, ho, none⟩) hs.length vc], .agg #[.int .i64 (j : Int), .string place, .int .i64 mask], .string ⟨#[]⟩, .pointer (some ⟨w.heap.size, 0, none⟩), .pointer (some ⟨w.heap.size + 1, 0, none⟩), undef, .pointer (some ⟨w.heap.size + 2, 0, none⟩), z 17, .agg #[.slice (some ⟨hb, ho, none⟩) hs.length vc], .agg #[.int .i64 (j : Int), .string place, .int .i64 mask], .bool true, .bool false, .bool false, .string ⟨#[]⟩, .bool false, .bool false, undef, undef, undef, .bool false, .bool false, undef, z 0, z 1, z 2, z 3, z 4, z 5, z 6, z 7, z 8, z 9, z 10, z 11, z 12, z 13, z 14, z 15, z 16, undef, undef, undef, undef, undef, undef, undef, undef, undef, undef], defers := [] })
      (fun _ W => CSk w (w.heap.size + 2) (w.heap.size + 3) (.slice (some ⟨hb, ho, none⟩) hs.length vc) #[.int .i64 (j : Int), .string place, .int .i64 mask] W)
      (RSk (w.heap.size + 3) place nm ct [.pointer (some ⟨w.heap.size + 1, 1, none⟩), .string place, .pointer (some ⟨w.heap.size, 0, none⟩), .slice (some ⟨hb, ho, none⟩) hs.length vc, .pointer (some ⟨w.heap.size + 1, 0, none⟩), .int .i64 (j : Int), .pointer (some ⟨hb, ho + j * 4, none⟩), .pointer (some ⟨hb, ho + j * 4, none⟩), .slice (some ⟨nb, no, none⟩) x.names.length nc, .pointer (some ⟨nb, no, none⟩), .string nm, .pointer (some ⟨w.heap.size + 1, 2, none⟩), .int .i64 mask, .string ct, .agg #[.string ⟨#[97, 99, 99, 101, 112, 116]⟩, .string ct]])
      (fun w1 w2 => Below w1.heap.size w1 w2) (fun _ => undef) HCS.out.drew
      (fun i v w1 w2 _ hR hle => rsk_stay hR hle) ?_ ?_
    · intro i hi z W kk hkk hC hd
      match i, hi with
        | 0, _ =>
          refine wpOp_step rfl (fun K hK => ?_)
          clear hd
          go_simp
          exact hK _ _ ⟨_, rfl, rfl, Below.refl _ _, hC⟩
        | 1, _ =>
          have e0 : z 0 = .pointer (some ⟨w.heap.size + 1, 1, none⟩) := hd 0 (dep_of (by kernel_rfl))
          obtain ⟨y1, y2, y3, _⟩ := three_facts hC.key
          refine wpOp_step rfl (fun K hK => ?_)
          clear hd
          go_simp
          exact hK _ _ ⟨_, by simp [upd, e0], rfl, Below.refl _ _, hC⟩
        | 2, _ =>
          refine wpOp_step rfl (fun K hK => ?_)
          clear hd
          go_simp
          exact hK _ _ ⟨_, rfl, rfl, Below.refl _ _, hC⟩
        | 3, _ =>
          have e2 : z 2 = .pointer (some ⟨w.heap.size, 0, none⟩) := hd 2 (dep_of (by kernel_rfl))
          obtain ⟨y0, _⟩ := one_fact hC.cfg
          refine wpOp_step rfl (fun K hK => ?_)
          clear hd
          go_simp
          exact hK _ _ ⟨_, by simp [upd, e2], rfl, Below.refl _ _, hC⟩
        | 4, _ =>
          refine wpOp_step rfl (fun K hK => ?_)
          clear hd
          go_simp
          exact hK _ _ ⟨_, rfl, rfl, Below.refl _ _, hC⟩
        | 5, _ =>
          have e4 : z 4 = .pointer (some ⟨w.heap.size + 1, 0, none⟩) := hd 4 (dep_of (by kernel_rfl))
          obtain ⟨y1, y2, y3, _⟩ := three_facts hC.key
          refine wpOp_step rfl (fun K hK => ?_)
          clear hd
          go_simp
          exact hK _ _ ⟨_, by simp [upd, e4], rfl, Below.refl _ _, hC⟩
        | 6, _ =>
          have e3 : z 3 = .slice (some ⟨hb, ho, none⟩) hs.length vc := hd 3 (dep_of (by kernel_rfl))
          have e5 : z 5 = .int .i64 (j : Int) := hd 5 (dep_of (by kernel_rfl))
          refine wpOp_step rfl (fun K hK => ?_)
          clear hd
          go_simp
          exact hK _ _ ⟨_, by simp [upd, e3, e5], rfl, Below.refl _ _, hC⟩
        | 7, _ =>
          have e6 : z 6 = .pointer (some ⟨hb, ho + j * 4, none⟩) := hd 6 (dep_of (by kernel_rfl))
          refine wpOp_step rfl (fun K hK => ?_)
          clear hd
          go_simp
          exact hK _ _ ⟨_, by simp [upd, e6], rfl, Below.refl _ _, hC⟩
        | 8, _ =>
          have e7 : z 7 = .pointer (some ⟨hb, ho + j * 4, none⟩) := hd 7 (dep_of (by kernel_rfl))
          obtain ⟨y0, y5⟩ := HCell.out _ hC.bel
          refine wpOp_step rfl (fun K hK => ?_)
          clear hd
          go_simp
          exact hK _ _ ⟨_, by simp [upd, e7], rfl, Below.refl _ _, hC⟩
        | 9, _ =>
          have e8 : z 8 = .slice (some ⟨nb, no, none⟩) x.names.length nc := hd 8 (dep_of (by kernel_rfl))
          refine wpOp_step rfl (fun K hK => ?_)
          clear hd
          go_simp
          exact hK _ _ ⟨_, by simp [upd, e8], rfl, Below.refl _ _, hC⟩
        | 10, _ =>
          have e9 : z 9 = .pointer (some ⟨nb, no, none⟩) := hd 9 (dep_of (by kernel_rfl))
          obtain ⟨y0, y5⟩ := HCell.out _ hC.bel
          refine wpOp_step rfl (fun K hK => ?_)
          clear hd
          go_simp
          exact hK _ _ ⟨_, by simp [upd, e9], rfl, Below.refl _ _, hC⟩
        | 11, _ =>
          refine wpOp_step rfl (fun K hK => ?_)
          clear hd
          go_simp
          exact hK _ _ ⟨_, rfl, rfl, Below.refl _ _, hC⟩
        | 12, _ =>
          have e11 : z 11 = .pointer (some ⟨w.heap.size + 1, 2, none⟩) := hd 11 (dep_of (by kernel_rfl))
          obtain ⟨y1, y2, y3, _⟩ := three_facts hC.key
          refine wpOp_step rfl (fun K hK => ?_)
          clear hd
          go_simp
          exact hK _ _ ⟨_, by simp [upd, e11], rfl, Below.refl _ _, hC⟩
        | 13, _ =>
          have e12 : z 12 = .int .i64 mask := hd 12 (dep_of (by kernel_rfl))
          refine wpOp_step rfl (fun K hK => ?_)
          clear hd
          go_simp
          refine (HC.out _).mono ?_
          rintro e w5 ⟨rfl, hb5⟩
          exact hK _ _ ⟨_, by simp [upd, e12], rfl, hb5, hC.keep hb5⟩
        | 14, _ =>
          have e13 : z 13 = .string ct := hd 13 (dep_of (by kernel_rfl))
          refine wpOp_step rfl (fun K hK => ?_)
          clear hd
          go_simp
          exact hK _ _ ⟨_, by simp [upd, e13], rfl, Below.refl _ _, hC⟩
        | 15, _ =>
          have e14 : z 14 = .agg #[.string ⟨#[97, 99, 99, 101, 112, 116]⟩, .string ct] := hd 14 (dep_of (by kernel_rfl))
          have hsz := hC.size
          have hbx : ∀ o, Below W.heap.size W (W.alloc o) := fun o => (Below.refl _ _).alloc (Nat.le_refl _) o
          refine wpOp_step rfl (fun K hK => ?_)
          clear hd
          go_simp
          exact hK _ _ ⟨_, by simp [upd, e14], ⟨_, rfl, hsz, heap_alloc_new W _⟩, hbx _, hC.keep (hbx _)⟩
        | 16, _ =>
          have e1 : z 1 = .string place := hd 1 (dep_of (by kernel_rfl))
          have e10 : z 10 = .string nm := hd 10 (dep_of (by kernel_rfl))
          obtain ⟨c, e15, hc15, hh15⟩ := hd 15 (dep_of (by kernel_rfl))
          refine wpOp_step rfl (fun K hK => ?_)
          clear hd
          go_simp
          exact hK _ _ ⟨_, by simp [upd, e1, e10, e15], ⟨c, rfl, hc15, hh15⟩, Below.refl _ _, hC⟩
        | 17, _ =>
          have hsz := hC.size
          have hbx : ∀ o, Below W.heap.size W (W.alloc o) := fun o => (Below.refl _ _).alloc (Nat.le_refl _) o
          refine wpOp_step rfl (fun K hK => ?_)
          clear hd
          go_simp
          exact hK _ _ ⟨_, rfl, ⟨_, rfl, hsz, heap_alloc_new W _⟩, hbx _, hC.keep (hbx _)⟩
        | n + 18, hn => exact absurd hn (by omega)
    · intro z W kk hkk hC hd
      obtain ⟨c, e16, hcB, hcc⟩ := hd 16 (by decide)
      obtain ⟨b, e17, hbB, hbb⟩ := hd 17 (by decide)
      have hbc : c ≠ b := fun e => by subst e; rw [hcc] at hbb; cases hbb
      have hcne : w.heap.size + 2 ≠ c := by omega
      obtain ⟨W1, hW1⟩ : ∃ W1, W1 = set5 W b (.string sGet) (.string place) (.string nm) (.slice (some ⟨c, 0, none⟩) 1 1) (.string ⟨#[]⟩) := ⟨_, rfl⟩
      have hB1 : W1.heap[b]? = some (.cells #[.string sGet, .string place, .string nm, .slice (some ⟨c, 0, none⟩) 1 1, .string ⟨#[]⟩] 42 (0, 0)) := by rw [hW1]; exact five_set hbb _ _ _ _ _
      have hC1 : W1.heap[c]? = some (.cells #[.string bAcc, .string ct] 63 (0, 0)) := by rw [hW1, set5_other hbc]; exact hcc
      have hR1 : W1.heap[w.heap.size + 2]? = some (.cells #[.string ⟨#[]⟩, .string ⟨#[]⟩, .string ⟨#[]⟩, .slice none 0 0, .string ⟨#[]⟩] 42 (0, 0)) := by rw [hW1, set5_other (by omega)]; exact hC.cell
      have hz1a : W1.heap.size ≤ W.heap.size := by rw [hW1]; simp [set5]
      have hz1b : W.heap.size ≤ W1.heap.size := by rw [hW1]; simp [set5]
      have hL1 : Below w.heap.size w W1 := by rw [hW1]; exact hC.bel.grown (grown_set5 _ _ _ _ _ _ _) hC.bel.size (fun k hk => by cases hk; omega)
      have hown1 : W1.ownsRow (w.heap.size + 3) 63 2 (.slice (some ⟨c, 0, none⟩) 1 1) 1 [.string bAcc, .string ct] := ⟨rfl, .inr ⟨c, 1, _, rfl, hcB, hC1, Nat.le_refl _, by decide, rfl, rfl⟩⟩
      have hWz := hC.size
      obtain ⟨x0, x1, x2, x3, x4, f0, f1, f2, f3, f4⟩ := five_facts hbb
      unfold set5 sGet at hW1
      have HW1 := Lib.hid hW1
      clear hW1 hC hd hbb hcc
      refine wpOp_step rfl (fun K hK => ?_)
      go_simp
      have hbAcc : bAcc = ⟨#[97, 99, 99, 101, 112, 116]⟩ := rfl
      rw [← HW1.out]
      refine hK _ _ ?_
      clear hK K x0 x1 x2 x3 x4 f0 f1 f2 f3 f4 e16 e17 hbAcc
      have hBx := hB1; have hRx := hR1; have hLx := hL1; have hownx := hown1
      clear hB1 hR1 hL1 hown1 hC1
      obtain ⟨y0, y1, y2, y3, y4, _⟩ := five_facts hBx
      obtain ⟨x0, x1, x2, x3, x4, f0, f1, f2, f3, f4⟩ := five_facts hRx
      have hzz := five_set hRx (.string sGet) (.string place) (.string nm) (.slice (some ⟨c, 0, none⟩) 1 1) (.string ⟨#[]⟩)
      have hbw : Below w.heap.size w (set5 W1 (w.heap.size + 2) (.string sGet) (.string place) (.string nm) (.slice (some ⟨c, 0, none⟩) 1 1) (.string ⟨#[]⟩)) := hLx.grown (grown_set5 _ _ _ _ _ _ _) hLx.size (fun k hk => by cases hk; omega)
      have hown : (set5 W1 (w.heap.size + 2) (.string sGet) (.string place) (.string nm) (.slice (some ⟨c, 0, none⟩) 1 1) (.string ⟨#[]⟩)).ownsRow w.heap.size 63 2 (.slice (some ⟨c, 0, none⟩) 1 1) FS.length (fcells FS) := own_base (own_setk (own_setk (own_setk (own_setk (own_setk (show W1.ownsRow (w.heap.size + 3) 63 2 (.slice (some ⟨c, 0, none⟩) 1 1) FS.length (fcells FS) from (by rw [HFS.out]; exact hownx)) (Nat.lt_succ_self (w.heap.size + 2)) _) (Nat.lt_succ_self (w.heap.size + 2)) _) (Nat.lt_succ_self (w.heap.size + 2)) _) (Nat.lt_succ_self (w.heap.size + 2)) _) (Nat.lt_succ_self (w.heap.size + 2)) _) (by omega)
      unfold set5 sGet at hzz hbw hown
      obtain ⟨z0, z1, z2, z3, z4, _⟩ := five_facts hzz
      unfold sGet at y0
      have HZ := Lib.hid (And.intro z0 (And.intro z1 (And.intro z2 (And.intro z3 (And.intro z4 (And.intro hown hbw))))))
      clear hzz z0 z1 z2 z3 z4 hown hbw hownx hBx hRx hLx
      go_wp2_with fail
      obtain ⟨z0, z1, z2, z3, z4, hown, hbw⟩ := HZ.out
      refine bodyPost_ret (v := .agg #[.string ⟨#[103, 101, 116]⟩, .string place, .string nm, (.slice (some ⟨c, 0, none⟩) 1 1), .string ⟨#[]⟩]) (by simp [results, Tryd.results15, go_sem, z0, z1, z2, z3, z4]) rfl ?_
      exact ⟨⟨_, rfl, hown⟩, hbw⟩
  · have b0 : (tag.toList == ([] : List UInt8)) = false := by rw [Lib.toList_data]; exact beq_eq_false_iff_ne.2 htg
    have b1 : tag.toList.isEmpty = false := by rw [Lib.toList_data]; cases hh : tag.data.toList with
      | nil => exact absurd hh htg
      | cons _ _ => rfl
    have hh := htb2 htg
    have HFS := Lib.hid (HF2.out htg)
    clear htg htb1 htb2
    generalize tokB tag.data.toList = R2 at *
    generalize tagB tag.data.toList = R3 at *
    subst hh
    cases R3
    · obtain rfl := HNo.out (fun e => by cases e.2)
      go_enter Tryd.func15, Tryd.ntmps15
      go_wp2_with fail
      rw [← HW.out]
      refine hK.mono ?_
      rintro e w1 ⟨rfl, hb1⟩
      obtain ⟨k1, k2, k3, k4⟩ := HX.out _ hb1
      have hz1 := hb1.size
      clear hK hb1 t0 t1 t2 t3
      go_wp2_with fail
      refine (HT.out _).mono ?_
      rintro e w2 ⟨rfl, rfl⟩
      have z := five_set k4 (.string ⟨#[]⟩) (.string ⟨#[]⟩) (.string ⟨#[]⟩) (.slice none 0 0) (.string ⟨#[]⟩)
      have HB : Hid (Below w.heap.size w (set5 w1 (w.heap.size + 2) (.string ⟨#[]⟩) (.string ⟨#[]⟩) (.string ⟨#[]⟩) (.slice none 0 0) (.string ⟨#[]⟩))) := Lib.hid (k1.grown (grown_set5 _ _ _ _ _ _ _) k1.size (fun k hk => by cases hk; omega))
      unfold set5 at z HB
      obtain ⟨z0, z1, z2, z3, z4, _⟩ := five_facts z
      obtain ⟨_, _, _, _, _, f0, f1, f2, f3, f4⟩ := five_facts k4
      have HZ := Lib.hid (And.intro z0 (And.intro z1 (And.intro z2 (And.intro z3 z4))))
      clear k1 k2 k3 k4 z z0 z1 z2 z3 z4
      go_wp2_with fail
      obtain ⟨z0, z1, z2, z3, z4⟩ := HZ.out
      refine bodyPost_ret (v := .agg #[.string ⟨#[]⟩, .string ⟨#[]⟩, .string ⟨#[]⟩, .slice none 0 0, .string ⟨#[]⟩]) (by simp [results, Tryd.results15, go_sem, z0, z1, z2, z3, z4]) rfl ?_
      exact ⟨⟨_, rfl, World.ownsRow_nil _ _ _ _⟩, HB.out⟩
    · obtain rfl := HYes.out (by first | rfl | trivial) (by first | rfl | trivial)
      obtain ⟨i0, hi, hy0, hy1, hy2⟩ := info_parts infoFdKs
      obtain ⟨⟨h0, h1⟩, x, hx, hx0⟩ := HFst.out (by first | rfl | trivial)
      obtain ⟨j, rfl⟩ := Int.eq_ofNat_of_zero_le h0
      rw [Int.toNat_natCast] at hx
      obtain ⟨hb, ho, hu, hva, hblt, d0, dS, d1, d2, d3⟩ := hv3 j x hx
      subst hva
      have hn0 : 0 < x.names.length := (List.getElem?_eq_some_iff.1 hx0).1
      obtain ⟨na, nc, rfl, hnc1, hnc2, hnn⟩ := dS
      obtain ⟨nb, no, rfl, hnb, hcn⟩ := hnn 0 nm hx0
      have HCell : Hid (∀ W, Below w.heap.size w W → W.cell? ⟨hb, ho + j * 4, none⟩ = some (.slice (some ⟨nb, no, none⟩) x.names.length nc) ∧ W.cell? ⟨nb, no, none⟩ = some (.string nm)) := Lib.hid fun W hW =>
        ⟨(hW.cell (p := ⟨hb, ho + j * 4, none⟩) hblt).trans d0, (hW.cell (p := ⟨nb, no, none⟩) hnb).trans hcn⟩
      clear hx hx0 hv3 d0 d1 d2 d3 hnn hcn
      have i0' : (0 : Int) < (x.names.length : Int) := by omega
      go_enter Tryd.func15, Tryd.ntmps15
      go_wp2_with fail
      rw [← HW.out]
      refine hK.mono ?_
      rintro e w1 ⟨rfl, hb1⟩
      obtain ⟨k1, k2, k3, k4⟩ := HX.out _ hb1
      have hz1 := hb1.size
      clear hK hb1 t0 t1 t2 t3
      go_wp2_with fail
      refine (HT.out _).mono ?_
      rintro e w2 ⟨rfl, rfl⟩
      have HCS : Hid (CSk w (w.heap.size + 2) (w.heap.size + 3) (.slice (some ⟨hb, ho, none⟩) hs.length vc) #[.int .i64 (j : Int), .string place, .int .i64 mask] w1) := Lib.hid ⟨k1, k2, k3, k4, by omega⟩
      clear k1 k2 k3 k4
      go_wp2_with fail
      refine wp_region_last (by kernel_rfl) 18 (by kernel_rfl) (by kernel_rfl) (by kernel_rfl)
        (fun z => { tmps := #[.agg #[.slice (some ⟨hb, ho, none⟩) hs.length vc], .agg #[.int .i64 (j : Int), .string place, .int .i64 mask], .string tag, .pointer (some ⟨w.heap.size, 0, none⟩), .pointer (some ⟨w.heap.size + 1, 0, none⟩), undef, .pointer (some ⟨w.heap.size + 2, 0, none⟩), z 17, .agg #[.slice (some ⟨hb, ho, none⟩) hs.length vc], .agg #[.int .i64 (j : Int), .string place, .int .i64 mask], .bool true, .bool false, .bool false, .string tag, .bool true, .bool true, .string tag, .bool true, .bool false, .bool false, .bool false, undef, z 0, z 1, z 2, z 3, z 4, z 5, z 6, z 7, z 8, z 9, z 10, z 11, z 12, z 13, z 14, z 15, z 16, undef, undef, undef, undef, undef, undef, undef, undef, undef, undef], defers := [] })
        (fun _ W => CSk w (w.heap.size + 2) (w.heap.size + 3) (.slice (some ⟨hb, ho, none⟩) hs.length vc) #[.int .i64 (j : Int), .string place, .int .i64 mask] W)
        (RSk (w.heap.size + 3) place nm ct [.pointer (some ⟨w.heap.size + 1, 1, none⟩), .string place, .pointer (some ⟨w.heap.size, 0, none⟩), .slice (some ⟨hb, ho, none⟩) hs.length vc, .pointer (some ⟨w.heap.size + 1, 0, none⟩), .int .i64 (j : Int), .pointer (some ⟨hb, ho + j * 4, none⟩), .pointer (some ⟨hb, ho + j * 4, none⟩), .slice (some ⟨nb, no, none⟩) x.names.length nc, .pointer (some ⟨nb, no, none⟩), .string nm, .pointer (some ⟨w.heap.size + 1, 2, none⟩), .int .i64 mask, .string ct, .agg #[.string ⟨#[97, 99, 99, 101, 112, 116]⟩, .string ct]])
        (fun w1 w2 => Below w1.heap.size w1 w2) (fun _ => undef) HCS.out.drew
        (fun i v w1 w2 _ hR hle => rsk_stay hR hle) ?_ ?_
      · intro i hi z W kk hkk hC hd
        match i, hi with
          | 0, _ =>
            refine wpOp_step rfl (fun K hK => ?_)
            clear hd
            go_simp
            exact hK _ _ ⟨_, rfl, rfl, Below.refl _ _, hC⟩
          | 1, _ =>
            have e0 : z 0 = .pointer (some ⟨w.heap.size + 1, 1, none⟩) := hd 0 (dep_of (by kernel_rfl))
            obtain ⟨y1, y2, y3, _⟩ := three_facts hC.key
            refine wpOp_step rfl (fun K hK => ?_)
            clear hd
            go_simp
            exact hK _ _ ⟨_, by simp [upd, e0], rfl, Below.refl _ _, hC⟩
          | 2, _ =>
            refine wpOp_step rfl (fun K hK => ?_)
            clear hd
            go_simp
            exact hK _ _ ⟨_, rfl, rfl, Below.refl _ _, hC⟩
          | 3, _ =>
            have e2 : z 2 = .pointer (some ⟨w.heap.size, 0, none⟩) := hd 2 (dep_of (by kernel_rfl))
            obtain ⟨y0, _⟩ := one_fact hC.cfg
            refine wpOp_step rfl (fun K hK => ?_)
            clear hd
            go_simp
            exact hK _ _ ⟨_, by simp [upd, e2], rfl, Below.refl _ _, hC⟩
          | 4, _ =>
            refine wpOp_step rfl (fun K hK => ?_)
            clear hd
            go_simp
            exact hK _ _ ⟨_, rfl, rfl, Below.refl _ _, hC⟩
          | 5, _ =>
            have e4 : z 4 = .pointer (some ⟨w.heap.size + 1, 0, none⟩) := hd 4 (dep_of (by kernel_rfl))
            obtain ⟨y1, y2, y3, _⟩ := three_facts hC.key
            refine wpOp_step rfl (fun K hK => ?_)
            clear hd
            go_simp
            exact hK _ _ ⟨_, by simp [upd, e4], rfl, Below.refl _ _, hC⟩
          | 6, _ =>
            have e3 : z 3 = .slice (some ⟨hb, ho, none⟩) hs.length vc := hd 3 (dep_of (by kernel_rfl))
            have e5 : z 5 = .int .i64 (j : Int) := hd 5 (dep_of (by kernel_rfl))
            refine wpOp_step rfl (fun K hK => ?_)
            clear hd
            go_simp
            exact hK _ _ ⟨_, by simp [upd, e3, e5], rfl, Below.refl _ _, hC⟩
          | 7, _ =>
            have e6 : z 6 = .pointer (some ⟨hb, ho + j * 4, none⟩) := hd 6 (dep_of (by kernel_rfl))
            refine wpOp_step rfl (fun K hK => ?_)
            clear hd
            go_simp
            exact hK _ _ ⟨_, by simp [upd, e6], rfl, Below.refl _ _, hC⟩
          | 8, _ =>
            have e7 : z 7 = .pointer (some ⟨hb, ho + j * 4, none⟩) := hd 7 (dep_of (by kernel_rfl))
            obtain ⟨y0, y5⟩ := HCell.out _ hC.bel
            refine wpOp_step rfl (fun K hK => ?_)
            clear hd
            go_simp
            exact hK _ _ ⟨_, by simp [upd, e7], rfl, Below.refl _ _, hC⟩
          | 9, _ =>
            have e8 : z 8 = .slice (some ⟨nb, no, none⟩) x.names.length nc := hd 8 (dep_of (by kernel_rfl))
            refine wpOp_step rfl (fun K hK => ?_)
            clear hd
            go_simp
            exact hK _ _ ⟨_, by simp [upd, e8], rfl, Below.refl _ _, hC⟩
          | 10, _ =>
            have e9 : z 9 = .pointer (some ⟨nb, no, none⟩) := hd 9 (dep_of (by kernel_rfl))
            obtain ⟨y0, y5⟩ := HCell.out _ hC.bel
            refine wpOp_step rfl (fun K hK => ?_)
            clear hd
            go_simp
            exact hK _ _ ⟨_, by simp [upd, e9], rfl, Below.refl _ _, hC⟩
          | 11, _ =>
            refine wpOp_step rfl (fun K hK => ?_)
            clear hd
            go_simp
            exact hK _ _ ⟨_, rfl, rfl, Below.refl _ _, hC⟩
          | 12, _ =>
            have e11 : z 11 = .pointer (some ⟨w.heap.size + 1, 2, none⟩) := hd 11 (dep_of (by kernel_rfl))
            obtain ⟨y1, y2, y3, _⟩ := three_facts hC.key
            refine wpOp_step rfl (fun K hK => ?_)
            clear hd
            go_simp
            exact hK _ _ ⟨_, by simp [upd, e11], rfl, Below.refl _ _, hC⟩
          | 13, _ =>
            have e12 : z 12 = .int .i64 mask := hd 12 (dep_of (by kernel_rfl))
            refine wpOp_step rfl (fun K hK => ?_)
            clear hd
            go_simp
            refine (HC.out _).mono ?_
            rintro e w5 ⟨rfl, hb5⟩
            exact hK _ _ ⟨_, by simp [upd, e12], rfl, hb5, hC.keep hb5⟩
          | 14, _ =>
            have e13 : z 13 = .string ct := hd 13 (dep_of (by kernel_rfl))
            refine wpOp_step rfl (fun K hK => ?_)
            clear hd
            go_simp
            exact hK _ _ ⟨_, by simp [upd, e13], rfl, Below.refl _ _, hC⟩
          | 15, _ =>
            have e14 : z 14 = .agg #[.string ⟨#[97, 99, 99, 101, 112, 116]⟩, .string ct] := hd 14 (dep_of (by kernel_rfl))
            have hsz := hC.size
            have hbx : ∀ o, Below W.heap.size W (W.alloc o) := fun o => (Below.refl _ _).alloc (Nat.le_refl _) o
            refine wpOp_step rfl (fun K hK => ?_)
            clear hd
            go_simp
            exact hK _ _ ⟨_, by simp [upd, e14], ⟨_, rfl, hsz, heap_alloc_new W _⟩, hbx _, hC.keep (hbx _)⟩
          | 16, _ =>
            have e1 : z 1 = .string place := hd 1 (dep_of (by kernel_rfl))
            have e10 : z 10 = .string nm := hd 10 (dep_of (by kernel_rfl))
            obtain ⟨c, e15, hc15, hh15⟩ := hd 15 (dep_of (by kernel_rfl))
            refine wpOp_step rfl (fun K hK => ?_)
            clear hd
            go_simp
            exact hK _ _ ⟨_, by simp [upd, e1, e10, e15], ⟨c, rfl, hc15, hh15⟩, Below.refl _ _, hC⟩
          | 17, _ =>
            have hsz := hC.size
            have hbx : ∀ o, Below W.heap.size W (W.alloc o) := fun o => (Below.refl _ _).alloc (Nat.le_refl _) o
            refine wpOp_step rfl (fun K hK => ?_)
            clear hd
            go_simp
            exact hK _ _ ⟨_, rfl, ⟨_, rfl, hsz, heap_alloc_new W _⟩, hbx _, hC.keep (hbx _)⟩
          | n + 18, hn => exact absurd hn (by omega)
      · intro z W kk hkk hC hd
        obtain ⟨c, e16, hcB, hcc⟩ := hd 16 (by decide)
        obtain ⟨b, e17, hbB, hbb⟩ := hd 17 (by decide)
        have hbc : c ≠ b := fun e => by subst e; rw [hcc] at hbb; cases hbb
        have hcne : w.heap.size + 2 ≠ c := by omega
        obtain ⟨W1, hW1⟩ : ∃ W1, W1 = set5 W b (.string sGet) (.string place) (.string nm) (.slice (some ⟨c, 0, none⟩) 1 1) (.string ⟨#[]⟩) := ⟨_, rfl⟩
        have hB1 : W1.heap[b]? = some (.cells #[.string sGet, .string place, .string nm, .slice (some ⟨c, 0, none⟩) 1 1, .string ⟨#[]⟩] 42 (0, 0)) := by rw [hW1]; exact five_set hbb _ _ _ _ _
        have hC1 : W1.heap[c]? = some (.cells #[.string bAcc, .string ct] 63 (0, 0)) := by rw [hW1, set5_other hbc]; exact hcc
        have hR1 : W1.heap[w.heap.size + 2]? = some (.cells #[.string ⟨#[]⟩, .string ⟨#[]⟩, .string ⟨#[]⟩, .slice none 0 0, .string ⟨#[]⟩] 42 (0, 0)) := by rw [hW1, set5_other (by omega)]; exact hC.cell
        have hz1a : W1.heap.size ≤ W.heap.size := by rw [hW1]; simp [set5]
        have hz1b : W.heap.size ≤ W1.heap.size := by rw [hW1]; simp [set5]
        have hL1 : Below w.heap.size w W1 := by rw [hW1]; exact hC.bel.grown (grown_set5 _ _ _ _ _ _ _) hC.bel.size (fun k hk => by cases hk; omega)
        have hown1 : W1.ownsRow (w.heap.size + 3) 63 2 (.slice (some ⟨c, 0, none⟩) 1 1) 1 [.string bAcc, .string ct] := ⟨rfl, .inr ⟨c, 1, _, rfl, hcB, hC1, Nat.le_refl _, by decide, rfl, rfl⟩⟩
        have hWz := hC.size
        obtain ⟨x0, x1, x2, x3, x4, f0, f1, f2, f3, f4⟩ := five_facts hbb
        unfold set5 sGet at hW1
        have HW1 := Lib.hid hW1
        clear hW1 hC hd hbb hcc
        refine wpOp_step rfl (fun K hK => ?_)
        go_simp
        have hbAcc : bAcc = ⟨#[97, 99, 99, 101, 112, 116]⟩ := rfl
        rw [← HW1.out]
        refine hK _ _ ?_
        clear hK K x0 x1 x2 x3 x4 f0 f1 f2 f3 f4 e16 e17 hbAcc
        have HM : Hid (∀ w9 g3 cap, (W1.alloc (.cells #[.string bIfNone, .string tag] 63)).grownBy w9 (some c) → w9.ownsRow (w.heap.size + 3) 63 2 (.slice (some ⟨g3, 0, none⟩) 2 cap) 2 [.string bAcc, .string ct, .string bIfNone, .string tag] →
            (w9.heap[b]? = some (.cells #[.string sGet, .string place, .string nm, .slice (some ⟨c, 0, none⟩) 1 1, .string ⟨#[]⟩] 42 (0, 0))) ∧
            (w9.setCell ⟨b, 3, none⟩ (.slice (some ⟨g3, 0, none⟩) 2 cap)).heap[b]? = some (.cells #[.string sGet, .string place, .string nm, .slice (some ⟨g3, 0, none⟩) 2 cap, .string ⟨#[]⟩] 42 (0, 0)) ∧
            (w9.setCell ⟨b, 3, none⟩ (.slice (some ⟨g3, 0, none⟩) 2 cap)).heap[w.heap.size + 2]? = some (.cells #[.string ⟨#[]⟩, .string ⟨#[]⟩, .string ⟨#[]⟩, .slice none 0 0, .string ⟨#[]⟩] 42 (0, 0)) ∧
            Below w.heap.size w (w9.setCell ⟨b, 3, none⟩ (.slice (some ⟨g3, 0, none⟩) 2 cap)) ∧
            (w9.setCell ⟨b, 3, none⟩ (.slice (some ⟨g3, 0, none⟩) 2 cap)).ownsRow (w.heap.size + 3) 63 2 (.slice (some ⟨g3, 0, none⟩) 2 cap) 2 [.string bAcc, .string ct, .string bIfNone, .string tag]) := Lib.hid fun w9 g3 cap hg9 ho9 => by
          have kp : ∀ (k : Nat) (o : Obj), k ≠ c → W1.heap[k]? = some o → w9.heap[k]? = some o := fun k o hk ho' => by
            have h1 := heap_keep ((Below.refl W1.heap.size W1).alloc (Nat.le_refl _) (.cells #[.string bIfNone, .string tag] 63)) (Nat.le_refl _) _ _ ho'
            exact (hg9.block k (Array.getElem?_eq_some_iff.1 h1).1 (fun e => hk (by cases e; rfl))).trans h1
          have hb9 := kp _ _ (Ne.symm hbc) hB1
          have hs9 := hg9.size
          have hg3 : b ≠ g3 := fun e => by
            subst e
            rcases ho9.2 with ⟨e, _⟩ | ⟨g', _, _, e, _, hh, _⟩
            · cases e
            · cases e; rw [hb9] at hh; cases hh
          have hbel9 : Below w.heap.size w w9 := (hL1.alloc hL1.size _).grown hg9 (hL1.alloc hL1.size _).size (fun k hk => by cases hk; omega)
          refine ⟨hb9, heap_setCell_same w9 b 3 _ _ _ hb9, (heap_setCell_other w9 ⟨b, 3, none⟩ _ _ (by simp; omega)).trans (kp _ _ hcne hR1), below_setB hbel9 (by omega), ⟨ho9.1, ?_⟩⟩
          rcases ho9.2 with ⟨e, _⟩ | ⟨g', cp, cur, e, q1, hh, rest⟩
          · cases e
          · cases e
            exact .inr ⟨g3, _, cur, rfl, q1, (heap_setCell_other w9 ⟨b, 3, none⟩ g3 _ (by simp; omega)).trans hh, rest⟩
        obtain ⟨x0, x1, x2, x3, x4, f0, f1, f2, f3, f4⟩ := five_facts hB1
        have hro := hown1.alloc (.cells #[.string bIfNone, .string tag] 63)
        have hnb := heap_alloc_new W1 (.cells #[.string bIfNone, .string tag] 63)
        have HRo := Lib.hid hro; have HNb := Lib.hid hnb
        clear hB1 hR1 hL1 hown1 hC1 hro hnb
        go_wp2_with (at_builtin; go_must (refine wpList_append_lies _ rfl _ _ 40 (by rfl) (w.heap.size + 3) 63 i0 _ 2 32 Tryd.underlying40 hi hy0 hy1 hy2 (by rfl) (by decide) _ 1 [.string bAcc, .string ct] (by rfl) HRo.out ⟨W1.heap.size, 0, none⟩ 1 1 [.string bIfNone, .string tag] (by rfl) (by rfl) (World.news_of_block HNb.out) (by intro x hx; simp at hx; rcases hx with rfl | rfl <;> rfl) (by omega) (by unfold maxLen; omega) (by omega) (by simp; omega) (W1.heap.size + 1) (by simp) ?_); intro g3 cap w9 ho9 hg9 hat9 hlt9; obtain ⟨n1, hBx, hRx, hLx, hownx⟩ := HM.out w9 g3 cap hg9 ho9; clear x0 x1 x2 x3 x4 f0 f1 f2 f3 f4 hg9 ho9; obtain ⟨v0, v1, v2, v3, v4, u0, u1, u2, u3, u4⟩ := five_facts n1; clear n1; obtain ⟨y0, y1, y2, y3, y4, _⟩ := five_facts hBx; obtain ⟨x0, x1, x2, x3, x4, f0, f1, f2, f3, f4⟩ := five_facts hRx; have hzz := five_set hRx (.string sGet) (.string place) (.string nm) (.slice (some ⟨g3, 0, none⟩) 2 cap) (.string ⟨#[]⟩); have hbw : Below w.heap.size w (set5 (w9.setCell ⟨b, 3, none⟩ (.slice (some ⟨g3, 0, none⟩) 2 cap)) (w.heap.size + 2) (.string sGet) (.string place) (.string nm) (.slice (some ⟨g3, 0, none⟩) 2 cap) (.string ⟨#[]⟩)) := hLx.grown (grown_set5 _ _ _ _ _ _ _) hLx.size (fun k hk => by cases hk; omega); have hown : (set5 (w9.setCell ⟨b, 3, none⟩ (.slice (some ⟨g3, 0, none⟩) 2 cap)) (w.heap.size + 2) (.string sGet) (.string place) (.string nm) (.slice (some ⟨g3, 0, none⟩) 2 cap) (.string ⟨#[]⟩)).ownsRow w.heap.size 63 2 (.slice (some ⟨g3, 0, none⟩) 2 cap) FS.length (fcells FS) := own_base (own_setk (own_setk (own_setk (own_setk (own_setk (show (w9.setCell ⟨b, 3, none⟩ (.slice (some ⟨g3, 0, none⟩) 2 cap)).ownsRow (w.heap.size + 3) 63 2 (.slice (some ⟨g3, 0, none⟩) 2 cap) FS.length (fcells FS) from (by rw [HFS.out]; exact hownx)) (Nat.lt_succ_self (w.heap.size + 2)) _) (Nat.lt_succ_self (w.heap.size + 2)) _) (Nat.lt_succ_self (w.heap.size + 2)) _) (Nat.lt_succ_self (w.heap.size + 2)) _) (Nat.lt_succ_self (w.heap.size + 2)) _) (by omega); unfold set5 sGet at hzz hbw hown; obtain ⟨z0, z1, z2, z3, z4, _⟩ := five_facts hzz; unfold sGet at y0; have HZ := Lib.hid (And.intro z0 (And.intro z1 (And.intro z2 (And.intro z3 (And.intro z4 (And.intro hown hbw)))))); clear hzz z0 z1 z2 z3 z4 hown hbw hownx hBx hRx hLx)
        obtain ⟨z0, z1, z2, z3, z4, hown, hbw⟩ := HZ.out
        refine bodyPost_ret (v := .agg #[.string ⟨#[103, 101, 116]⟩, .string place, .string nm, (.slice (some ⟨g3, 0, none⟩) 2 cap), .string ⟨#[]⟩]) (by simp [results, Tryd.results15, go_sem, z0, z1, z2, z3, z4]) rfl ?_
        exact ⟨⟨_, rfl, hown⟩, hbw⟩
end Go.Proofs.YtiepobifbkleaaaDoor

