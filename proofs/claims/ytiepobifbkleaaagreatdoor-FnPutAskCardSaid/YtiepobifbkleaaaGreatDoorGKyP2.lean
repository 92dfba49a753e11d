import Derived.Test.YtiepobifbkleaaaGreatDoorKyA0
import Derived.Test.YtiepobifbkleaaaGreatDoorGCs
-- from XKyPI
/- Walks: the request that goes on for what is put, by the program. -/
namespace Go.Proofs.YtiepobifbkleaaaGreatDoor
open Go.RowKit Go.Maps

/-- A request and whether there is one, as results. -/
def HRet2 (B : Nat) (q : Hd × Bool) (e : Ending) (w' : World) : Prop := ∃ vr, e = .returned (.tuple #[headV q.1 vr, .bool q.2]) ∧ w'.ownsRow B 50 2 vr q.1.fs.length (fcells q.1.fs)
def RPut (B0 res : Nat) (q : Hd) (body : ByteArray) (E : List Value) (i : Nat) (v : Value) (W : World) : Prop :=
  match i with
  | 9 => ∃ bb, v = .func (.func 145) #[] #[.pointer (some ⟨bb, 0, none⟩)] ∧ B0 ≤ bb ∧ W.heap[bb]? = some (.cells #[.string body] 9 (0, 0))
  | 10 => ∃ c, v = .slice (some ⟨c, 0, none⟩) 1 1 ∧ B0 ≤ c ∧ ∃ bb, B0 ≤ bb ∧ W.heap[c]? = some (.cells #[.func (.func 145) #[] #[.pointer (some ⟨bb, 0, none⟩)]] 110 (0, 0)) ∧ W.heap[bb]? = some (.cells #[.string body] 9 (0, 0))
  | 11 => ∃ vr, v = headV q vr ∧ W.ownsRow B0 50 2 vr q.fs.length (fcells q.fs)
  | 12 => ∃ vr, W.heap[res]? = some (.cells #[.string q.verb, .string q.target, .string q.host, vr, .string q.body] 40 (0, 0)) ∧ W.ownsRow B0 50 2 vr q.fs.length (fcells q.fs)
  | i => v = E.getD i undef
theorem rput_stay {B0 res : Nat} {q : Hd} {body : ByteArray} {E : List Value} (hB : res < B0) {i j : Nat} {v : Value} {w w' : World} (hij : i ≠ j) (hR : RPut B0 res q body E i v w) (hle : LeK 12 (some res) j w w') : RPut B0 res q body E i v w' := by
  have kp : ∀ (b : Nat) (o : Obj), B0 ≤ b → w.heap[b]? = some o → w'.heap[b]? = some o := fun b o hb ho => by
    have hlt := (Array.getElem?_eq_some_iff.1 ho).1
    rcases lek_grown hle with h | h
    · exact (h.block b hlt (fun e => by cases e)).trans ho
    · exact (h.block b hlt (fun e => by cases e; omega)).trans ho
  have ko : ∀ (x : Value) (n : Nat) (xs : List Value), w.ownsRow B0 50 2 x n xs → w'.ownsRow B0 50 2 x n xs := fun x n xs ho => by
    rcases lek_grown hle with h | h
    · exact ho.kept h (by cases hx : x.ownBlock with
        | none => exact .inl rfl
        | some r => exact .inr (fun e => by cases e))
    · exact ho.kept h (by cases hx : x.ownBlock with
        | none => exact .inl rfl
        | some r => exact .inr (fun e => by have := (ho.lt r hx).1; cases e; omega))
  by_cases h9 : i = 9
  · subst h9
    obtain ⟨bb, h1, h2, h3⟩ := hR
    exact ⟨bb, h1, h2, kp _ _ h2 h3⟩
  by_cases h10 : i = 10
  · subst h10
    obtain ⟨c, h1, h2, bb, h3, h4, h5⟩ := hR
    exact ⟨c, h1, h2, bb, h3, kp _ _ h2 h4, kp _ _ h3 h5⟩
  by_cases h11 : i = 11
  · subst h11
    obtain ⟨vr, h1, h2⟩ := hR
    exact ⟨vr, h1, ko _ _ _ h2⟩
  by_cases h12 : i = 12
  · subst h12
    obtain ⟨vr, h1, h2⟩ := hR
    have hb := lek_not (Ne.symm hij) hle
    exact ⟨vr, heap_keep hb (Nat.le_refl _) _ _ h1, own_below h2 hb⟩
  have e : ∀ W, RPut B0 res q body E i v W = (v = E.getD i undef) := fun W => by
    unfold RPut
    split
    · exact absurd rfl h9
    · exact absurd rfl h10
    · exact absurd rfl h11
    · exact absurd rfl h12
    · rfl
  rw [e] at hR ⊢
  exact hR
theorem optAll_put (v t n b : ByteArray) : optAll ⟨v, t, n, [], ⟨#[]⟩⟩ [.body b] = ⟨v, t, n, [], b⟩ := rfl

set_option maxRecDepth 100000 in
set_option maxHeartbeats 6400000 in
theorem impl_putask (hs : List Hs) (v : Value) (h : Hd) (u : Value) (w : World) (hH : HRow w v hs) (hN : HOks hs 1048576) (hF : FRow w u h.fs) (hz : HdSz h) (hcls : Cls w) (htab : Tab w) :
    Calls Tryz.prog 34 #[.agg #[v], headV h u] w fun e w' => HRet2 w.heap.size (putAsk hs h) e w' ∧ Below w.heap.size w w' := by
  obtain ⟨hz3, hb3, hA0, hA1, hA2⟩ := box3_new w (.cells #[v] 25) (.cells #[.string h.verb, .string h.target, .string h.host, u, .string h.body] 40) (.cells #[.string ⟨#[]⟩, .string ⟨#[]⟩, .string ⟨#[]⟩, .slice none 0 0, .string ⟨#[]⟩] 40)
  obtain ⟨W3, hW3⟩ : ∃ W3, W3 = ((w.alloc (.cells #[v] 25)).alloc (.cells #[.string h.verb, .string h.target, .string h.host, u, .string h.body] 40)).alloc (.cells #[.string ⟨#[]⟩, .string ⟨#[]⟩, .string ⟨#[]⟩, .slice none 0 0, .string ⟨#[]⟩] 40) := ⟨_, rfl⟩
  rw [← hW3] at hz3 hb3 hA0 hA1 hA2
  have hR := impl_routed hs v h u ⟨#[112, 117, 116]⟩ W3 (hH.below (Nat.le_refl _) hb3) hN (hF.below (Nat.le_refl _) hb3) hz (hcls.below hb3 (Nat.le_refl _)) (htab.below hb3 (Nat.le_refl _))
  have HX : Hid (∀ W, Below W3.heap.size W3 W → Below w.heap.size w W ∧ W.heap[w.heap.size]? = some (.cells #[v] 25 (0, 0)) ∧ W.heap[w.heap.size + 1]? = some (.cells #[.string h.verb, .string h.target, .string h.host, u, .string h.body] 40 (0, 0)) ∧ W.heap[w.heap.size + 2]? = some (.cells #[.string ⟨#[]⟩, .string ⟨#[]⟩, .string ⟨#[]⟩, .slice none 0 0, .string ⟨#[]⟩] 40 (0, 0))) := Lib.hid fun W hW =>
    ⟨hb3.trans (hW.mono (by omega)), (hW.block _ (by omega)).trans hA0, (hW.block _ (by omega)).trans hA1, (hW.block _ (by omega)).trans hA2⟩
  have hb : (⟨#[112, 117, 116]⟩ : ByteArray).data.toList = bPut := rfl
  rw [hb] at hR
  have hno : askB hs h bPut = false → putAsk hs h = (noHd, false) := fun e => if_neg (by rw [e]; decide)
  have hyes : askB hs h bPut = true → putAsk hs h = (⟨sPut, h.target, name0 hs (routeI hs h.host), [], h.body⟩, true) := fun e => if_pos e
  have hr0 : askB hs h bPut = false → askR hs h bPut = 0 := fun e => if_neg (by rw [e]; decide)
  have hr1 : askB hs h bPut = true → askR hs h bPut = routeI hs h.host := fun e => if_pos e
  have hfst : askB hs h bPut = true → (0 ≤ routeI hs h.host ∧ routeI hs h.host < hs.length) ∧ ∃ x, hs[(routeI hs h.host).toNat]? = some x ∧ x.names[0]? = some (name0 hs (routeI hs h.host)) ∧ (name0 hs (routeI hs h.host)).size ≤ 1048576 := fun e => by
    obtain ⟨a1, _, _⟩ := get_iff.1 e
    obtain ⟨a2, a3⟩ := route_lt a1
    obtain ⟨x, b1, b2, b3, _⟩ := name0_at a2 a1 a3
    exact ⟨⟨a1, a3⟩, x, b1, b2, hN x (List.mem_of_getElem? b1) _ b3⟩
  have htz := hz.target; have hbz0 := hz.body
  obtain ⟨t0, _⟩ := one_fact hA0
  obtain ⟨t1, t2, t3, t4, t5, _⟩ := five_facts hA1
  obtain ⟨va, vc, rfl, _, _, hv3⟩ := hH
  obtain ⟨ua, uc, rfl, _⟩ := hF
  obtain ⟨hverb, target, host, fs, body⟩ := h
  unfold headV at hR
  dsimp only at *
  generalize name0 hs (routeI hs host) = nm at *
  generalize putAsk hs ⟨hverb, target, host, fs, body⟩ = Q at *
  generalize askR hs ⟨hverb, target, host, fs, body⟩ bPut = r at *
  generalize routeI hs host = r' at *
  rw [hW3] at t0 t1 t2 t3 t4 t5
  have HW := Lib.hid hW3
  have hbz : body.size ≤ 281474976710656 := by omega
  unfold headV
  cases hA : askB hs ⟨hverb, target, host, fs, body⟩ bPut with
  | false =>
    obtain rfl := hno hA
    obtain rfl := hr0 hA
    rw [hA] at hR
    unfold HRet2 noHd headV
    dsimp only
    clear hW3 hb3 hA0 hA1 hA2 hN hcls htab hz hb hno hyes hr0 hr1 hfst hv3 hA
    go_enter Tryz.func34, Tryz.ntmps34
    go_wp2_with fail
    rw [← HW.out]
    refine hR.mono ?_
    rintro e w1 ⟨rfl, hb1⟩
    obtain ⟨k1, _, _, k4⟩ := HX.out _ hb1
    have hz1 := hb1.size
    have z := five_set k4 (.string ⟨#[]⟩) (.string ⟨#[]⟩) (.string ⟨#[]⟩) (.slice none 0 0) (.string ⟨#[]⟩)
    have HB : Hid (Below w.heap.size w (set5 w1 (w.heap.size + 2) (.string ⟨#[]⟩) (.string ⟨#[]⟩) (.string ⟨#[]⟩) (.slice none 0 0) (.string ⟨#[]⟩))) := Lib.hid (k1.grown (grown_set5 _ _ _ _ _ _ _) k1.size (fun k hk => by cases hk; omega))
    unfold set5 at z HB
    obtain ⟨z0, z1, z2, z3, z4, _⟩ := five_facts z
    obtain ⟨_, _, _, _, _, f0, f1, f2, f3, f4⟩ := five_facts k4
    have HZ := Lib.hid (And.intro z0 (And.intro z1 (And.intro z2 (And.intro z3 z4))))
    clear hR hb1 t0 t1 t2 t3 t4 t5 k1 k4 z z0 z1 z2 z3 z4
    go_wp2_with fail
    obtain ⟨z0, z1, z2, z3, z4⟩ := HZ.out
    refine bodyPost_ret (v := .tuple #[.agg #[.string ⟨#[]⟩, .string ⟨#[]⟩, .string ⟨#[]⟩, .slice none 0 0, .string ⟨#[]⟩], .bool false]) (by simp [results, Tryz.results34, go_sem, z0, z1, z2, z3, z4]) rfl ?_
    exact ⟨⟨_, rfl, World.ownsRow_nil _ _ _ _⟩, HB.out⟩
  | true =>
    obtain rfl := hyes hA
    obtain rfl := hr1 hA
    obtain ⟨⟨h0, h1⟩, x, hx, hx0, hnm⟩ := hfst hA
    obtain ⟨j, rfl⟩ := Int.eq_ofNat_of_zero_le h0
    rw [Int.toNat_natCast] at hx
    obtain ⟨hb', ho, hu, hva, hblt, d0, dS, d1, d2, d3⟩ := hv3 j x hx
    subst hva
    rw [hA] at hR
    have HCell : Hid (∀ W, Below w.heap.size w W → W.cell? ⟨hb', ho + j * 4, none⟩ = some hu ∧ W.cell? ⟨hb', ho + j * 4 + 1, none⟩ = some (.int .i64 x.key) ∧ W.cell? ⟨hb', ho + j * 4 + 2, none⟩ = some (.int .i64 x.maxN) ∧ W.cell? ⟨hb', ho + j * 4 + 3, none⟩ = some (.int .i64 x.maxB) ∧ NRow W hu x.names) := Lib.hid fun W hW =>
      ⟨(hW.cell (p := ⟨hb', ho + j * 4, none⟩) hblt).trans d0, (hW.cell (p := ⟨hb', ho + j * 4 + 1, none⟩) hblt).trans d1, (hW.cell (p := ⟨hb', ho + j * 4 + 2, none⟩) hblt).trans d2, (hW.cell (p := ⟨hb', ho + j * 4 + 3, none⟩) hblt).trans d3, dS.below (Nat.le_refl _) hW⟩
    have HFw : Hid (∀ ov W, Below w.heap.size w W → ORow W ov [.body body] → Calls Tryz.prog 82 #[.agg #[hu, .int .i64 x.key, .int .i64 x.maxN, .int .i64 x.maxB], .string ⟨#[112, 117, 116]⟩, .string target, ov] W fun e w' => HRet W.heap.size ⟨sPut, target, nm, [], body⟩ e w' ∧ Below W.heap.size W w') := Lib.hid fun ov W hW hov => by
      have := impl_forwarded hu x.key x.maxN x.maxB x.names nm sPut target ov _ W (HCell.out _ hW).2.2.2.2 hx0 hov (by simp) (by omega) (by omega)
      rw [optAll_put] at this
      exact this
    unfold HRet2 headV
    dsimp only
    clear hW3 hb3 hA0 hA1 hA2 hN hcls htab hz hb hno hyes hr0 hr1 hfst hv3 hA hx hx0 d0 d1 d2 d3 dS
    go_enter Tryz.func34, Tryz.ntmps34
    go_wp2_with fail
    rw [← HW.out]
    refine hR.mono ?_
    rintro e w1 ⟨rfl, hb1⟩
    obtain ⟨k1, k2, k3, k4⟩ := HX.out _ hb1
    have hz1 := hb1.size
    have HCT : Hid (CTell w (w.heap.size) (w.heap.size + 1) (.cells #[.slice (some ⟨hb', ho, none⟩) hs.length vc] 25 (0, 0)) (.cells #[.string hverb, .string target, .string host, .slice ua fs.length uc, .string body] 40 (0, 0)) (w.heap.size + 2) #[.string ⟨#[]⟩, .string ⟨#[]⟩, .string ⟨#[]⟩, .slice none 0 0, .string ⟨#[]⟩] 40 12 (fun _ => False) w1) := Lib.hid ⟨k1, k2, k3, fun _ => k4, by omega⟩
    clear hR hb1 t0 t1 t2 t3 t4 t5 k1 k2 k3 k4
    go_wp2_with fail
    refine wp_region_lastL (by kernel_rfl) 13 (by kernel_rfl) (by kernel_rfl) (by kernel_rfl)
      (fun z => { tmps := #[.agg #[.slice (some ⟨hb', ho, none⟩) hs.length vc], .agg #[.string hverb, .string target, .string host, .slice ua fs.length uc, .string body], .pointer (some ⟨w.heap.size, 0, none⟩), .pointer (some ⟨w.heap.size + 1, 0, none⟩), .pointer (some ⟨w.heap.size + 2, 0, none⟩), .bool false, .int .i64 (j : Int), .bool true, .tuple #[.int .i64 (j : Int), .bool true], .agg #[.slice (some ⟨hb', ho, none⟩) hs.length vc], .agg #[.string hverb, .string target, .string host, .slice ua fs.length uc, .string body], .tuple #[.int .i64 (j : Int), .bool true], .int .i64 (j : Int), .bool true, .bool true, .bool false, undef, z 0, z 1, z 2, z 3, z 4, z 5, z 6, z 7, z 8, z 9, z 10, z 11], defers := [] })
      (fun L _ W => CTell w (w.heap.size) (w.heap.size + 1) (.cells #[.slice (some ⟨hb', ho, none⟩) hs.length vc] 25 (0, 0)) (.cells #[.string hverb, .string target, .string host, .slice ua fs.length uc, .string body] 40 (0, 0)) (w.heap.size + 2) #[.string ⟨#[]⟩, .string ⟨#[]⟩, .string ⟨#[]⟩, .slice none 0 0, .string ⟨#[]⟩] 40 12 L W)
      (RPut (w.heap.size + 3) (w.heap.size + 2) ⟨sPut, target, nm, [], body⟩ body [.pointer (some ⟨w.heap.size, 0, none⟩), .slice (some ⟨hb', ho, none⟩) hs.length vc, .int .i64 (j : Int), .pointer (some ⟨hb', ho + j * 4, none⟩), .agg #[hu, .int .i64 x.key, .int .i64 x.maxN, .int .i64 x.maxB], .pointer (some ⟨w.heap.size + 1, 1, none⟩), .string target, .pointer (some ⟨w.heap.size + 1, 4, none⟩), .string body])
      (LeK 12 (some (w.heap.size + 2))) (fun _ => undef) HCT.out.drew
      (fun i j v' w1 w2 _ _ hij hR hle => rput_stay (by omega) hij hR hle) ?_ ?_
    · intro i hi2 L z W k hk hL hC hd
      match i, hi2 with
        | 0, _ =>
          refine wpOp_step rfl (fun K hK => ?_)
          clear hd
          go_simp
          exact hK _ _ ⟨_, rfl, rfl, lek_mk (by decide) (Below.refl _ _), hC.same⟩
        | 1, _ =>
          have e0 : z 0 = .pointer (some ⟨w.heap.size, 0, none⟩) := hd 0 (dep_of (by kernel_rfl))
          obtain ⟨y0, _⟩ := one_fact hC.c0
          refine wpOp_step rfl (fun K hK => ?_)
          clear hd
          go_simp
          exact hK _ _ ⟨_, by simp [upd, e0], rfl, lek_mk (by decide) (Below.refl _ _), hC.same⟩
        | 2, _ =>
          refine wpOp_step rfl (fun K hK => ?_)
          clear hd
          go_simp
          exact hK _ _ ⟨_, rfl, rfl, lek_mk (by decide) (Below.refl _ _), hC.same⟩
        | 3, _ =>
          have e1 : z 1 = .slice (some ⟨hb', ho, none⟩) hs.length vc := hd 1 (dep_of (by kernel_rfl))
          have e2 : z 2 = .int .i64 (j : Int) := hd 2 (dep_of (by kernel_rfl))
          refine wpOp_step rfl (fun K hK => ?_)
          clear hd
          go_simp
          exact hK _ _ ⟨_, by simp [upd, e1, e2], rfl, lek_mk (by decide) (Below.refl _ _), hC.same⟩
        | 4, _ =>
          have e3 : z 3 = .pointer (some ⟨hb', ho + j * 4, none⟩) := hd 3 (dep_of (by kernel_rfl))
          obtain ⟨y0, y1, y2, y3, _⟩ := HCell.out _ hC.bel
          refine wpOp_step rfl (fun K hK => ?_)
          clear hd
          go_simp
          exact hK _ _ ⟨_, by simp [upd, e3], rfl, lek_mk (by decide) (Below.refl _ _), hC.same⟩
        | 5, _ =>
          refine wpOp_step rfl (fun K hK => ?_)
          clear hd
          go_simp
          exact hK _ _ ⟨_, rfl, rfl, lek_mk (by decide) (Below.refl _ _), hC.same⟩
        | 6, _ =>
          have e5 : z 5 = .pointer (some ⟨w.heap.size + 1, 1, none⟩) := hd 5 (dep_of (by kernel_rfl))
          obtain ⟨_, y1, _⟩ := five_facts hC.c1
          refine wpOp_step rfl (fun K hK => ?_)
          clear hd
          go_simp
          exact hK _ _ ⟨_, by simp [upd, e5], rfl, lek_mk (by decide) (Below.refl _ _), hC.same⟩
        | 7, _ =>
          refine wpOp_step rfl (fun K hK => ?_)
          clear hd
          go_simp
          exact hK _ _ ⟨_, rfl, rfl, lek_mk (by decide) (Below.refl _ _), hC.same⟩
        | 8, _ =>
          have e7 : z 7 = .pointer (some ⟨w.heap.size + 1, 4, none⟩) := hd 7 (dep_of (by kernel_rfl))
          obtain ⟨_, _, _, _, y4, _⟩ := five_facts hC.c1
          refine wpOp_step rfl (fun K hK => ?_)
          clear hd
          go_simp
          exact hK _ _ ⟨_, by simp [upd, e7], rfl, lek_mk (by decide) (Below.refl _ _), hC.same⟩
        | 9, _ =>
          have e8 : z 8 = .string body := hd 8 (dep_of (by kernel_rfl))
          have hlt := hC.lt
          have hbx : Below W.heap.size W (W.alloc (.cells #[.string body] 9)) := (Below.refl _ _).alloc (Nat.le_refl _) _
          refine wpOp_step rfl (fun K hK => ?_)
          clear hd
          go_simp
          refine (with_body _ _).mono ?_
          rintro e w5 ⟨rfl, rfl⟩
          exact hK _ _ ⟨_, by simp [upd, e8], ⟨_, rfl, by omega, heap_alloc_new W _⟩, lek_mk (by decide) hbx, hC.keep hbx⟩
        | 10, _ =>
          obtain ⟨bb, e9, hbb, hbc⟩ := hd 9 (dep_of (by kernel_rfl))
          have hlt := hC.lt
          have hbx : ∀ o, Below W.heap.size W (W.alloc o) := fun o => (Below.refl _ _).alloc (Nat.le_refl _) _
          refine wpOp_step rfl (fun K hK => ?_)
          clear hd
          go_simp
          exact hK _ _ ⟨_, by simp [upd, e9], ⟨_, rfl, by omega, bb, hbb, heap_alloc_new W _, heap_keep (hbx _) (Nat.le_refl _) _ _ hbc⟩, lek_mk (by decide) (hbx _), hC.keep (hbx _)⟩
        | 11, _ =>
          have e4 : z 4 = .agg #[hu, .int .i64 x.key, .int .i64 x.maxN, .int .i64 x.maxB] := hd 4 (dep_of (by kernel_rfl))
          have e6 : z 6 = .string target := hd 6 (dep_of (by kernel_rfl))
          obtain ⟨c, e10, hcb, bb, hbb, hcc, hbc⟩ := hd 10 (dep_of (by kernel_rfl))
          have hlt := hC.lt
          have hfw := HFw.out _ W hC.bel (orow_one hcc ⟨_, rfl, hbc, hbz⟩)
          refine wpOp_step rfl (fun K hK => ?_)
          clear hd
          go_simp
          refine hfw.mono ?_
          rintro e w5 ⟨⟨vr, rfl, ho5⟩, hb5⟩
          exact hK _ _ ⟨_, by simp [upd, e4, e6, e10], ⟨vr, rfl, own_base ho5 (by omega)⟩, lek_mk (by decide) hb5, hC.keep hb5⟩
        | 12, _ =>
          obtain ⟨vr, e11, ho11⟩ := hd 11 (dep_of (by kernel_rfl))
          unfold headV at e11
          dsimp only at e11 ho11
          have hc := hC.cell hL
          obtain ⟨a8, c8, hv8⟩ := own_len2 ho11
          subst hv8
          obtain ⟨y0, y1, y2, y3, y4, f0, f1, f2, f3, f4⟩ := five_facts hc
          have hlt1 : w.heap.size + 2 < w.heap.size + 3 := by omega
          have ho12 := own_setk (own_setk (own_setk (own_setk (own_setk ho11 hlt1 (k := 0) (.string sPut)) hlt1 (k := 1) (.string target)) hlt1 (k := 2) (.string nm)) hlt1 (k := 3) (.slice a8 ([] : List Fd).length c8)) hlt1 (k := 4) (.string body)
          refine wpOp_step rfl (fun K hK => ?_)
          clear hd
          go_simp
          exact hK _ _ ⟨undef, by simp [upd, e11], ⟨_, five_set hc _ _ _ _ _, ho12⟩, lek_at (grown_set5 _ _ _ _ _ _ _), hC.tell (grown_set5 _ _ _ _ _ _ _) (by omega) (by omega) (by omega)⟩
    · intro L z W k hk hC hd
      obtain ⟨vr, hc, ho⟩ := hd 12 (by decide)
      dsimp only at hc ho
      obtain ⟨a8, c8, hv8⟩ := own_len2 ho
      subst hv8
      obtain ⟨z0, z1, z2, z3, z4, _⟩ := five_facts hc
      have HB := Lib.hid (And.intro hC.bel (own_base ho (show w.heap.size ≤ w.heap.size + 3 by omega)))
      unfold sPut at z0
      clear hC hd hc ho
      refine wpOp_step rfl (fun K hK => ?_)
      go_simp
      refine hK _ _ ?_
      clear hK K
      go_wp2_with fail
      refine bodyPost_ret (v := .tuple #[.agg #[.string ⟨#[112, 117, 116]⟩, .string target, .string nm, .slice a8 ([] : List Fd).length c8, .string body], .bool true]) (by simp [results, Tryz.results34, go_sem, z0, z1, z2, z3, z4]) rfl ?_
      exact ⟨⟨_, rfl, HB.out.2⟩, HB.out.1⟩
end Go.Proofs.YtiepobifbkleaaaGreatDoor

-- from XKyPS
/- Walks: the request that goes on for what is put, by the specification. -/
namespace Go.Proofs.YtiepobifbkleaaaGreatDoor
open Go.RowKit Go.Maps

set_option maxRecDepth 100000 in
set_option maxHeartbeats 6400000 in
theorem spec_putask (hs : List Hs) (v : Value) (h : Hd) (u : Value) (w : World) (hH : HRow w v hs) (hN : HOks hs 1048576) (hF : FRow w u h.fs) (hz : HdSz h) :
    Calls Tryz.prog 35 #[.agg #[v], headV h u] w fun e w' => HRet2 w.heap.size (putAsk hs h) e w' ∧ Below w.heap.size w w' := by
  obtain ⟨hz3, hb3, hA0, hA1, hA2⟩ := box3_new w (.cells #[v] 25) (.cells #[.string h.verb, .string h.target, .string h.host, u, .string h.body] 40) (.cells #[.string ⟨#[]⟩, .string ⟨#[]⟩, .string ⟨#[]⟩, .slice none 0 0, .string ⟨#[]⟩] 40)
  obtain ⟨W3, hW3⟩ : ∃ W3, W3 = ((w.alloc (.cells #[v] 25)).alloc (.cells #[.string h.verb, .string h.target, .string h.host, u, .string h.body] 40)).alloc (.cells #[.string ⟨#[]⟩, .string ⟨#[]⟩, .string ⟨#[]⟩, .slice none 0 0, .string ⟨#[]⟩] 40) := ⟨_, rfl⟩
  rw [← hW3] at hz3 hb3 hA0 hA1 hA2
  have HX : Hid (∀ W, Below W3.heap.size W3 W → Below w.heap.size w W ∧ W.heap[w.heap.size]? = some (.cells #[v] 25 (0, 0)) ∧ W.heap[w.heap.size + 1]? = some (.cells #[.string h.verb, .string h.target, .string h.host, u, .string h.body] 40 (0, 0)) ∧ W.heap[w.heap.size + 2]? = some (.cells #[.string ⟨#[]⟩, .string ⟨#[]⟩, .string ⟨#[]⟩, .slice none 0 0, .string ⟨#[]⟩] 40 (0, 0))) := Lib.hid fun W hW =>
    ⟨hb3.trans (hW.mono (by omega)), (hW.block _ (by omega)).trans hA0, (hW.block _ (by omega)).trans hA1, (hW.block _ (by omega)).trans hA2⟩
  have HR : Hid (∀ W, Below W3.heap.size W3 W → Calls Tryz.prog 63 #[.agg #[v]] W (fun e w' => e = .returned (.bool (cfgB hs)) ∧ Below W.heap.size W w') ∧
      Calls Tryz.prog 37 #[.agg #[.string h.verb, .string h.target, .string h.host, u, .string h.body]] W (fun e w' => e = .returned (.bool (hedB h)) ∧ Below W.heap.size W w') ∧
      Calls Tryz.prog 69 #[.agg #[v], .string h.host] W (fun e w' => e = .returned (.int .i64 (routeI hs h.host)) ∧ Below W.heap.size W w')) := Lib.hid fun W hW => by
    have hb := hb3.trans (hW.mono (by omega))
    have hH' := hH.below (Nat.le_refl _) hb
    exact ⟨spec_cfgok hs v W hH' hN, spec_hedok h u W (hF.below (Nat.le_refl _) hb) hz.len (fun f hf => ⟨by have := (hz.fs f hf).1; omega, by have := (hz.fs f hf).2; omega⟩) (by have := hz.verb; omega) (by have := hz.target; omega) (by have := hz.host; omega) (by have := hz.body; omega), spec_route hs v h.host W hH' hN⟩
  have hno : cfgB hs = false ∨ hedB h = false ∨ h.verb.data.toList ≠ bPut ∨ routeI hs h.host < 0 → putAsk hs h = (noHd, false) := fun e => by
    unfold putAsk
    rw [if_neg]
    intro ha
    obtain ⟨a1, a2, a3⟩ := get_iff.1 ha
    rcases e with e | e | e | e
    · rw [route_no e] at a1; exact absurd a1 (by decide)
    · rw [e] at a3; cases a3
    · exact e a2
    · omega
  have hyes : hedB h = true → h.verb.data.toList = bPut → 0 ≤ routeI hs h.host → putAsk hs h = (⟨sPut, h.target, name0 hs (routeI hs h.host), [], h.body⟩, true) ∧ (routeI hs h.host < hs.length ∧ ∃ x, hs[(routeI hs h.host).toNat]? = some x ∧ x.names[0]? = some (name0 hs (routeI hs h.host))) := fun a b c => by
    obtain ⟨a2, a3⟩ := route_lt c
    obtain ⟨x, b1, b2, _, _⟩ := name0_at a2 c a3
    exact ⟨if_pos (get_iff.2 ⟨c, b, a⟩), a3, x, b1, b2⟩
  obtain ⟨t0, _⟩ := one_fact hA0
  obtain ⟨t1, t2, t3, t4, t5, _⟩ := five_facts hA1
  obtain ⟨va, vc, rfl, hcp, hmx, hv3⟩ := hH
  unfold maxLen at hmx
  obtain ⟨ua, uc, rfl, _⟩ := hF
  obtain ⟨hverb, target, host, fs, body⟩ := h
  unfold headV
  dsimp only at *
  generalize name0 hs (routeI hs host) = nm at *
  generalize putAsk hs ⟨hverb, target, host, fs, body⟩ = Q at *
  generalize cfgB hs = R1 at *
  generalize hedB ⟨hverb, target, host, fs, body⟩ = R2 at *
  generalize routeI hs host = r at *
  have hc0 := (HR.out _ (Below.refl _ _)).1
  rw [hW3] at t0 t1 t2 t3 t4 t5 hc0
  have HW := Lib.hid hW3
  have HNo := Lib.hid hno; have HYes := Lib.hid hyes; have HV3 := Lib.hid hv3
  clear hW3 hb3 hA0 hA1 hA2 hN hz hno hyes hv3
  unfold HRet2 headV
  go_enter Tryz.func35, Tryz.ntmps35
  go_wp2_with fail
  refine hc0.mono ?_
  rintro e w1 ⟨rfl, hb1⟩
  rw [← HW.out] at hb1
  obtain ⟨k1, k2, k3, k4⟩ := HX.out _ hb1
  have hz1 := hb1.size
  have HB1 := Lib.hid hb1
  clear hc0 hb1 t0 t1 t2 t3 t4 t5
  cases R1
  · obtain rfl := HNo.out (.inl rfl)
    have z := five_set k4 (.string ⟨#[]⟩) (.string ⟨#[]⟩) (.string ⟨#[]⟩) (.slice none 0 0) (.string ⟨#[]⟩)
    have HB : Hid (Below w.heap.size w (set5 w1 (w.heap.size + 2) (.string ⟨#[]⟩) (.string ⟨#[]⟩) (.string ⟨#[]⟩) (.slice none 0 0) (.string ⟨#[]⟩))) := Lib.hid (k1.grown (grown_set5 _ _ _ _ _ _ _) k1.size (fun k hk => by cases hk; omega))
    unfold set5 at z HB
    obtain ⟨z0, z1, z2, z3, z4, _⟩ := five_facts z
    obtain ⟨_, _, _, _, _, f0, f1, f2, f3, f4⟩ := five_facts k4
    have HZ := Lib.hid (And.intro z0 (And.intro z1 (And.intro z2 (And.intro z3 z4))))
    clear k1 k2 k3 k4 z z0 z1 z2 z3 z4
    go_wp2_with fail
    obtain ⟨z0, z1, z2, z3, z4⟩ := HZ.out
    refine bodyPost_ret (v := .tuple #[.agg #[.string ⟨#[]⟩, .string ⟨#[]⟩, .string ⟨#[]⟩, .slice none 0 0, .string ⟨#[]⟩], .bool false]) (by simp [results, Tryz.results35, go_sem, z0, z1, z2, z3, z4]) rfl ?_
    exact ⟨⟨_, rfl, World.ownsRow_nil _ _ _ _⟩, HB.out⟩
  obtain ⟨t0, _⟩ := one_fact k2
  obtain ⟨t1, t2, t3, t4, t5, _⟩ := five_facts k3
  have hc := (HR.out _ HB1.out).2.1
  clear k1 k2 k3 k4
  go_wp2_with fail
  refine hc.mono ?_
  rintro e w2 ⟨rfl, hb2⟩
  have HB2 := Lib.hid (HB1.out.trans (hb2.mono hz1))
  obtain ⟨k1, k2, k3, k4⟩ := HX.out _ HB2.out
  have hz2 := HB2.out.size
  clear hc hb2 t0 t1 t2 t3 t4 t5
  cases R2
  · obtain rfl := HNo.out (.inr (.inl rfl))
    have z := five_set k4 (.string ⟨#[]⟩) (.string ⟨#[]⟩) (.string ⟨#[]⟩) (.slice none 0 0) (.string ⟨#[]⟩)
    have HB : Hid (Below w.heap.size w (set5 w2 (w.heap.size + 2) (.string ⟨#[]⟩) (.string ⟨#[]⟩) (.string ⟨#[]⟩) (.slice none 0 0) (.string ⟨#[]⟩))) := Lib.hid (k1.grown (grown_set5 _ _ _ _ _ _ _) k1.size (fun k hk => by cases hk; omega))
    unfold set5 at z HB
    obtain ⟨z0, z1, z2, z3, z4, _⟩ := five_facts z
    obtain ⟨_, _, _, _, _, f0, f1, f2, f3, f4⟩ := five_facts k4
    have HZ := Lib.hid (And.intro z0 (And.intro z1 (And.intro z2 (And.intro z3 z4))))
    clear k1 k2 k3 k4 z z0 z1 z2 z3 z4
    go_wp2_with fail
    obtain ⟨z0, z1, z2, z3, z4⟩ := HZ.out
    refine bodyPost_ret (v := .tuple #[.agg #[.string ⟨#[]⟩, .string ⟨#[]⟩, .string ⟨#[]⟩, .slice none 0 0, .string ⟨#[]⟩], .bool false]) (by simp [results, Tryz.results35, go_sem, z0, z1, z2, z3, z4]) rfl ?_
    exact ⟨⟨_, rfl, World.ownsRow_nil _ _ _ _⟩, HB.out⟩
  obtain ⟨t0, _⟩ := one_fact k2
  obtain ⟨t1, t2, t3, t4, t5, _⟩ := five_facts k3
  by_cases cv : ¬ hverb.data.toList = bPut
  · obtain rfl := HNo.out (.inr (.inr (.inl cv)))
    have b0 : (hverb.toList == [112, 117, 116]) = false := by rw [Lib.toList_data]; exact beq_eq_false_iff_ne.2 cv
    clear cv
    have z := five_set k4 (.string ⟨#[]⟩) (.string ⟨#[]⟩) (.string ⟨#[]⟩) (.slice none 0 0) (.string ⟨#[]⟩)
    have HB : Hid (Below w.heap.size w (set5 w2 (w.heap.size + 2) (.string ⟨#[]⟩) (.string ⟨#[]⟩) (.string ⟨#[]⟩) (.slice none 0 0) (.string ⟨#[]⟩))) := Lib.hid (k1.grown (grown_set5 _ _ _ _ _ _ _) k1.size (fun k hk => by cases hk; omega))
    unfold set5 at z HB
    obtain ⟨z0, z1, z2, z3, z4, _⟩ := five_facts z
    obtain ⟨_, _, _, _, _, f0, f1, f2, f3, f4⟩ := five_facts k4
    have HZ := Lib.hid (And.intro z0 (And.intro z1 (And.intro z2 (And.intro z3 z4))))
    clear k1 k2 k3 k4 z z0 z1 z2 z3 z4
    go_wp2_with fail
    obtain ⟨z0, z1, z2, z3, z4⟩ := HZ.out
    refine bodyPost_ret (v := .tuple #[.agg #[.string ⟨#[]⟩, .string ⟨#[]⟩, .string ⟨#[]⟩, .slice none 0 0, .string ⟨#[]⟩], .bool false]) (by simp [results, Tryz.results35, go_sem, z0, z1, z2, z3, z4]) rfl ?_
    exact ⟨⟨_, rfl, World.ownsRow_nil _ _ _ _⟩, HB.out⟩
  have cv := Classical.not_not.1 cv
  have b0 : (hverb.toList == [112, 117, 116]) = true := by rw [Lib.toList_data, cv]; rfl
  have HV := Lib.hid cv
  have hc := (HR.out _ HB2.out).2.2
  clear k1 k2 k3 k4 cv
  go_wp2_with fail
  refine hc.mono ?_
  rintro e w3 ⟨rfl, hb3⟩
  have HB3 := Lib.hid (HB2.out.trans (hb3.mono hz2))
  obtain ⟨k1, k2, k3, k4⟩ := HX.out _ HB3.out
  have hz3 := HB3.out.size
  clear hc hb3 t0 t1 t2 t3 t4 t5
  by_cases c1 : r < 0
  · obtain rfl := HNo.out (.inr (.inr (.inr c1)))
    have z := five_set k4 (.string ⟨#[]⟩) (.string ⟨#[]⟩) (.string ⟨#[]⟩) (.slice none 0 0) (.string ⟨#[]⟩)
    have HB : Hid (Below w.heap.size w (set5 w3 (w.heap.size + 2) (.string ⟨#[]⟩) (.string ⟨#[]⟩) (.string ⟨#[]⟩) (.slice none 0 0) (.string ⟨#[]⟩))) := Lib.hid (k1.grown (grown_set5 _ _ _ _ _ _ _) k1.size (fun k hk => by cases hk; omega))
    unfold set5 at z HB
    obtain ⟨z0, z1, z2, z3, z4, _⟩ := five_facts z
    obtain ⟨_, _, _, _, _, f0, f1, f2, f3, f4⟩ := five_facts k4
    have HZ := Lib.hid (And.intro z0 (And.intro z1 (And.intro z2 (And.intro z3 z4))))
    clear k1 k2 k3 k4 z z0 z1 z2 z3 z4
    go_wp2_with fail
    obtain ⟨z0, z1, z2, z3, z4⟩ := HZ.out
    refine bodyPost_ret (v := .tuple #[.agg #[.string ⟨#[]⟩, .string ⟨#[]⟩, .string ⟨#[]⟩, .slice none 0 0, .string ⟨#[]⟩], .bool false]) (by simp [results, Tryz.results35, go_sem, z0, z1, z2, z3, z4]) rfl ?_
    exact ⟨⟨_, rfl, World.ownsRow_nil _ _ _ _⟩, HB.out⟩
  · obtain ⟨hq, h1, x, hx, hx0⟩ := HYes.out (by first | rfl | trivial) HV.out (by omega)
    subst hq
    obtain ⟨j, rfl⟩ := Int.eq_ofNat_of_zero_le (by omega : 0 ≤ r)
    rw [Int.toNat_natCast] at hx
    obtain ⟨hb, ho, hu, hva, hblt, d0, dS, d1, d2, d3⟩ := HV3.out j x hx
    subst hva
    have hn0 : 0 < x.names.length := (List.getElem?_eq_some_iff.1 hx0).1
    obtain ⟨na, nc, rfl, hnc1, hnc2, hnn⟩ := dS
    obtain ⟨nb, no, rfl, hnb, hcn⟩ := hnn 0 nm hx0
    have HCell : Hid (∀ W, Below w.heap.size w W → W.cell? ⟨hb, ho + j * 4, none⟩ = some (.slice (some ⟨nb, no, none⟩) x.names.length nc) ∧ W.cell? ⟨nb, no, none⟩ = some (.string nm) ∧ True ∧ True) := Lib.hid fun W hW =>
      ⟨(hW.cell (p := ⟨hb, ho + j * 4, none⟩) hblt).trans d0, (hW.cell (p := ⟨nb, no, none⟩) hnb).trans hcn, trivial, trivial⟩
    have HC : Hid (CTell w (w.heap.size) (w.heap.size + 1) (.cells #[.slice (some ⟨hb, ho, none⟩) hs.length vc] 25 (0, 0)) (.cells #[.string hverb, .string target, .string host, .slice ua fs.length uc, .string body] 40 (0, 0)) (w.heap.size + 2) #[.string ⟨#[]⟩, .string ⟨#[]⟩, .string ⟨#[]⟩, .slice none 0 0, .string ⟨#[]⟩] 40 13 (fun _ => False) w3) := Lib.hid ⟨k1, k2, k3, fun _ => k4, by omega⟩
    clear k1 k2 k3 k4 hx hx0 d0 d1 d2 d3 hnn hcn
    have i0 : (0 : Int) < (x.names.length : Int) := by omega
    go_wp2_with fail
    refine wp_region_lastL (by kernel_rfl) 14 (by kernel_rfl) (by kernel_rfl) (by kernel_rfl)
      (fun z => { tmps := #[.agg #[.slice (some ⟨hb, ho, none⟩) hs.length vc], .agg #[.string hverb, .string target, .string host, .slice ua fs.length uc, .string body], .pointer (some ⟨w.heap.size, 0, none⟩), .pointer (some ⟨w.heap.size + 1, 0, none⟩), .pointer (some ⟨w.heap.size + 2, 0, none⟩), .bool false, .int .i64 (j : Int), .agg #[.slice (some ⟨hb, ho, none⟩) hs.length vc], .bool true, .bool false, .bool false, .agg #[.string hverb, .string target, .string host, .slice ua fs.length uc, .string body], .bool true, .bool false, .bool false, .bool false, .pointer (some ⟨w.heap.size + 1, 0, none⟩), .string hverb, .bool false, .bool false, undef, .agg #[.slice (some ⟨hb, ho, none⟩) hs.length vc], .pointer (some ⟨w.heap.size + 1, 2, none⟩), .string host, .int .i64 (j : Int), .int .i64 (j : Int), .bool false, undef, z 0, z 1, z 2, z 3, z 4, z 5, z 6, z 7, z 8, z 9, z 10, z 11, z 12], defers := [] })
      (fun L _ W => CTell w (w.heap.size) (w.heap.size + 1) (.cells #[.slice (some ⟨hb, ho, none⟩) hs.length vc] 25 (0, 0)) (.cells #[.string hverb, .string target, .string host, .slice ua fs.length uc, .string body] 40 (0, 0)) (w.heap.size + 2) #[.string ⟨#[]⟩, .string ⟨#[]⟩, .string ⟨#[]⟩, .slice none 0 0, .string ⟨#[]⟩] 40 13 L W)
      (RTell (w.heap.size + 2) #[.string ⟨#[112, 117, 116]⟩, .string target, .string nm, .slice none 0 0, .string body] 40 13 [.pointer (some ⟨w.heap.size + 1, 1, none⟩), .string target, .pointer (some ⟨w.heap.size, 0, none⟩), .slice (some ⟨hb, ho, none⟩) hs.length vc, .int .i64 (j : Int), .pointer (some ⟨hb, ho + j * 4, none⟩), .pointer (some ⟨hb, ho + j * 4, none⟩), .slice (some ⟨nb, no, none⟩) x.names.length nc, .pointer (some ⟨nb, no, none⟩), .string nm, .pointer (some ⟨w.heap.size + 1, 4, none⟩), .string body, .agg #[.string ⟨#[112, 117, 116]⟩, .string target, .string nm, .slice none 0 0, .string body], undef])
      (LeK 13 (some (w.heap.size + 2))) (fun _ => undef) HC.out.drew
      (fun i j v' w1 w2 _ _ hij hR hle => rtell_stay hij hR hle) ?_ ?_
    · intro i hi2 L z W k hk hL hC hd
      match i, hi2 with
        | 0, _ =>
          refine wpOp_step rfl (fun K hK => ?_)
          clear hd
          go_simp
          exact hK _ _ ⟨_, rfl, (rtell_eq (by decide)).2 rfl, lek_mk (by decide) (Below.refl _ _), hC.same⟩
        | 1, _ =>
          have e0 : z 0 = .pointer (some ⟨w.heap.size + 1, 1, none⟩) := (rtell_eq (by decide)).1 (hd 0 (dep_of (by kernel_rfl)))
          obtain ⟨_, y1, _, _, y4, _⟩ := five_facts hC.c1
          refine wpOp_step rfl (fun K hK => ?_)
          clear hd
          go_simp
          exact hK _ _ ⟨_, by simp [upd, e0], (rtell_eq (by decide)).2 rfl, lek_mk (by decide) (Below.refl _ _), hC.same⟩
        | 2, _ =>
          refine wpOp_step rfl (fun K hK => ?_)
          clear hd
          go_simp
          exact hK _ _ ⟨_, rfl, (rtell_eq (by decide)).2 rfl, lek_mk (by decide) (Below.refl _ _), hC.same⟩
        | 3, _ =>
          have e2 : z 2 = .pointer (some ⟨w.heap.size, 0, none⟩) := (rtell_eq (by decide)).1 (hd 2 (dep_of (by kernel_rfl)))
          obtain ⟨y0, _⟩ := one_fact hC.c0
          refine wpOp_step rfl (fun K hK => ?_)
          clear hd
          go_simp
          exact hK _ _ ⟨_, by simp [upd, e2], (rtell_eq (by decide)).2 rfl, lek_mk (by decide) (Below.refl _ _), hC.same⟩
        | 4, _ =>
          refine wpOp_step rfl (fun K hK => ?_)
          clear hd
          go_simp
          exact hK _ _ ⟨_, rfl, (rtell_eq (by decide)).2 rfl, lek_mk (by decide) (Below.refl _ _), hC.same⟩
        | 5, _ =>
          have e3 : z 3 = .slice (some ⟨hb, ho, none⟩) hs.length vc := (rtell_eq (by decide)).1 (hd 3 (dep_of (by kernel_rfl)))
          have e4 : z 4 = .int .i64 (j : Int) := (rtell_eq (by decide)).1 (hd 4 (dep_of (by kernel_rfl)))
          refine wpOp_step rfl (fun K hK => ?_)
          clear hd
          go_simp
          exact hK _ _ ⟨_, by simp [upd, e3, e4], (rtell_eq (by decide)).2 rfl, lek_mk (by decide) (Below.refl _ _), hC.same⟩
        | 6, _ =>
          have e5 : z 5 = .pointer (some ⟨hb, ho + j * 4, none⟩) := (rtell_eq (by decide)).1 (hd 5 (dep_of (by kernel_rfl)))
          refine wpOp_step rfl (fun K hK => ?_)
          clear hd
          go_simp
          exact hK _ _ ⟨_, by simp [upd, e5], (rtell_eq (by decide)).2 rfl, lek_mk (by decide) (Below.refl _ _), hC.same⟩
        | 7, _ =>
          have e6 : z 6 = .pointer (some ⟨hb, ho + j * 4, none⟩) := (rtell_eq (by decide)).1 (hd 6 (dep_of (by kernel_rfl)))
          obtain ⟨y0, y5, _, _⟩ := HCell.out _ hC.bel
          refine wpOp_step rfl (fun K hK => ?_)
          clear hd
          go_simp
          exact hK _ _ ⟨_, by simp [upd, e6], (rtell_eq (by decide)).2 rfl, lek_mk (by decide) (Below.refl _ _), hC.same⟩
        | 8, _ =>
          have e7 : z 7 = .slice (some ⟨nb, no, none⟩) x.names.length nc := (rtell_eq (by decide)).1 (hd 7 (dep_of (by kernel_rfl)))
          refine wpOp_step rfl (fun K hK => ?_)
          clear hd
          go_simp
          exact hK _ _ ⟨_, by simp [upd, e7], (rtell_eq (by decide)).2 rfl, lek_mk (by decide) (Below.refl _ _), hC.same⟩
        | 9, _ =>
          have e8 : z 8 = .pointer (some ⟨nb, no, none⟩) := (rtell_eq (by decide)).1 (hd 8 (dep_of (by kernel_rfl)))
          obtain ⟨y0, y5, _, _⟩ := HCell.out _ hC.bel
          refine wpOp_step rfl (fun K hK => ?_)
          clear hd
          go_simp
          exact hK _ _ ⟨_, by simp [upd, e8], (rtell_eq (by decide)).2 rfl, lek_mk (by decide) (Below.refl _ _), hC.same⟩
        | 10, _ =>
          refine wpOp_step rfl (fun K hK => ?_)
          clear hd
          go_simp
          exact hK _ _ ⟨_, rfl, (rtell_eq (by decide)).2 rfl, lek_mk (by decide) (Below.refl _ _), hC.same⟩
        | 11, _ =>
          have e10 : z 10 = .pointer (some ⟨w.heap.size + 1, 4, none⟩) := (rtell_eq (by decide)).1 (hd 10 (dep_of (by kernel_rfl)))
          obtain ⟨_, y1, _, _, y4, _⟩ := five_facts hC.c1
          refine wpOp_step rfl (fun K hK => ?_)
          clear hd
          go_simp
          exact hK _ _ ⟨_, by simp [upd, e10], (rtell_eq (by decide)).2 rfl, lek_mk (by decide) (Below.refl _ _), hC.same⟩
        | 12, _ =>
          have e1 : z 1 = .string target := (rtell_eq (by decide)).1 (hd 1 (dep_of (by kernel_rfl)))
          have e9 : z 9 = .string nm := (rtell_eq (by decide)).1 (hd 9 (dep_of (by kernel_rfl)))
          have e11 : z 11 = .string body := (rtell_eq (by decide)).1 (hd 11 (dep_of (by kernel_rfl)))
          refine wpOp_step rfl (fun K hK => ?_)
          clear hd
          go_simp
          exact hK _ _ ⟨_, by simp [upd, e1, e9, e11], (rtell_eq (by decide)).2 rfl, lek_mk (by decide) (Below.refl _ _), hC.same⟩
        | 13, _ =>
          have e12 : z 12 = .agg #[.string ⟨#[112, 117, 116]⟩, .string target, .string nm, .slice none 0 0, .string body] := (rtell_eq (by decide)).1 (hd 12 (dep_of (by kernel_rfl)))
          have hc := hC.cell hL
          obtain ⟨y0, y1, y2, y3, y4, f0, f1, f2, f3, f4⟩ := five_facts hc
          refine wpOp_step rfl (fun K hK => ?_)
          clear hd
          go_simp
          exact hK _ _ ⟨undef, by simp [upd, e12], rtell_at.2 (five_set hc _ _ _ _ _), lek_at (grown_set5 _ _ _ _ _ _ _), hC.tell (grown_set5 _ _ _ _ _ _ _) (by omega) (by omega) (by omega)⟩
    · intro L z W k hk hC hd
      have hc := rtell_at.1 (hd 13 (by decide))
      obtain ⟨z0, z1, z2, z3, z4, _⟩ := five_facts hc
      have HB := Lib.hid hC.bel
      clear hC hd hc
      refine wpOp_step rfl (fun K hK => ?_)
      go_simp
      refine hK _ _ ?_
      clear hK K
      go_wp2_with fail
      refine bodyPost_ret (v := .tuple #[.agg #[.string ⟨#[112, 117, 116]⟩, .string target, .string nm, .slice none 0 0, .string body], .bool true]) (by simp [results, Tryz.results35, go_sem, z0, z1, z2, z3, z4]) rfl ?_
      exact ⟨⟨_, rfl, World.ownsRow_nil _ _ _ _⟩, HB.out⟩
end Go.Proofs.YtiepobifbkleaaaGreatDoor

