/- Walks: storage, by the specification: without what is found; what is used first; without what is at a path. -/
import Derived.Test.YtdjbcjmkmkljnabStS
import Derived.Deep.RegionLawGrows
namespace Go.Proofs.Ytdjbcjmkmkljnab
open Go.RowKit Go.Maps

set_option maxRecDepth 100000 in
set_option maxHeartbeats 3200000 in
theorem spec_stoout (v : Value) (L : List En) (p : ByteArray) (m : Int) (w : World) (hR : ERow w v L) (hn : L.length ≤ 2000000) :
    Calls Try.prog 13 #[.agg #[v], .string p, .int .i64 m] w (SRet w (outE L p m)) := by
  rw [← wtE_found]
  obtain ⟨wA, hwA⟩ : ∃ wA, wA = (w.alloc (.cells #[v] 28)).alloc (.cells #[.slice none 0 0] 28) := ⟨_, rfl⟩
  have hbA : Below w.heap.size w wA := by rw [hwA]; exact ((Below.refl _ _).alloc (Nat.le_refl _) _).alloc (by simp) _
  have hsA : wA.heap.size = w.heap.size + 2 := by rw [hwA]; simp
  have h0 : Boxed wA w.heap.size 28 v := by rw [hwA]; exact (Boxed.new w _ _).alloc _
  have h1 : Boxed wA (w.heap.size + 1) 28 (.slice none 0 0) := by
    rw [hwA]
    have := Boxed.new (w.alloc (.cells #[v] 28)) 28 (.slice none 0 0)
    rwa [World.size_alloc] at this
  have hRA := hR.below (Nat.le_refl _) hbA
  obtain ⟨a, c, rfl, hl1, hl2, h3⟩ := hR
  unfold maxLen at hl2
  have HX : Hid (∀ W, Below wA.heap.size wA W → Boxed W w.heap.size 28 (.slice a L.length c) ∧ Boxed W (w.heap.size + 1) 28 (.slice none 0 0) ∧ Below w.heap.size w W) := Lib.hid fun W hW =>
    ⟨h0.kept (grown_of_below hW none) (by simp), h1.kept (grown_of_below hW none) (by simp), hbA.trans (hW.mono hbA.size)⟩
  have HFd : Hid (∀ W, Below wA.heap.size wA W → Calls Try.prog 28 #[.agg #[.slice a L.length c], .string p, .int .i64 m] W fun e' w' => e' = .returned (.int .i64 (foundI L p m)) ∧ Below W.heap.size W w') := Lib.hid fun W hW => spec_stofind _ L p m W (hRA.below (Nat.le_refl _) hW)
  have HWt : Hid (∀ W, Below wA.heap.size wA W → Calls Try.prog 18 #[.agg #[.slice a L.length c], .int .i64 (foundI L p m)] W fun e' w' => ∃ a' c', e' = .returned (.agg #[.slice a' (wtE L (foundI L p m)).length c']) ∧ w'.ownsRow W.heap.size 43 9 (.slice a' (wtE L (foundI L p m)).length c') (wtE L (foundI L p m)).length (ecells (wtE L (foundI L p m))) ∧ Below W.heap.size W w') := Lib.hid fun W hW => (spec_without (.slice a L.length c) L (foundI L p m) W (hRA.below (Nat.le_refl _) hW) hn).mono fun e' w' ⟨v', g1, g2, g3, g4⟩ => by obtain ⟨a', c', rfl⟩ := own_slice g2; exact ⟨a', c', g1, g2, g3⟩
  have HW := Lib.hid hwA
  clear hwA h0 h1 h3 hbA hRA
  go_enter Try.func13, Try.ntmps13
  go_wp2_with fail
  rw [← HW.out]
  refine wp_region_last (by kernel_rfl) 6 (by kernel_rfl) (by kernel_rfl) (by kernel_rfl)
    (fun u => { tmps := #[.agg #[.slice a L.length c], .string p, .int .i64 m, .pointer (some ⟨w.heap.size, 0, none⟩), undef, undef, .pointer (some ⟨w.heap.size + 1, 0, none⟩), u 0, u 1, u 2, u 3, u 4, u 5], defers := [] })
    (fun _ w7 => Below wA.heap.size wA w7)
    (fun i z w7 => match i with
      | 0 => z = .agg #[.slice a L.length c]
      | 1 => z = .agg #[.slice a L.length c]
      | 2 => z = .string p
      | 3 => z = .int .i64 m
      | 4 => z = .int .i64 (foundI L p m)
      | 5 => ∃ a' c', z = .agg #[.slice a' (wtE L (foundI L p m)).length c'] ∧ w7.ownsRow wA.heap.size 43 9 (.slice a' (wtE L (foundI L p m)).length c') (wtE L (foundI L p m)).length (ecells (wtE L (foundI L p m)))
      | _ => True)
    (fun w7 w8 => Below w7.heap.size w7 w8) (fun _ => undef) (Below.refl _ _).drew ?_ ?_ ?_
  · intro i z w7 w8 hi hR hle
    match i, hi with
    | 0, _ =>
      exact hR
    | 1, _ =>
      exact hR
    | 2, _ =>
      exact hR
    | 3, _ =>
      exact hR
    | 4, _ =>
      exact hR
    | 5, _ =>
      obtain ⟨a', c', h1, h2⟩ := hR
      exact ⟨a', c', h1, own_below h2 hle⟩
    | n + 6, hn => exact absurd hn (by omega)
  · intro i hi u w7 kk hkk hC hdp
    match i, hi with
    | 0, _ =>
      have q0 := (HX.out w7 hC).1.cell
      refine wpOp_step rfl (fun K hK => ?_)
      clear hdp
      go_simp
      exact hK _ _ ⟨.agg #[.slice a L.length c], rfl, rfl, Below.refl _ _, hC⟩
    | 1, _ =>
      have q0 := (HX.out w7 hC).1.cell
      refine wpOp_step rfl (fun K hK => ?_)
      clear hdp
      go_simp
      exact hK _ _ ⟨.agg #[.slice a L.length c], rfl, rfl, Below.refl _ _, hC⟩
    | 2, _ =>
      refine wpOp_step rfl (fun K hK => ?_)
      clear hdp
      go_simp
      exact hK _ _ ⟨.string p, rfl, rfl, Below.refl _ _, hC⟩
    | 3, _ =>
      refine wpOp_step rfl (fun K hK => ?_)
      clear hdp
      go_simp
      exact hK _ _ ⟨.int .i64 m, rfl, rfl, Below.refl _ _, hC⟩
    | 4, _ =>
      have e1 : u 1 = .agg #[.slice a L.length c] := hdp 1 (dep_of (by kernel_rfl))
      have e2 : u 2 = .string p := hdp 2 (dep_of (by kernel_rfl))
      have e3 : u 3 = .int .i64 m := hdp 3 (dep_of (by kernel_rfl))
      have hT := HFd.out w7 hC
      refine wpOp_step rfl (fun K hK => ?_)
      clear hdp
      go_simp
      refine hT.mono ?_
      rintro e w8 ⟨rfl, hb8⟩
      exact hK _ _ ⟨.int .i64 (foundI L p m), by simp [upd, e1, e2, e3], rfl, hb8, hC.trans (hb8.mono hC.size)⟩
    | 5, _ =>
      have e0 : u 0 = .agg #[.slice a L.length c] := hdp 0 (dep_of (by kernel_rfl))
      have e4 : u 4 = .int .i64 (foundI L p m) := hdp 4 (dep_of (by kernel_rfl))
      have hT := HWt.out w7 hC
      refine wpOp_step rfl (fun K hK => ?_)
      clear hdp
      go_simp
      refine hT.mono ?_
      rintro e w8 ⟨a', c', rfl, ho8, hb8⟩
      exact hK _ _ ⟨_, by simp [upd, e0, e4], ⟨a', c', rfl, own_lowB ho8 hC.size⟩, hb8, hC.trans (hb8.mono hC.size)⟩
    | n + 6, hn => exact absurd hn (by omega)
  · intro u w7 kk hkk hC hdp
    have r5 : ∃ a' c', (u 5) = .agg #[.slice a' (wtE L (foundI L p m)).length c'] ∧ w7.ownsRow wA.heap.size 43 9 (.slice a' (wtE L (foundI L p m)).length c') (wtE L (foundI L p m)).length (ecells (wtE L (foundI L p m))) := hdp 5 (by decide)
    obtain ⟨a', c', e5, ho⟩ := r5
    have hv7 := (HX.out w7 hC).2.1
    have u1 := hv7.cell
    have u2 := hv7.frozen
    obtain ⟨k1, k2⟩ := told_row hv7 (by decide) ho
    have k3 := k1.cell
    have HF := Lib.hid (And.intro k3 (And.intro (own_lowB k2 (show w.heap.size ≤ wA.heap.size from by omega)) ((HX.out w7 hC).2.2.setCell (p := ⟨w.heap.size + 1, 0, none⟩) (by simp) (.slice a' (wtE L (foundI L p m)).length c'))))
    refine wpOp_step rfl (fun K hK => ?_)
    clear hdp hC hv7 ho k1 k2 k3
    go_simp
    refine hK _ _ ?_
    clear hK K e5
    go_wp2
    obtain ⟨k3, k2, k4⟩ := HF.out
    try simp only [List.length_cons] at k3
    refine bodyPost_ret (v := .agg #[.slice a' (wtE L (foundI L p m)).length c']) (by simp [results, Try.results13, go_sem, k3]) rfl ⟨_, rfl, k2, k4⟩


theorem lit_row {w : World} {B g : Nat} {e : En} (h : w.heap[g]? = some (.cells (enC e) 43 (0, 0))) (hg : B ≤ g) : w.ownsRow B 43 9 (.slice (some ⟨g, 0, none⟩) 1 1) 1 (enL e) :=
  ⟨rfl, .inr ⟨g, 1, enC e, rfl, hg, h, Nat.le_refl _, by unfold maxLen; omega, rfl, rfl⟩⟩
theorem step_append_nil {P : Program} {ops : Array Oper} {o : Oper} {a : Act} {w : World} {K : Act → World → Prop} {Q : Exit → Act → World → Prop} {E : Prop}
    (hg : o.guard = none) (s x : Operand) (t : TypeId) (hop : o.op = Op.call { callee := Callee.builtin Builtin.append, args := #[s, x], argTypes := #[t, t] })
    (base : Nat) (e : TypeId) (i : TypeInfo) (size : Nat) (h1 : P.underlying t = some (.slice e)) (h2 : P.info? e = some i)
    (v : Value) (n : Nat) (xs : List Value) (hs : a.eval s = v) (hown : w.ownsRow base e size v n xs) (hx : a.eval x = .slice none 0 0) (hK : K (a.put o.dst v) w) :
    if Region.wanted o (yielded ops a.tmps) = true then Oper.wp P o a w K Q else E := by
  have hw : Region.wanted o (yielded ops a.tmps) = true := by simp [Region.wanted, hg]
  rw [if_pos hw]
  have hrun := run_append_owned_none (P := P) (w := w) base t o.type e i size h1 h2 v n xs hown
  unfold Oper.wp
  simp [execOp, hop, resolve, invoke, builtin, hs, hx, hrun, Result.andThen]
  exact hK

set_option maxRecDepth 100000 in
set_option maxHeartbeats 3200000 in
theorem spec_use_at (v : Value) (L : List En) (ix : Nat) (e : En) (w : World) (hR : ERow w v L) (hn : L.length ≤ 2000000) (hg : L[ix]? = some e) :
    Calls Try.prog 7 #[.agg #[v], .int .i64 (ix : Int)] w (SRet w (e :: wtE L (ix : Int))) := by
  obtain ⟨i0, hi0, hz0, hz1, hz2⟩ := info_parts Try.infoEn
  obtain ⟨wA, hwA⟩ : ∃ wA, wA = (w.alloc (.cells #[v] 28)).alloc (.cells #[.slice none 0 0] 28) := ⟨_, rfl⟩
  have hbA : Below w.heap.size w wA := by rw [hwA]; exact ((Below.refl _ _).alloc (Nat.le_refl _) _).alloc (by simp) _
  have hsA : wA.heap.size = w.heap.size + 2 := by rw [hwA]; simp
  have h0 : Boxed wA w.heap.size 28 v := by rw [hwA]; exact (Boxed.new w _ _).alloc _
  have h1 : Boxed wA (w.heap.size + 1) 28 (.slice none 0 0) := by
    rw [hwA]
    have := Boxed.new (w.alloc (.cells #[v] 28)) 28 (.slice none 0 0)
    rwa [World.size_alloc] at this
  have hRA := hR.below (Nat.le_refl _) hbA
  obtain ⟨a, c, rfl, hl1, hl2, h3⟩ := hR
  unfold maxLen at hl2
  obtain ⟨b, o, rfl, hbl, he⟩ := h3 ix e hg
  have HX : Hid (∀ W, Below wA.heap.size wA W → Boxed W w.heap.size 28 (.slice (some ⟨b, o, none⟩) L.length c) ∧ Boxed W (w.heap.size + 1) 28 (.slice none 0 0) ∧ Below w.heap.size w W) := Lib.hid fun W hW =>
    ⟨h0.kept (grown_of_below hW none) (by simp), h1.kept (grown_of_below hW none) (by simp), hbA.trans (hW.mono hbA.size)⟩
  have HAt : Hid (∀ W, Below wA.heap.size wA W → W.cell? ⟨b, o + ix * 9, none⟩ = some (.string e.place) ∧ W.cell? ⟨b, o + ix * 9 + 1, none⟩ = some (.int .i64 e.mask) ∧ W.cell? ⟨b, o + ix * 9 + 2, none⟩ = some (.int .i64 e.rsp.code) ∧ W.cell? ⟨b, o + ix * 9 + 3, none⟩ = some (.int .i64 e.rsp.mx) ∧
      W.cell? ⟨b, o + ix * 9 + 4, none⟩ = some (.bool e.rsp.hide) ∧ W.cell? ⟨b, o + ix * 9 + 5, none⟩ = some (.string e.rsp.tag) ∧ W.cell? ⟨b, o + ix * 9 + 6, none⟩ = some (.int .i64 e.rsp.cod) ∧ W.cell? ⟨b, o + ix * 9 + 7, none⟩ = some (.string e.rsp.body) ∧ W.cell? ⟨b, o + ix * 9 + 8, none⟩ = some (.int .i64 e.tm)) := Lib.hid fun W hW =>
    (he.keep ((hbA.trans (hW.mono hbA.size)).block b hbl)).facts
  have HWt : Hid (∀ W, Below wA.heap.size wA W → Calls Try.prog 18 #[.agg #[.slice (some ⟨b, o, none⟩) L.length c], .int .i64 (ix : Int)] W fun e' w' => ∃ a' c', e' = .returned (.agg #[.slice a' (wtE L ((ix : Int))).length c']) ∧ w'.ownsRow W.heap.size 43 9 (.slice a' (wtE L ((ix : Int))).length c') (wtE L ((ix : Int))).length (ecells (wtE L ((ix : Int)))) ∧ Below W.heap.size W w' ∧ ((wtE L ((ix : Int))).length = 0 → Value.slice a' (wtE L ((ix : Int))).length c' = Value.slice none 0 0)) := Lib.hid fun W hW => (spec_without (.slice (some ⟨b, o, none⟩) L.length c) L ((ix : Int)) W (hRA.below (Nat.le_refl _) hW) hn).mono fun e' w' ⟨v', g1, g2, g3, g4⟩ => by obtain ⟨a', c', rfl⟩ := own_slice g2; exact ⟨a', c', g1, g2, g3, g4⟩
  have HC9 := Lib.hid (fun w7 g hg => en_cells w7 e g hg)
  have HOnes : Hid (∀ u ∈ ecells (wtE L (ix : Int)), u.oneCell' = true) := Lib.hid fun u hu => by
    obtain ⟨f, _, hf⟩ := List.mem_flatMap.1 hu
    exact en_one f u hf
  have hwl := wtE_len L (ix : Int)
  have HW := Lib.hid hwA
  have hlt := (List.getElem?_eq_some_iff.1 hg).1
  have hi1 : (ix : Int) < (L.length : Int) := by omega
  clear hwA h0 h1 h3 hbA hRA he hg
  go_enter Try.func7, Try.ntmps7
  go_wp2_with fail
  rw [← HW.out]
  have q0 : wA.cell? ⟨w.heap.size, 0, none⟩ = some (.slice (some ⟨b, o, none⟩) L.length c) := (HX.out wA (Below.refl _ _)).1.cell
  go_wp2_with fail
  clear q0
  rw [decide_eq_false (show ¬ (ix : Int) < 0 from by omega), decide_eq_false (show ¬ L.length ≤ ix from by omega)]
  rw [Bool.or_self]
  refine wp_region_last (by kernel_rfl) 12 (by kernel_rfl) (by kernel_rfl) (by kernel_rfl)
    (fun u => { tmps := #[.agg #[.slice (some ⟨b, o, none⟩) L.length c], .int .i64 (ix : Int), .pointer (some ⟨w.heap.size, 0, none⟩), undef, .pointer (some ⟨w.heap.size + 1, 0, none⟩), .int .i64 (ix : Int), .bool false, .bool false, .int .i64 (ix : Int), .pointer (some ⟨w.heap.size, 0, none⟩), .slice (some ⟨b, o, none⟩) L.length c, .int .i64 (L.length : Int), .bool false, .bool false, undef, undef, u 0, u 1, u 2, u 3, u 4, u 5, u 6, u 7, u 8, u 9, u 10, u 11], defers := [] })
    (fun _ w7 => Below wA.heap.size wA w7)
    (fun i z w7 => match i with
      | 0 => z = .pointer (some ⟨w.heap.size, 0, none⟩)
      | 1 => z = .slice (some ⟨b, o, none⟩) L.length c
      | 2 => z = .int .i64 (ix : Int)
      | 3 => z = .pointer (some ⟨b, o + ix * 9, none⟩)
      | 4 => z = .agg #[.string e.place, .int .i64 e.mask, .int .i64 e.rsp.code, .int .i64 e.rsp.mx, .bool e.rsp.hide, .string e.rsp.tag, .int .i64 e.rsp.cod, .string e.rsp.body, .int .i64 e.tm]
      | 5 => ∃ g, z = .slice (some ⟨g, 0, none⟩) 1 1 ∧ wA.heap.size ≤ g ∧ w7.heap[g]? = some (.cells (enC e) 43 (0, 0))
      | 6 => z = .agg #[.slice (some ⟨b, o, none⟩) L.length c]
      | 7 => z = .int .i64 (ix : Int)
      | 8 => ∃ a' c', z = .agg #[.slice a' (wtE L (ix : Int)).length c'] ∧ w7.ownsRow wA.heap.size 43 9 (.slice a' (wtE L (ix : Int)).length c') (wtE L (ix : Int)).length (ecells (wtE L (ix : Int))) ∧ ((wtE L (ix : Int)).length = 0 → Value.slice a' (wtE L (ix : Int)).length c' = Value.slice none 0 0)
      | 9 => ∃ a' c', z = .slice a' (wtE L (ix : Int)).length c' ∧ w7.ownsRow wA.heap.size 43 9 (.slice a' (wtE L (ix : Int)).length c') (wtE L (ix : Int)).length (ecells (wtE L (ix : Int))) ∧ ((wtE L (ix : Int)).length = 0 → Value.slice a' (wtE L (ix : Int)).length c' = Value.slice none 0 0)
      | 10 => ∃ a' c', z = .slice a' (e :: wtE L (ix : Int)).length c' ∧ w7.ownsRow wA.heap.size 43 9 (.slice a' (e :: wtE L (ix : Int)).length c') (e :: wtE L (ix : Int)).length (ecells (e :: wtE L (ix : Int)))
      | 11 => ∃ a' c', z = .agg #[.slice a' (e :: wtE L (ix : Int)).length c'] ∧ w7.ownsRow wA.heap.size 43 9 (.slice a' (e :: wtE L (ix : Int)).length c') (e :: wtE L (ix : Int)).length (ecells (e :: wtE L (ix : Int)))
      | _ => True)
    (fun w7 w8 => Below w7.heap.size w7 w8) (fun _ => undef) (Below.refl _ _).drew ?_ ?_ ?_
  · intro i z w7 w8 hi hR hle
    match i, hi with
    | 0, _ =>
      exact hR
    | 1, _ =>
      exact hR
    | 2, _ =>
      exact hR
    | 3, _ =>
      exact hR
    | 4, _ =>
      exact hR
    | 5, _ =>
      obtain ⟨g, h1, h2, h3⟩ := hR
      exact ⟨g, h1, h2, (hle.block g (Array.getElem?_eq_some_iff.1 h3).1).trans h3⟩
    | 6, _ =>
      exact hR
    | 7, _ =>
      exact hR
    | 8, _ =>
      obtain ⟨a', c', h1, h2, h4⟩ := hR
      exact ⟨a', c', h1, own_below h2 hle, h4⟩
    | 9, _ =>
      obtain ⟨a', c', h1, h2, h4⟩ := hR
      exact ⟨a', c', h1, own_below h2 hle, h4⟩
    | 10, _ =>
      obtain ⟨a', c', h1, h2⟩ := hR
      exact ⟨a', c', h1, own_below h2 hle⟩
    | 11, _ =>
      obtain ⟨a', c', h1, h2⟩ := hR
      exact ⟨a', c', h1, own_below h2 hle⟩
    | n + 12, hn => exact absurd hn (by omega)
  · intro i hi u w7 kk hkk hC hdp
    match i, hi with
    | 0, _ =>
      refine wpOp_step rfl (fun K hK => ?_)
      clear hdp
      go_simp
      exact hK _ _ ⟨.pointer (some ⟨w.heap.size, 0, none⟩), rfl, rfl, Below.refl _ _, hC⟩
    | 1, _ =>
      have q0 := (HX.out w7 hC).1.cell
      have e0 : u 0 = .pointer (some ⟨w.heap.size, 0, none⟩) := hdp 0 (dep_of (by kernel_rfl))
      refine wpOp_step rfl (fun K hK => ?_)
      clear hdp
      go_simp
      exact hK _ _ ⟨.slice (some ⟨b, o, none⟩) L.length c, by simp [upd, e0], rfl, Below.refl _ _, hC⟩
    | 2, _ =>
      refine wpOp_step rfl (fun K hK => ?_)
      clear hdp
      go_simp
      exact hK _ _ ⟨.int .i64 (ix : Int), rfl, rfl, Below.refl _ _, hC⟩
    | 3, _ =>
      have e1 : u 1 = .slice (some ⟨b, o, none⟩) L.length c := hdp 1 (dep_of (by kernel_rfl))
      have e2 : u 2 = .int .i64 (ix : Int) := hdp 2 (dep_of (by kernel_rfl))
      refine wpOp_step rfl (fun K hK => ?_)
      clear hdp
      go_simp
      exact hK _ _ ⟨.pointer (some ⟨b, o + ix * 9, none⟩), by simp [upd, e1, e2], rfl, Below.refl _ _, hC⟩
    | 4, _ =>
      obtain ⟨x0, x1, x2, x3, x4, x5, x6, x7, x8⟩ := HAt.out w7 hC
      have e3 : u 3 = .pointer (some ⟨b, o + ix * 9, none⟩) := hdp 3 (dep_of (by kernel_rfl))
      refine wpOp_step rfl (fun K hK => ?_)
      clear hdp
      go_simp
      exact hK _ _ ⟨.agg #[.string e.place, .int .i64 e.mask, .int .i64 e.rsp.code, .int .i64 e.rsp.mx, .bool e.rsp.hide, .string e.rsp.tag, .int .i64 e.rsp.cod, .string e.rsp.body, .int .i64 e.tm], by simp [upd, e3], rfl, Below.refl _ _, hC⟩
    | 5, _ =>
      have e4 : u 4 = .agg #[.string e.place, .int .i64 e.mask, .int .i64 e.rsp.code, .int .i64 e.rsp.mx, .bool e.rsp.hide, .string e.rsp.tag, .int .i64 e.rsp.cod, .string e.rsp.body, .int .i64 e.tm] := hdp 4 (dep_of (by kernel_rfl))
      refine wpOp_step rfl (fun K hK => ?_)
      clear hdp
      go_simp
      exact hK _ _ ⟨_, by simp [upd, e4], ⟨_, rfl, hC.size, heap_alloc_new w7 _⟩, (Below.refl _ _).alloc (Nat.le_refl _) _, hC.alloc hC.size _⟩
    | 6, _ =>
      have q0 := (HX.out w7 hC).1.cell
      refine wpOp_step rfl (fun K hK => ?_)
      clear hdp
      go_simp
      exact hK _ _ ⟨.agg #[.slice (some ⟨b, o, none⟩) L.length c], rfl, rfl, Below.refl _ _, hC⟩
    | 7, _ =>
      refine wpOp_step rfl (fun K hK => ?_)
      clear hdp
      go_simp
      exact hK _ _ ⟨.int .i64 (ix : Int), rfl, rfl, Below.refl _ _, hC⟩
    | 8, _ =>
      have e6 : u 6 = .agg #[.slice (some ⟨b, o, none⟩) L.length c] := hdp 6 (dep_of (by kernel_rfl))
      have e7 : u 7 = .int .i64 (ix : Int) := hdp 7 (dep_of (by kernel_rfl))
      have hT := HWt.out w7 hC
      refine wpOp_step rfl (fun K hK => ?_)
      clear hdp
      go_simp
      refine hT.mono ?_
      rintro e w8 ⟨a', c', rfl, ho8, hb8, hn8⟩
      exact hK _ _ ⟨_, by simp [upd, e6, e7], ⟨a', c', rfl, own_lowB ho8 hC.size, hn8⟩, hb8, hC.trans (hb8.mono hC.size)⟩
    | 9, _ =>
      have r8 : ∃ a' c', (u 8) = .agg #[.slice a' (wtE L (ix : Int)).length c'] ∧ w7.ownsRow wA.heap.size 43 9 (.slice a' (wtE L (ix : Int)).length c') (wtE L (ix : Int)).length (ecells (wtE L (ix : Int))) ∧ ((wtE L (ix : Int)).length = 0 → Value.slice a' (wtE L (ix : Int)).length c' = Value.slice none 0 0) := hdp 8 (dep_of (by kernel_rfl))
      obtain ⟨a', c', e8, ho8, hn8⟩ := r8
      refine wpOp_step rfl (fun K hK => ?_)
      clear hdp
      go_simp
      exact hK _ _ ⟨_, by simp [Act.put, upd, e8], ⟨a', c', rfl, ho8, hn8⟩, Below.refl _ _, hC⟩
    | 10, _ =>
      have r5 : ∃ g, (u 5) = .slice (some ⟨g, 0, none⟩) 1 1 ∧ wA.heap.size ≤ g ∧ w7.heap[g]? = some (.cells (enC e) 43 (0, 0)) := hdp 5 (dep_of (by kernel_rfl))
      have r9 : ∃ a' c', (u 9) = .slice a' (wtE L (ix : Int)).length c' ∧ w7.ownsRow wA.heap.size 43 9 (.slice a' (wtE L (ix : Int)).length c') (wtE L (ix : Int)).length (ecells (wtE L (ix : Int))) ∧ ((wtE L (ix : Int)).length = 0 → Value.slice a' (wtE L (ix : Int)).length c' = Value.slice none 0 0) := hdp 9 (dep_of (by kernel_rfl))
      obtain ⟨g, e5, hg, h5⟩ := r5
      obtain ⟨a', c', e9, ho9, hn9⟩ := r9
      have hcl := HC9.out w7 g h5
      refine wpOp_step rfl (fun K hK => ?_)
      clear hdp
      rcases ho9.2 with ⟨hnil, hz⟩ | ⟨g9, cap9, cur9, hs9, hb9, hh9, _⟩
      · obtain ⟨rfl, -, rfl⟩ : a' = none ∧ (wtE L (ix : Int)).length = 0 ∧ c' = 0 := by simpa using hnil
        have hw0 : wtE L (ix : Int) = [] := List.eq_nil_of_length_eq_zero hz
        rw [hz] at e9
        refine step_append_nil rfl (.tmp 21) (.tmp 25) 26 rfl wA.heap.size 43 i0 9 Try.underlying26 hi0 (.slice (some ⟨g, 0, none⟩) 1 1) 1 (enL e) (by simp [Act.eval, e5]) (lit_row h5 hg) (by simp [Act.eval, e9]) ?_
        exact hK _ _ ⟨.slice (some ⟨g, 0, none⟩) 1 1, by simp [Act.put, upd, e5], ⟨some ⟨g, 0, none⟩, 1, by rw [hw0]; rfl, by rw [hw0]; simpa [ecells] using lit_row h5 hg⟩, Below.refl _ _, hC⟩
      · obtain ⟨rfl, -, hc9⟩ : a' = some ⟨g9, 0, none⟩ ∧ True ∧ c' = cap9 := by simp at hs9; simp [hs9]
        have hpos : 1 < 1 + (wtE L (ix : Int)).length := by
          rcases Nat.eq_zero_or_pos (wtE L (ix : Int)).length with hz | hz
          · exact absurd (hn9 hz) (by simp)
          · omega
        refine step_append_grows rfl (.tmp 21) (.tmp 25) 26 rfl 43 i0 _ 9 96 Try.underlying26 hi0 hz0 hz1 hz2 rfl (by decide) (some ⟨g, 0, none⟩) 1 1 (enL e) (by simp [Act.eval, e5]) (fun h => by cases h) rfl (fun b h j u hj => by cases h; exact hcl j u hj) ⟨g9, 0, none⟩ (wtE L (ix : Int)).length c' (ecells (wtE L (ix : Int))) (by simp [Act.eval, e9]) (ecells_len _) (fun j u hj => ho9.cells (g := g9) rfl j u hj) (HOnes.out) hpos (by unfold maxLen; omega) (by omega) ?_
        intro v8 w8 ho8 hg8
        have hb8 : Below w7.heap.size w7 w8 := ⟨hg8.os, hg8.tape, hg8.output, hg8.size, fun k hk => hg8.block k hk (by simp)⟩
        obtain ⟨a8, c8, rfl⟩ := own_slice ho8
        have hl8 : 1 + (wtE L (ix : Int)).length = (e :: wtE L (ix : Int)).length := by rw [List.length_cons]; omega
        rw [hl8] at ho8
        refine hK _ _ ?_
        exact ⟨.slice a8 (1 + (wtE L (ix : Int)).length) c8, by simp [Act.put, upd], ⟨a8, c8, by rw [hl8], own_lowB ho8 hC.size⟩, hb8, hC.trans (hb8.mono hC.size)⟩
    | 11, _ =>
      have r10 : ∃ a' c', (u 10) = .slice a' (e :: wtE L (ix : Int)).length c' ∧ w7.ownsRow wA.heap.size 43 9 (.slice a' (e :: wtE L (ix : Int)).length c') (e :: wtE L (ix : Int)).length (ecells (e :: wtE L (ix : Int))) := hdp 10 (dep_of (by kernel_rfl))
      obtain ⟨a', c', e10, ho10⟩ := r10
      refine wpOp_step rfl (fun K hK => ?_)
      clear hdp
      go_simp
      exact hK _ _ ⟨_, by simp [upd, e10], ⟨a', c', rfl, ho10⟩, Below.refl _ _, hC⟩
    | n + 12, hn => exact absurd hn (by omega)
  · intro u w7 kk hkk hC hdp
    have r11 : ∃ a' c', (u 11) = .agg #[.slice a' (e :: wtE L (ix : Int)).length c'] ∧ w7.ownsRow wA.heap.size 43 9 (.slice a' (e :: wtE L (ix : Int)).length c') (e :: wtE L (ix : Int)).length (ecells (e :: wtE L (ix : Int))) := hdp 11 (by decide)
    obtain ⟨a', c', e5, ho⟩ := r11
    have hv7 := (HX.out w7 hC).2.1
    have u1 := hv7.cell
    have u2 := hv7.frozen
    obtain ⟨k1, k2⟩ := told_row hv7 (by decide) ho
    have k3 := k1.cell
    have HF := Lib.hid (And.intro k3 (And.intro (own_lowB k2 (show w.heap.size ≤ wA.heap.size from by omega)) ((HX.out w7 hC).2.2.setCell (p := ⟨w.heap.size + 1, 0, none⟩) (by simp) (.slice a' (e :: wtE L (ix : Int)).length c'))))
    refine wpOp_step rfl (fun K hK => ?_)
    clear hdp hC hv7 ho k1 k2 k3
    go_simp
    refine hK _ _ ?_
    clear hK K e5
    go_wp2
    obtain ⟨k3, k2, k4⟩ := HF.out
    try simp only [List.length_cons] at k3
    refine bodyPost_ret (v := .agg #[.slice a' (e :: wtE L (ix : Int)).length c']) (by simp [results, Try.results7, go_sem, k3]) rfl ⟨_, rfl, k2, k4⟩

end Go.Proofs.Ytdjbcjmkmkljnab
