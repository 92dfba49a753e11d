import Derived.Test.YtbhnjnoblkfckaaGreatDoorGZ15
import Derived.Deep.RegionLawGrows
-- from XStU
/- Walks: storage, by the specification: without what is found; what is used first; without what is at a path. -/
namespace Go.Proofs.YtbhnjnoblkfckaaGreatDoor
open Go.RowKit Go.Maps

set_option maxRecDepth 100000 in
set_option maxHeartbeats 3200000 in
theorem spec_stoout (v : Value) (L : List En) (p : ByteArray) (m : Int) (w : World) (hR : ERow w v L) (hn : L.length ≤ 2000000) :
    Calls Tryz.prog 49 #[.agg #[v], .string p, .int .i64 m] w (SRet w (outE L p m)) := by
  rw [← wtE_found]
  obtain ⟨wA, hwA⟩ : ∃ wA, wA = (w.alloc (.cells #[v] 35)).alloc (.cells #[.slice none 0 0] 35) := ⟨_, rfl⟩
  have hbA : Below w.heap.size w wA := by rw [hwA]; exact ((Below.refl _ _).alloc (Nat.le_refl _) _).alloc (by simp) _
  have hsA : wA.heap.size = w.heap.size + 2 := by rw [hwA]; simp
  have h0 : Boxed wA w.heap.size 35 v := by rw [hwA]; exact (Boxed.new w _ _).alloc _
  have h1 : Boxed wA (w.heap.size + 1) 35 (.slice none 0 0) := by
    rw [hwA]
    have := Boxed.new (w.alloc (.cells #[v] 35)) 35 (.slice none 0 0)
    rwa [World.size_alloc] at this
  have hRA := hR.below (Nat.le_refl _) hbA
  obtain ⟨a, c, rfl, hl1, hl2, h3⟩ := hR
  unfold maxLen at hl2
  have HX : Hid (∀ W, Below wA.heap.size wA W → Boxed W w.heap.size 35 (.slice a L.length c) ∧ Boxed W (w.heap.size + 1) 35 (.slice none 0 0) ∧ Below w.heap.size w W) := Lib.hid fun W hW =>
    ⟨h0.kept (grown_of_below hW none) (by simp), h1.kept (grown_of_below hW none) (by simp), hbA.trans (hW.mono hbA.size)⟩
  have HFd : Hid (∀ W, Below wA.heap.size wA W → Calls Tryz.prog 40 #[.agg #[.slice a L.length c], .string p, .int .i64 m] W fun e' w' => e' = .returned (.int .i64 (foundI L p m)) ∧ Below W.heap.size W w') := Lib.hid fun W hW => spec_stofind _ L p m W (hRA.below (Nat.le_refl _) hW)
  have HWt : Hid (∀ W, Below wA.heap.size wA W → Calls Tryz.prog 79 #[.agg #[.slice a L.length c], .int .i64 (foundI L p m)] W fun e' w' => ∃ a' c', e' = .returned (.agg #[.slice a' (wtE L (foundI L p m)).length c']) ∧ w'.ownsRow W.heap.size 48 9 (.slice a' (wtE L (foundI L p m)).length c') (wtE L (foundI L p m)).length (ecells (wtE L (foundI L p m))) ∧ Below W.heap.size W w') := Lib.hid fun W hW => (spec_without (.slice a L.length c) L (foundI L p m) W (hRA.below (Nat.le_refl _) hW) hn).mono fun e' w' ⟨v', g1, g2, g3, g4⟩ => by obtain ⟨a', c', rfl⟩ := own_slice g2; exact ⟨a', c', g1, g2, g3⟩
  have HW := Lib.hid hwA
  clear hwA h0 h1 h3 hbA hRA
  go_enter Tryz.func49, Tryz.ntmps49
  go_wp2_with fail
  rw [← HW.out]
  refine wp_region_last (by kernel_rfl) 6 (by kernel_rfl) (by kernel_rfl) (by kernel_rfl)
    (fun u => { tmps := #[.agg #[.slice a L.length c], .string p, .int .i64 m, .pointer (some ⟨w.heap.size, 0, none⟩), undef, undef, .pointer (some ⟨w.heap.size + 1, 0, none⟩), u 0, u 1, u 2, u 3, u 4, u 5], defers := [] })
    (fun _ w7 => Below wA.heap.size wA w7)
    (fun i z w7 => match i with
      | 0 => z = .agg #[.slice a L.length c]
      | 1 => z = .agg #[.slice a L.length c]
      | 2 => z = .string p
      | 3 => z = .int .i64 m
      | 4 => z = .int .i64 (foundI L p m)
      | 5 => ∃ a' c', z = .agg #[.slice a' (wtE L (foundI L p m)).length c'] ∧ w7.ownsRow wA.heap.size 48 9 (.slice a' (wtE L (foundI L p m)).length c') (wtE L (foundI L p m)).length (ecells (wtE L (foundI L p m)))
      | _ => True)
    (fun w7 w8 => Below w7.heap.size w7 w8) (fun _ => undef) (Below.refl _ _).drew ?_ ?_ ?_
  · intro i z w7 w8 hi hR hle
    match i, hi with
    | 0, _ =>
      exact hR
    | 1, _ =>
      exact hR
    | 2, _ =>
      exact hR
    | 3, _ =>
      exact hR
    | 4, _ =>
      exact hR
    | 5, _ =>
      obtain ⟨a', c', h1, h2⟩ := hR
      exact ⟨a', c', h1, own_below h2 hle⟩
    | n + 6, hn => exact absurd hn (by omega)
  · intro i hi u w7 kk hkk hC hdp
    match i, hi with
    | 0, _ =>
      have q0 := (HX.out w7 hC).1.cell
      refine wpOp_step rfl (fun K hK => ?_)
      clear hdp
      go_simp
      exact hK _ _ ⟨.agg #[.slice a L.length c], rfl, rfl, Below.refl _ _, hC⟩
    | 1, _ =>
      have q0 := (HX.out w7 hC).1.cell
      refine wpOp_step rfl (fun K hK => ?_)
      clear hdp
      go_simp
      exact hK _ _ ⟨.agg #[.slice a L.length c], rfl, rfl, Below.refl _ _, hC⟩
    | 2, _ =>
      refine wpOp_step rfl (fun K hK => ?_)
      clear hdp
      go_simp
      exact hK _ _ ⟨.string p, rfl, rfl, Below.refl _ _, hC⟩
    | 3, _ =>
      refine wpOp_step rfl (fun K hK => ?_)
      clear hdp
      go_simp
      exact hK _ _ ⟨.int .i64 m, rfl, rfl, Below.refl _ _, hC⟩
    | 4, _ =>
      have e1 : u 1 = .agg #[.slice a L.length c] := hdp 1 (dep_of (by kernel_rfl))
      have e2 : u 2 = .string p := hdp 2 (dep_of (by kernel_rfl))
      have e3 : u 3 = .int .i64 m := hdp 3 (dep_of (by kernel_rfl))
      have hT := HFd.out w7 hC
      refine wpOp_step rfl (fun K hK => ?_)
      clear hdp
      go_simp
      refine hT.mono ?_
      rintro e w8 ⟨rfl, hb8⟩
      exact hK _ _ ⟨.int .i64 (foundI L p m), by simp [upd, e1, e2, e3], rfl, hb8, hC.trans (hb8.mono hC.size)⟩
    | 5, _ =>
      have e0 : u 0 = .agg #[.slice a L.length c] := hdp 0 (dep_of (by kernel_rfl))
      have e4 : u 4 = .int .i64 (foundI L p m) := hdp 4 (dep_of (by kernel_rfl))
      have hT := HWt.out w7 hC
      refine wpOp_step rfl (fun K hK => ?_)
      clear hdp
      go_simp
      refine hT.mono ?_
      rintro e w8 ⟨a', c', rfl, ho8, hb8⟩
      exact hK _ _ ⟨_, by simp [upd, e0, e4], ⟨a', c', rfl, own_lowB ho8 hC.size⟩, hb8, hC.trans (hb8.mono hC.size)⟩
    | n + 6, hn => exact absurd hn (by omega)
  · intro u w7 kk hkk hC hdp
    have r5 : ∃ a' c', (u 5) = .agg #[.slice a' (wtE L (foundI L p m)).length c'] ∧ w7.ownsRow wA.heap.size 48 9 (.slice a' (wtE L (foundI L p m)).length c') (wtE L (foundI L p m)).length (ecells (wtE L (foundI L p m))) := hdp 5 (by decide)
    obtain ⟨a', c', e5, ho⟩ := r5
    have hv7 := (HX.out w7 hC).2.1
    have u1 := hv7.cell
    have u2 := hv7.frozen
    obtain ⟨k1, k2⟩ := told_row hv7 (by decide) ho
    have k3 := k1.cell
    have HF := Lib.hid (And.intro k3 (And.intro (own_lowB k2 (show w.heap.size ≤ wA.heap.size from by omega)) ((HX.out w7 hC).2.2.setCell (p := ⟨w.heap.size + 1, 0, none⟩) (by simp) (.slice a' (wtE L (foundI L p m)).length c'))))
    refine wpOp_step rfl (fun K hK => ?_)
    clear hdp hC hv7 ho k1 k2 k3
    go_simp
    refine hK _ _ ?_
    clear hK K e5
    go_wp2
    obtain ⟨k3, k2, k4⟩ := HF.out
    try simp only [List.length_cons] at k3
    refine bodyPost_ret (v := .agg #[.slice a' (wtE L (foundI L p m)).length c']) (by simp [results, Tryz.results49, go_sem, k3]) rfl ⟨_, rfl, k2, k4⟩


theorem lit_row {w : World} {B g : Nat} {e : En} (h : w.heap[g]? = some (.cells (enC e) 48 (0, 0))) (hg : B ≤ g) : w.ownsRow B 48 9 (.slice (some ⟨g, 0, none⟩) 1 1) 1 (enL e) :=
  ⟨rfl, .inr ⟨g, 1, enC e, rfl, hg, h, Nat.le_refl _, by unfold maxLen; omega, rfl, rfl⟩⟩
theorem step_append_nil {P : Program} {ops : Array Oper} {o : Oper} {a : Act} {w : World} {K : Act → World → Prop} {Q : Exit → Act → World → Prop} {E : Prop}
    (hg : o.guard = none) (s x : Operand) (t : TypeId) (hop : o.op = Op.call { callee := Callee.builtin Builtin.append, args := #[s, x], argTypes := #[t, t] })
    (base : Nat) (e : TypeId) (i : TypeInfo) (size : Nat) (h1 : P.underlying t = some (.slice e)) (h2 : P.info? e = some i)
    (v : Value) (n : Nat) (xs : List Value) (hs : a.eval s = v) (hown : w.ownsRow base e size v n xs) (hx : a.eval x = .slice none 0 0) (hK : K (a.put o.dst v) w) :
    if Region.wanted o (yielded ops a.tmps) = true then Oper.wp P o a w K Q else E := by
  have hw : Region.wanted o (yielded ops a.tmps) = true := by simp [Region.wanted, hg]
  rw [if_pos hw]
  have hrun := run_append_owned_none (P := P) (w := w) base t o.type e i size h1 h2 v n xs hown
  unfold Oper.wp
  simp [execOp, hop, resolve, invoke, builtin, hs, hx, hrun, Result.andThen]
  exact hK

end Go.Proofs.YtbhnjnoblkfckaaGreatDoor

-- from XStV
/- Walks: storage, by the specification: what is used first; what is not there. -/
namespace Go.Proofs.YtbhnjnoblkfckaaGreatDoor
open Go.RowKit Go.Maps

end Go.Proofs.YtbhnjnoblkfckaaGreatDoor

