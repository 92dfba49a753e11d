/- Walks: storage, by the program: where something is kept. -/
import Derived.Test.YtbhnjnoblkfckaaStFp
import Derived.Test.YtbhnjnoblkfckaaStEn
namespace Go.Proofs.Ytbhnjnoblkfckaa
open Go.RowKit Go.Maps Go.Shelf
attribute [local go_sem] Oper.semAt_some

theorem chn_fact' {W : World} {c mb B N bx k : Nat} {M : List (Nat × En)} (h : Chn W c mb B N M) (hb : W.cell? ⟨bx, 0, none⟩ = some (.pointer (some ⟨c, 0, none⟩))) : LkFact (M.map (·.1)) bx c k W := by
  refine ⟨fun _ => ⟨hb, ?_⟩, fun j b _ hj => ?_⟩
  · have := (ch_facts h.head).1
    rw [this]
    cases M <;> rfl
  · obtain ⟨x, hx, rfl⟩ : ∃ x, M[j]? = some x ∧ x.1 = b := by simpa using hj
    obtain ⟨hlt, rfl⟩ := List.getElem?_eq_some_iff.1 hx
    have hs : M = M.take j ++ M[j] :: M.drop (j + 1) := by rw [← List.drop_eq_getElem_cons hlt, List.take_append_drop]
    have h2 := h
    rw [hs] at h2
    have := (lk_facts (Chn.link (b := M[j].1) (e := M[j].2) h2)).2.2.2.1
    rw [this]
    unfold hdB
    rw [List.head?_drop, List.getElem?_map]
theorem first_mem {M : List (Nat × En)} {p : ByteArray} {m : Int} {b : Nat} (h : firstK p m M = some b) : ∃ x ∈ M, x.1 = b := by
  unfold firstK at h
  obtain ⟨x, hx, rfl⟩ := Option.map_eq_some_iff.1 h
  exact ⟨x, List.mem_of_find?_eq_some hx, rfl⟩

set_option maxRecDepth 100000 in
set_option maxHeartbeats 3200000 in
theorem impl_stofind (v : Value) (L : List En) (p : ByteArray) (m : Int) (w : World) (hR : ERow w v L) (hE : EnsOk 1048576 L) (hn : L.length ≤ 2000000) (hp : p.size ≤ maxLen) (hm : (Lit.int .i64 m).wf = true) :
    Calls Try.prog 7 #[.agg #[v], .string p, .int .i64 m] w fun e w' => e = .returned (.int .i64 (foundI L p m)) ∧ Below w.heap.size w w' := by
  have hro : Fence.wide.round = none := rfl
  have hkey := keyOf_ke hp hm
  have hmt := Try.underlying42
  obtain ⟨wA, hwA⟩ : ∃ wA, wA = (w.alloc (.cells #[v] 29)).alloc (.cells #[.int .i64 0] 3) := ⟨_, rfl⟩
  have hbA : Below w.heap.size w wA := by rw [hwA]; exact ((Below.refl _ _).alloc (Nat.le_refl _) _).alloc (by simp) _
  have hsA : wA.heap.size = w.heap.size + 2 := by rw [hwA]; simp
  have h0 : Boxed wA w.heap.size 29 v := by rw [hwA]; exact (Boxed.new w _ _).alloc _
  have h1 : Boxed wA (w.heap.size + 1) 3 (.int .i64 0) := by
    rw [hwA]
    have := Boxed.new (w.alloc (.cells #[v] 29)) 3 (.int .i64 0)
    rwa [World.size_alloc] at this
  have hC := entries_any v L wA (hR.below (Nat.le_refl _) hbA) hE hn
  obtain ⟨a, c0, rfl, -⟩ := hR
  have t0 := h0.cell
  rw [hwA] at t0
  have HW := Lib.hid hwA
  clear hwA h0 hE
  refine (callsIn_wide (n := 9)).1 ?_
  refine callsIn_of_wp_marks Try.func7 rfl trivial ?_ hro
  simp only [Try.ntmps7, List.size_toArray, List.length_cons, List.length_nil, Nat.reduceAdd, Nat.reduceSub, Array.replicate_succ, Array.replicate_zero, List.push_toArray, List.append_toArray, List.nil_append, List.cons_append]
  gi_wp2_with fail
  rw [← HW.out]
  refine ⟨trivial, ?_⟩
  gi_at_call 11
  refine (callsIn_wide.2 hC).mono ?_
  rintro e w1 ⟨c, mb, M, rfl, hM, hML, hb1⟩
  obtain ⟨q0, q1, f0⟩ := ch_facts hM.head
  obtain ⟨D, hD, hK⟩ := hM.map
  obtain ⟨fv, ps, hrun, hRv⟩ := hD.lookup lawKe hmt (z := .pointer none) (by kernel_rfl) (zd := .nil) (zp := []) rfl hkey
  rw [(hK.2 p m hp hm).2] at hRv
  obtain rfl := lkElem_inv hRv
  unfold ptrO at hrun
  generalize hF : firstK p m M = F at hrun
  have HFst := Lib.hid hF
  clear hC t0 hRv hD hK hkey hmt hF
  gi_wp2_with (refine ⟨trivial, ?_⟩; gi_at_call 12; refine (links_in _ _ _).mono ?_; rintro e w' ⟨rfl, rfl⟩)
  obtain ⟨W0, hW0⟩ : ∃ W0, (w1.alloc (.cells #[.pointer (adO F)] 41)).alloc (.cells #[.pointer (some ⟨c, 0, none⟩)] 39) = W0 := ⟨_, rfl⟩
  have bq := (Boxed.new w1 41 (.pointer (adO F))).alloc (.cells #[.pointer (some ⟨c, 0, none⟩)] 39)
  have bx := Boxed.new (w1.alloc (.cells #[.pointer (adO F)] 41)) 39 (.pointer (some ⟨c, 0, none⟩))
  have hb10 : Below w1.heap.size w1 ((w1.alloc (.cells #[.pointer (adO F)] 41)).alloc (.cells #[.pointer (some ⟨c, 0, none⟩)] 39)) := ((Below.refl _ w1).alloc (Nat.le_refl _) _).alloc (by simp) _
  have hs0 : ((w1.alloc (.cells #[.pointer (adO F)] 41)).alloc (.cells #[.pointer (some ⟨c, 0, none⟩)] 39)).heap.size = w1.heap.size + 2 := by simp
  simp only [World.size_alloc] at bq bx
  rw [hW0] at bq bx hb10 hs0 ⊢
  have hz0 : w1.heap.size + 2 ≤ W0.heap.size := by omega
  clear hs0
  have hs1 := hb1.size
  have hA0 : Below wA.heap.size wA W0 := hb1.trans (hb10.mono hs1)
  have hM0 := hM.below hb10
  have h10 := h1.kept (grown_of_below hA0 none) (by simp)
  have hw0 : Below w.heap.size w W0 := hbA.trans (hA0.mono (by omega))
  have hnd : (M.map (·.1)).Nodup := hM.nodup
  clear hW0 hM hb1 hb10 h1 hbA q0 q1 f0 hrun
  have HI : Hid (∀ W, Below W0.heap.size W0 W → Boxed W w1.heap.size 41 (.pointer (adO F)) ∧ Boxed W (w1.heap.size + 1) 39 (.pointer (some ⟨c, 0, none⟩)) ∧ Boxed W (w.heap.size + 1) 3 (.int .i64 0) ∧ Chn W c mb wA.heap.size L.length M ∧ Below w.heap.size w W) := Lib.hid fun W hW =>
    ⟨bq.kept (grown_of_below hW none) (by simp), bx.kept (grown_of_below hW none) (by simp), h10.kept (grown_of_below hW none) (by simp), hM0.below hW, hw0.trans (hW.mono hw0.size)⟩
  clear bq bx h10 hM0 hw0 hA0
  have hMl : M.length = L.length := by rw [← hML, List.length_map]
  have HML := Lib.hid hML
  have HNd := Lib.hid hnd
  clear hML hnd
  refine wpIn_rangeCnt hro (by decide) (gf := 18) (lb := #[.pointer (some ⟨w1.heap.size + 1, 0, none⟩)]) rfl trivial (enters_of Try.func18 (by kernel_rfl) rfl)
    (links_seq 8 (by decide) (M.map (·.1)) (w1.heap.size + 1) c (by simp; omega)) (fun _ => rfl)
    (fun k W => (∀ j : Nat, j < k → ∀ b, F = some b → (M.map (·.1))[j]? ≠ some b) ∧ Below W0.heap.size W0 W)
    (fun c' _ W => c' = .ret ∧ Boxed W (w.heap.size + 1) 3 (.int .i64 (foundI L p m)) ∧ Below w.heap.size w W)
    (OwnFrom.and (ownFrom_pure _ _) (ownFrom_below (Nat.le_refl _) (Nat.le_refl _)))
    (fun c' => OwnFrom.and (ownFrom_pure _ _) (OwnFrom.and (Own.from (boxed_own _ _ _) _) (ownFrom_below (Nat.le_refl _) (by omega))))
    (fun k W hI => chn_fact' (HI.out W hI.2).2.2.2.1 (HI.out W hI.2).2.1.cell)
    ⟨fun j hj => by omega, Below.refl _ _⟩
    (fun k => { tmps := #[.agg #[.slice a L.length c0], .string p, .int .i64 m, .pointer (some ⟨w.heap.size, 0, none⟩), undef, undef, .pointer (some ⟨w.heap.size + 1, 0, none⟩), .pointer (some ⟨c, 0, none⟩), .pointer (some ⟨w1.heap.size, 0, none⟩), .int .i64 (k : Int), .pointer (adO (M.map (·.1))[k]?), .agg #[.slice a L.length c0], .pointer (some ⟨c, 0, none⟩), .pointer (some ⟨c, 0, none⟩), .pointer (some ⟨c, 0, none⟩), .pointer (some ⟨c, 1, none⟩), .map (some mb), .string p, .int .i64 m, .agg #[.string p, .int .i64 m], .pointer (adO F), .pointer (some ⟨c, 0, none⟩), .func (.func 18) #[] #[.pointer (some ⟨w1.heap.size + 1, 0, none⟩)], .int .i64 (k : Int), .pointer (adO (M.map (·.1))[k]?), undef, undef, undef, undef], defers := [] })
    ?assign ?body ?done ?stop
  case assign =>
    intro l k W K hK
    unfold lkEnc ptrO
    generalize adO (M.map (·.1))[k]? = z at hK ⊢
    gi_wp2
    exact hK
  case body =>
    rintro l k W hl ⟨r, hr⟩ hk ⟨hne, hBW⟩
    obtain ⟨x, hx⟩ : ∃ x, M[k]? = some x := ⟨_, List.getElem?_eq_getElem (by simpa using hk)⟩
    have hps : (M.map (·.1))[k]? = some x.1 := by rw [List.getElem?_map, hx]; rfl
    rw [hps]
    show Code.wpIn _ _ _ _ _ { tmps := #[_, _, _, _, _, _, _, _, _, _, .pointer (some ⟨x.1, 0, none⟩), _, _, _, _, _, _, _, _, _, _, _, _, _, .pointer (some ⟨x.1, 0, none⟩), _, _, _, _], defers := [] } _
    obtain ⟨bq, bx, h10, hM0, hw0⟩ := HI.out W hBW
    have tq := bq.cell
    have t1 := h10.cell
    have f1 := h10.frozen
    have blk : ∀ y, y ∈ M → ∃ e a1 n1 t1, W.heap[y.1]? = some (lkO e a1 n1 t1) := fun y hy => by
      obtain ⟨dom, ah, nx, tw, h2, _, hd⟩ := hM0.links
      exact ⟨_, _, _, _, h2 _ _ (hd y hy)⟩
    by_cases hF : F = some x.1
    · have heq := eql_same W x.1
      have hfi : foundI L p m = (k : Int) := by
        obtain ⟨k', h1, h2, h3⟩ := foundI_some HNd.out (HFst.out.trans hF)
        rw [HML.out] at h1
        rw [h1]
        have hle : ¬ k < k' := fun hlt => h3 k hlt hps
        have hge : ¬ k' < k := fun hlt => hne k' hlt x.1 hF h2
        have : k' = k := by omega
        rw [this]
      have hoth : ∀ j, j ≠ w.heap.size + 1 → (W.setCell ⟨w.heap.size + 1, 0, none⟩ (.int .i64 (k : Int))).heap[j]? = W.heap[j]? := fun j hj => heap_setCell_other W ⟨w.heap.size + 1, 0, none⟩ j _ hj
      have HFin : Hid (KeepsFrom W0.heap.size W (W.setCell ⟨w.heap.size + 1, 0, none⟩ (.int .i64 (k : Int))) ∧ Code.ret = .ret ∧ Boxed (W.setCell ⟨w.heap.size + 1, 0, none⟩ (.int .i64 (k : Int))) (w.heap.size + 1) 3 (.int .i64 (foundI L p m)) ∧ Below w.heap.size w (W.setCell ⟨w.heap.size + 1, 0, none⟩ (.int .i64 (k : Int)))) := Lib.hid (by
        refine ⟨⟨by simp, fun j o hj ho _ => (hoth j (by omega)).trans ho⟩, rfl, ?_, hw0.setCell (p := ⟨w.heap.size + 1, 0, none⟩) (by simp) _⟩
        rw [hfi]; exact h10.set _)
      subst hF
      unfold adO at tq
      clear hne hps hx blk hfi hoth bq bx h10 hM0 hw0 hBW
      gi_wp2
      obtain ⟨g1, -, g3, g4⟩ := HFin.out
      exact ⟨g1, rfl, g3, g4⟩
    · have heq : (binOp .eql 41 (.pointer (some ⟨x.1, 0, none⟩)) (.pointer (adO F))).run Try.prog W = .ok (.bool false) W := by
        cases hFF : F with
        | none => unfold adO; kernel_rfl
        | some b =>
          obtain ⟨y, hy, hyb⟩ := first_mem (HFst.out.trans hFF)
          obtain ⟨e1, a1, n1, t1, hB1⟩ := blk x (List.mem_of_getElem? hx)
          obtain ⟨e2, a2, n2, t2, hB2⟩ := blk y hy
          rw [hyb] at hB2
          exact eql_other (fun e => hF (by rw [hFF, e])) hB1 hB2
      have HFin : Hid (∀ j : Nat, j < k + 1 → ∀ b, F = some b → (M.map (·.1))[j]? ≠ some b) := Lib.hid fun j hj b hb => by
        by_cases e : j = k
        · subst e; rw [hps]; intro e2; injection e2 with e2; exact hF (by rw [hb, e2])
        · exact hne j (by omega) b hb
      have HBW := Lib.hid hBW
      clear hne hps hx blk bq bx h10 hM0 hw0 hBW hF
      gi_wp2
      exact ⟨⟨Nat.le_refl _, fun _ _ _ h _ => h⟩, HFin.out, HBW.out⟩
  case done =>
    rintro D2 W hD ⟨hne, hBW⟩ hK
    obtain ⟨bq, bx, h10, hM0, hw0⟩ := HI.out W hBW
    have hfi : foundI L p m = -1 := by
      cases hFF : F with
      | none => have := foundI_none (HFst.out.trans hFF); rw [HML.out] at this; exact this
      | some b =>
        obtain ⟨k', h1, h2, h3⟩ := foundI_some HNd.out (HFst.out.trans hFF)
        have hlt := (List.getElem?_eq_some_iff.1 h2).1
        exact absurd h2 (hne k' hlt b hFF)
    have HFI := Lib.hid hfi
    have t1 := h10.cell
    have f1 := h10.frozen
    have hk1 := KeepsOthers.setCell W ⟨w.heap.size + 1, 0, none⟩ (.int .i64 (-1))
    have hK' := hk1.same D2 _ hK rfl
    have hb9 := h10.set (.int .i64 (-1))
    have HF := Lib.hid (And.intro hb9 (And.intro hK' hw0))
    clear hne hfi bq bx h10 hM0 hw0 hBW hb9 hK' hk1 hK
    gi_wp2
    obtain ⟨hb9, hK', hw0⟩ := HF.out
    refine ⟨by simp, .inl ⟨_, _, rfl, run_takeDeferred hK', ?_⟩⟩
    have hc5 := cell_kept hb9.cell (grownBy_putObj' _ D2 (.deferred none)) (fun r e => by cases e; exact ⟨_, hK', rfl⟩)
    refine ⟨.int .i64 (-1), ?_, by rw [HFI.out], ?_⟩
    · simp [results, Try.f7, go_sem, hc5]
    · exact (hw0.setCell (p := ⟨w.heap.size + 1, 0, none⟩) (by simp) _).trans (belowK_b (w := w) (Nat.le_refl _) _ D2 _ _ (by omega) hK' rfl rfl)
  case stop =>
    rintro D2 c' k W hD hk ⟨rfl, hb9, hBw⟩ hK
    have HF := Lib.hid (And.intro hb9 (And.intro hK hBw))
    clear hb9 hK hBw
    gi_wp2
    obtain ⟨hb9, hK', hw0⟩ := HF.out
    refine ⟨by simp, .inl ⟨_, _, rfl, run_takeDeferred hK', ?_⟩⟩
    have hc5 := cell_kept hb9.cell (grownBy_putObj' _ D2 (.deferred none)) (fun r e => by cases e; exact ⟨_, hK', rfl⟩)
    refine ⟨.int .i64 (foundI L p m), ?_, rfl, ?_⟩
    · simp [results, Try.f7, go_sem, hc5]
    · exact hw0.trans (belowK_b (w := w) (Nat.le_refl _) _ D2 _ _ (by omega) hK' rfl rfl)
end Go.Proofs.Ytbhnjnoblkfckaa
