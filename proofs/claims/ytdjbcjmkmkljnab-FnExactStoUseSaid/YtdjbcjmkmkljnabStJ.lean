/- Walks: storage, by the program: what is used comes first. -/
import Derived.Test.YtdjbcjmkmkljnabStI
namespace Go.Proofs.Ytdjbcjmkmkljnab
open Go.RowKit Go.Maps Go.Shelf
attribute [local go_sem] Oper.semAt_some

set_option maxRecDepth 100000 in
set_option maxHeartbeats 3200000 in
theorem impl_stouse (v : Value) (L : List En) (i : Int) (w : World) (hR : ERow w v L) (hE : EnsOk 1048576 L) (hn : L.length ≤ 2000000) :
    Calls Try.prog 9 #[.agg #[v], .int .i64 i] w (SRet w (useE L i)) := by
  have hro : Fence.wide.round = none := rfl
  obtain ⟨wA, hwA⟩ : ∃ wA, wA = ((w.alloc (.cells #[v] 28)).alloc (.cells #[.int .i64 i] 3)).alloc (.cells #[.slice none 0 0] 28) := ⟨_, rfl⟩
  have hbA : Below w.heap.size w wA := by rw [hwA]; exact (((Below.refl _ _).alloc (Nat.le_refl _) _).alloc (by simp) _).alloc (by simp; omega) _
  have hsA : wA.heap.size = w.heap.size + 3 := by rw [hwA]; simp
  have h0 : Boxed wA w.heap.size 28 v := by rw [hwA]; exact ((Boxed.new w _ _).alloc _).alloc _
  have h1 : Boxed wA (w.heap.size + 1) 3 (.int .i64 i) := by
    rw [hwA]
    have := Boxed.new (w.alloc (.cells #[v] 28)) 3 (.int .i64 i)
    rw [World.size_alloc] at this
    exact this.alloc _
  have h2 : Boxed wA (w.heap.size + 2) 28 (.slice none 0 0) := by
    rw [hwA]
    have := Boxed.new ((w.alloc (.cells #[v] 28)).alloc (.cells #[.int .i64 i] 3)) 28 (.slice none 0 0)
    rw [World.size_alloc, World.size_alloc] at this
    exact this
  have hC := entries_any v L wA (hR.below (Nat.le_refl _) hbA) hE hn
  obtain ⟨a, c0, rfl, -⟩ := hR
  have t0 := h0.cell
  rw [hwA] at t0
  have HW := Lib.hid hwA
  clear hwA h0
  refine (callsIn_wide (n := 9)).1 ?_
  refine callsIn_of_wp_marks Try.func9 rfl trivial ?_ hro
  simp only [Try.ntmps9, List.size_toArray, List.length_cons, List.length_nil, Nat.reduceAdd, Nat.reduceSub, Array.replicate_succ, Array.replicate_zero, List.push_toArray, List.append_toArray, List.nil_append, List.cons_append]
  gi_wp2_with fail
  rw [← HW.out]
  refine ⟨trivial, ?_⟩
  gi_at_call 20
  refine (callsIn_wide.2 hC).mono ?_
  rintro e w1 ⟨c, mb, M, rfl, hM, hML, hb1⟩
  clear hC t0
  gi_wp2_with (refine ⟨trivial, ?_⟩; gi_at_call 21; refine (links_in _ _ _).mono ?_; rintro e w' ⟨rfl, rfl⟩)
  obtain ⟨W0, hW0⟩ : ∃ W0, (w1.alloc (.cells #[.pointer (some ⟨c, 0, none⟩)] 45)).alloc (.cells #[.pointer (some ⟨c, 0, none⟩)] 45) = W0 := ⟨_, rfl⟩
  have bq := (Boxed.new w1 45 (.pointer (some ⟨c, 0, none⟩))).alloc (.cells #[.pointer (some ⟨c, 0, none⟩)] 45)
  have bx := Boxed.new (w1.alloc (.cells #[.pointer (some ⟨c, 0, none⟩)] 45)) 45 (.pointer (some ⟨c, 0, none⟩))
  have hb10 : Below w1.heap.size w1 ((w1.alloc (.cells #[.pointer (some ⟨c, 0, none⟩)] 45)).alloc (.cells #[.pointer (some ⟨c, 0, none⟩)] 45)) := ((Below.refl _ w1).alloc (Nat.le_refl _) _).alloc (by simp) _
  have hs0 : ((w1.alloc (.cells #[.pointer (some ⟨c, 0, none⟩)] 45)).alloc (.cells #[.pointer (some ⟨c, 0, none⟩)] 45)).heap.size = w1.heap.size + 2 := by simp
  simp only [World.size_alloc] at bq bx
  rw [hW0] at bq bx hb10 hs0 ⊢
  have hs1 := hb1.size
  have hA0 : Below wA.heap.size wA W0 := hb1.trans (hb10.mono hs1)
  have hM0 := hM.below hb10
  have h10 := h1.kept (grown_of_below hA0 none) (by simp)
  have h20 := h2.kept (grown_of_below hA0 none) (by simp)
  have hw0 : Below w.heap.size w W0 := hbA.trans (hA0.mono (by omega))
  have hmb := (hM.cs (j := mb) (.inr (.inl rfl))).2
  have HLow : Hid (∀ j, Cs c mb M j → j < w1.heap.size) := Lib.hid fun j hj => (hM.cs hj).2
  clear hW0 hM hb1 hb10 h1 h2 hbA
  have HI : Hid (∀ W, Below W0.heap.size W0 W → Boxed W w1.heap.size 45 (.pointer (some ⟨c, 0, none⟩)) ∧ Boxed W (w1.heap.size + 1) 45 (.pointer (some ⟨c, 0, none⟩)) ∧ Boxed W (w.heap.size + 1) 3 (.int .i64 i) ∧ Boxed W (w.heap.size + 2) 28 (.slice none 0 0) ∧ Chn W c mb wA.heap.size L.length M ∧ Below w.heap.size w W) := Lib.hid fun W hW =>
    ⟨bq.kept (grown_of_below hW none) (by simp), bx.kept (grown_of_below hW none) (by simp), h10.kept (grown_of_below hW none) (by simp), h20.kept (grown_of_below hW none) (by simp), hM0.below hW, hw0.trans (hW.mono hw0.size)⟩
  clear bq bx h10 h20 hM0 hw0 hA0
  have hMl : M.length = L.length := by rw [← hML, List.length_map]
  have HML := Lib.hid hML
  clear hML
  refine wpIn_rangeCnt hro (by decide) (gf := 39) (lb := #[.pointer (some ⟨w1.heap.size + 1, 0, none⟩)]) rfl trivial (enters_of Try.func39 (by kernel_rfl) rfl)
    (links_seq 8 (by decide) (M.map (·.1)) (w1.heap.size + 1) c (by simp; omega)) (fun _ => rfl)
    (fun k W => (∀ j : Nat, j < k → (j : Int) ≠ i) ∧ Below W0.heap.size W0 W)
    (fun c' _ W => c' = .exit 0 ∧ (∃ M', Chn W c mb wA.heap.size (L.length + 2) M' ∧ M'.map (·.2) = useE L i) ∧ Boxed W w1.heap.size 45 (.pointer (some ⟨c, 0, none⟩)) ∧ Boxed W (w.heap.size + 2) 28 (.slice none 0 0) ∧ Below w.heap.size w W)
    (OwnFrom.and (ownFrom_pure _ _) (ownFrom_below (Nat.le_refl _) (Nat.le_refl _)))
    (fun c' => OwnFrom.and (ownFrom_pure _ _) (OwnFrom.and (fun _ X Y row ⟨M', hm, he⟩ hg hr => ⟨M', chn_turned hm hg (by omega) hr, he⟩) (OwnFrom.and (Own.from (boxed_own _ _ _) _) (OwnFrom.and (Own.from (boxed_own _ _ _) _) (ownFrom_below (Nat.le_refl _) (by omega))))))
    (fun k W hI => chn_fact (HI.out W hI.2).2.2.2.2.1 (HI.out W hI.2).2.1.cell)
    ⟨fun j hj => by omega, Below.refl _ _⟩
    (fun k => { tmps := #[.agg #[.slice a L.length c0], .int .i64 i, .pointer (some ⟨w.heap.size, 0, none⟩), .pointer (some ⟨w.heap.size + 1, 0, none⟩), .pointer (some ⟨w.heap.size + 1 + 1, 0, none⟩), .pointer (some ⟨w1.heap.size, 0, none⟩), .int .i64 (k : Int), .pointer (adO (M.map (·.1))[k]?), .agg #[.slice a L.length c0], .pointer (some ⟨c, 0, none⟩), .pointer (some ⟨c, 0, none⟩), .func (.func 39) #[] #[.pointer (some ⟨w1.heap.size + 1, 0, none⟩)], .int .i64 (k : Int), .pointer (adO (M.map (·.1))[k]?), undef, undef, undef, undef, undef, undef, undef, undef, undef, undef, undef, undef, undef, undef, undef, undef, undef, undef], defers := [] })
    ?assign ?body ?done ?stop
  case assign =>
    intro l k W K hK
    unfold lkEnc ptrO
    generalize adO (M.map (·.1))[k]? = z at hK ⊢
    gi_wp2
    exact hK
  case body =>
    rintro l k W hl ⟨r, hr⟩ hk ⟨hne, hBW⟩
    obtain ⟨x, hx⟩ : ∃ x, M[k]? = some x := ⟨_, List.getElem?_eq_getElem (by simpa using hk)⟩
    have hps : (M.map (·.1))[k]? = some x.1 := by rw [List.getElem?_map, hx]; rfl
    rw [hps]
    show Code.wpIn _ _ _ _ _ { tmps := #[_, _, _, _, _, _, _, .pointer (some ⟨x.1, 0, none⟩), _, _, _, _, _, .pointer (some ⟨x.1, 0, none⟩), _, _, _, _, _, _, _, _, _, _, _, _, _, _, _, _, _, _], defers := [] } _
    obtain ⟨bq, bx, h10, h20, hM0, hw0⟩ := HI.out W hBW
    have t1 := h10.cell
    have tq := bq.cell
    by_cases hki : (k : Int) = i
    · subst hki
      obtain ⟨hlt, hx'⟩ := List.getElem?_eq_some_iff.1 hx
      have hs : M = M.take k ++ (x.1, x.2) :: M.drop (k + 1) := by
        have : M = M.take k ++ M[k] :: M.drop (k + 1) := by rw [← List.drop_eq_getElem_cons hlt, List.take_append_drop]
        rw [hx'] at this; exact this
      have hUse : (x.2 :: (M.take k ++ M.drop (k + 1)).map (·.2)) = useE L (k : Int) := by
        unfold useE
        rw [if_pos (by omega), Int.toNat_natCast, ← HML.out, List.getElem?_map, hx]
        show _ = x.2 :: _
        rw [List.eraseIdx_eq_take_drop_succ, List.map_append, List.map_take, List.map_drop]
      have hM1 := hM0
      rw [hs] at hM1
      have he := hM1.ok (x.1, x.2) (by simp)
      have hlk := hM1.link
      have hC := remove_any c mb _ _ x.1 _ _ x.2 W hM1 (by unfold maxLen; omega)
      have hcs : ∀ j, Cs c mb (M.take k ++ (x.1, x.2) :: M.drop (k + 1)) j → wA.heap.size ≤ j ∧ j < w1.heap.size := fun j hj => by
        rw [← hs] at hj
        exact ⟨(hM0.cs hj).1, HLow.out j hj⟩
      have HCs := Lib.hid hcs
      have HUse := Lib.hid hUse
      have Hbq := Lib.hid bq
      have Hh2 := Lib.hid h20
      have Hw0 := Lib.hid hw0
      have HLk := Lib.hid hlk
      have HE2 := Lib.hid he
      clear hne hs hUse hM0 hM1 hcs hx hx' hps hlk he bx h10 bq h20 hw0
      gi_wp2_with fail
      refine ⟨trivial, ?_⟩
      gi_at_call 22
      refine (CallsIn.inRound l (callsIn_wide.2 hC)).mono ?_
      rintro e' w4 ⟨rfl, hM4, hb4, hO4⟩
      have hq4 : Boxed w4 w1.heap.size 45 (.pointer (some ⟨c, 0, none⟩)) := (hO4.block _ Hbq.out.lt (fun hc => by have := HCs.out _ hc; omega)).trans Hbq.out
      have hr4 : Boxed w4 (w.heap.size + 2) 28 (.slice none 0 0) := (hO4.block _ Hh2.out.lt (fun hc => by have := HCs.out _ hc; omega)).trans Hh2.out
      have hl4 := hb4.trans HLk.out
      have tq4 := hq4.cell
      have HX4 : Hid (∀ w7, Below w4.heap.size w4 w7 → w7.heap[x.1]? = some (lkO x.2 (endB none (M.take k)) (hdB (M.drop (k + 1))) (firstK x.2.place x.2.mask (M.drop (k + 1)))) ∧ Boxed w7 w1.heap.size 45 (.pointer (some ⟨c, 0, none⟩))) := Lib.hid fun w7 h7 =>
        ⟨(h7.block _ (Array.getElem?_eq_some_iff.1 hl4).1).trans hl4, hq4.kept (grown_of_below h7 none) (by simp)⟩
      have HPush : Hid (∀ w7, Below w4.heap.size w4 w7 → Calls Try.prog 23 #[.pointer (some ⟨c, 0, none⟩), .agg #[.string x.2.place, .int .i64 x.2.mask], .agg #[.string x.2.place, .int .i64 x.2.mask, .int .i64 x.2.rsp.code, .int .i64 x.2.rsp.mx, .bool x.2.rsp.hide, .string x.2.rsp.tag, .int .i64 x.2.rsp.cod, .string x.2.rsp.body, .int .i64 x.2.tm]] w7 (PushPost c mb wA.heap.size (L.length + 1) (M.take k ++ M.drop (k + 1)) x.2 w7)) := Lib.hid fun w7 h7 =>
        push_any _ _ _ _ _ x.2 w7 (hM4.below h7) HE2.out (by unfold maxLen; omega)
      have HFin : Hid (∀ w7 w8 bl, Below w4.heap.size w4 w7 → Chn w8 c mb wA.heap.size (L.length + 1 + 1) ((bl, x.2) :: (M.take k ++ M.drop (k + 1))) → Only (Cs c mb (M.take k ++ M.drop (k + 1))) w7 w8 →
          KeepsFrom W0.heap.size W w8 ∧ Code.exit 0 = .exit 0 ∧ (∃ M', Chn w8 c mb wA.heap.size (L.length + 2) M' ∧ M'.map (·.2) = useE L (k : Int)) ∧ Boxed w8 w1.heap.size 45 (.pointer (some ⟨c, 0, none⟩)) ∧ Boxed w8 (w.heap.size + 2) 28 (.slice none 0 0) ∧ Below w.heap.size w w8) := Lib.hid fun w7 w8 bl h7 hC8 hO8 => by
        have hsub : ∀ j, Cs c mb (M.take k ++ M.drop (k + 1)) j → wA.heap.size ≤ j ∧ j < w1.heap.size := fun j hj => HCs.out j (cs_less hj)
        have hO47 : Only (fun j => wA.heap.size ≤ j ∧ j < w1.heap.size) W w8 := ((hO4.mono fun j _ hj => HCs.out j hj).trans (only_of_below h7)).trans (hO8.mono fun j _ hj => hsub j hj)
        refine ⟨⟨hO47.size, fun j o hj ho _ => (hO47.block j (Array.getElem?_eq_some_iff.1 ho).1 (by omega)).trans ho⟩, rfl, ⟨_, hC8, HUse.out⟩, (hO47.block _ Hbq.out.lt (by omega)).trans Hbq.out, (hO47.block _ Hh2.out.lt (by omega)).trans Hh2.out, Hw0.out.trans (hO47.below (by have := Hw0.out.size; omega) fun j hj => by omega)⟩
      clear hC hM4 hb4 hO4 hl4 hq4 hr4 HLk t1 tq
      gi_wp2_with fail
      refine wpIn_region_last (by kernel_rfl) 9 (by kernel_rfl) (by kernel_rfl) (by kernel_rfl)
        (fun z => { tmps := #[.agg #[.slice a L.length c0], .int .i64 (k : Int), .pointer (some ⟨w.heap.size, 0, none⟩), .pointer (some ⟨w.heap.size + 1, 0, none⟩), .pointer (some ⟨w.heap.size + 1 + 1, 0, none⟩), .pointer (some ⟨w1.heap.size, 0, none⟩), .int .i64 (k : Int), .pointer (some ⟨x.1, 0, none⟩), .agg #[.slice a L.length c0], .pointer (some ⟨c, 0, none⟩), .pointer (some ⟨c, 0, none⟩), .func (.func 39) #[] #[.pointer (some ⟨w1.heap.size + 1, 0, none⟩)], .int .i64 (k : Int), .pointer (some ⟨x.1, 0, none⟩), .int .i64 (k : Int), .int .i64 (k : Int), .bool true, .pointer (some ⟨c, 0, none⟩), .pointer (some ⟨x.1, 0, none⟩), .tuple #[], z 0, z 1, z 2, z 3, z 4, z 5, z 6, z 7, z 8, undef, undef, undef], defers := [] })
        (fun _ W => Below w4.heap.size w4 W)
        (fun i xv _ => xv = ([.pointer (some ⟨c, 0, none⟩), .pointer (some ⟨x.1, 0, none⟩), .pointer (some ⟨x.1, 0, none⟩), .pointer (some ⟨x.1, 0, none⟩), .agg #[.string x.2.place, .int .i64 x.2.mask], .pointer (some ⟨x.1, 0, none⟩), .pointer (some ⟨x.1, 0, none⟩), .pointer (some ⟨x.1, 2, none⟩), .agg #[.string x.2.place, .int .i64 x.2.mask, .int .i64 x.2.rsp.code, .int .i64 x.2.rsp.mx, .bool x.2.rsp.hide, .string x.2.rsp.tag, .int .i64 x.2.rsp.cod, .string x.2.rsp.body, .int .i64 x.2.tm]] : List Value).getD i undef)
        (fun _ _ => True) (fun _ => undef) (Below.refl _ _).drew
        (fun _ _ _ _ _ h _ => h) ?_ ?_
      · intro i hi z w7 kk hkk hC hdp
        match i, hi with
        | 0, _ =>
          have q0 := (HX4.out w7 hC).2.cell
          refine wpOpIn_step rfl (fun K hK => ?_)
          clear hdp
          go_simp
          exact hK _ _ ⟨.pointer (some ⟨c, 0, none⟩), rfl, rfl, trivial, hC⟩
        | 1, _ =>
          refine wpOpIn_step rfl (fun K hK => ?_)
          clear hdp
          go_simp
          exact hK _ _ ⟨.pointer (some ⟨x.1, 0, none⟩), rfl, rfl, trivial, hC⟩
        | 2, _ =>
          have e1 : z 1 = .pointer (some ⟨x.1, 0, none⟩) := hdp 1 (dep_of (by kernel_rfl))
          refine wpOpIn_step rfl (fun K hK => ?_)
          clear hdp
          go_simp
          exact hK _ _ ⟨.pointer (some ⟨x.1, 0, none⟩), by simp [upd, e1], rfl, trivial, hC⟩
        | 3, _ =>
          have e2 : z 2 = .pointer (some ⟨x.1, 0, none⟩) := hdp 2 (dep_of (by kernel_rfl))
          refine wpOpIn_step rfl (fun K hK => ?_)
          clear hdp
          go_simp
          exact hK _ _ ⟨.pointer (some ⟨x.1, 0, none⟩), by simp [upd, e2], rfl, trivial, hC⟩
        | 4, _ =>
          obtain ⟨⟨y0, y1⟩, ⟨y2, y3, y4, y5, y6, y7, y8, y9, y10⟩, -⟩ := lk_facts (HX4.out w7 hC).1
          have e3 : z 3 = .pointer (some ⟨x.1, 0, none⟩) := hdp 3 (dep_of (by kernel_rfl))
          refine wpOpIn_step rfl (fun K hK => ?_)
          clear hdp
          go_simp
          exact hK _ _ ⟨.agg #[.string x.2.place, .int .i64 x.2.mask], by simp [upd, e3], rfl, trivial, hC⟩
        | 5, _ =>
          refine wpOpIn_step rfl (fun K hK => ?_)
          clear hdp
          go_simp
          exact hK _ _ ⟨.pointer (some ⟨x.1, 0, none⟩), rfl, rfl, trivial, hC⟩
        | 6, _ =>
          have e5 : z 5 = .pointer (some ⟨x.1, 0, none⟩) := hdp 5 (dep_of (by kernel_rfl))
          refine wpOpIn_step rfl (fun K hK => ?_)
          clear hdp
          go_simp
          exact hK _ _ ⟨.pointer (some ⟨x.1, 0, none⟩), by simp [upd, e5], rfl, trivial, hC⟩
        | 7, _ =>
          have e6 : z 6 = .pointer (some ⟨x.1, 0, none⟩) := hdp 6 (dep_of (by kernel_rfl))
          refine wpOpIn_step rfl (fun K hK => ?_)
          clear hdp
          go_simp
          exact hK _ _ ⟨.pointer (some ⟨x.1, 2, none⟩), by simp [upd, e6], rfl, trivial, hC⟩
        | 8, _ =>
          obtain ⟨⟨y0, y1⟩, ⟨y2, y3, y4, y5, y6, y7, y8, y9, y10⟩, -⟩ := lk_facts (HX4.out w7 hC).1
          have e7 : z 7 = .pointer (some ⟨x.1, 2, none⟩) := hdp 7 (dep_of (by kernel_rfl))
          refine wpOpIn_step rfl (fun K hK => ?_)
          clear hdp
          go_simp
          exact hK _ _ ⟨.agg #[.string x.2.place, .int .i64 x.2.mask, .int .i64 x.2.rsp.code, .int .i64 x.2.rsp.mx, .bool x.2.rsp.hide, .string x.2.rsp.tag, .int .i64 x.2.rsp.cod, .string x.2.rsp.body, .int .i64 x.2.tm], by simp [upd, e7], rfl, trivial, hC⟩
        | n + 9, hn => exact absurd hn (by omega)
      · intro z w7 kk hkk hC hdp
        have e0 : z 0 = .pointer (some ⟨c, 0, none⟩) := hdp 0 (by decide)
        have e4 : z 4 = .agg #[.string x.2.place, .int .i64 x.2.mask] := hdp 4 (by decide)
        have e8 : z 8 = .agg #[.string x.2.place, .int .i64 x.2.mask, .int .i64 x.2.rsp.code, .int .i64 x.2.rsp.mx, .bool x.2.rsp.hide, .string x.2.rsp.tag, .int .i64 x.2.rsp.cod, .string x.2.rsp.body, .int .i64 x.2.tm] := hdp 8 (by decide)
        refine wpOpIn_step rfl (fun K hK => ?_)
        clear hdp
        go_simp
        refine ⟨trivial, (CallsIn.inRound l (callsIn_wide.2 (HPush.out w7 hC))).mono ?_⟩
        rintro e' w8 ⟨rfl, bl, hbl, hC8, hO8⟩
        have HP := Lib.hid (HFin.out w7 w8 bl hC hC8 hO8)
        refine hK _ _ ?_
        clear hK K hC hC8 hO8 hbl e8
        gi_wp2
        obtain ⟨f1, -, f3⟩ := HP.out
        exact ⟨f1, rfl, f3⟩
    · have hne' : ∀ j : Nat, j < k + 1 → (j : Int) ≠ i := fun j hj => by
        by_cases ej : j = k
        · subst ej; exact hki
        · exact hne j (by omega)
      have HF : Hid (KeepsFrom W0.heap.size W W ∧ (∀ j : Nat, j < k + 1 → (j : Int) ≠ i) ∧ Below W0.heap.size W0 W) := Lib.hid ⟨KeepsFrom.refl _ _, hne', hBW⟩
      clear hne hne' hM0 hw0 bx h10 h20 bq hx hps
      gi_wp2
      exact HF.out
  case done =>
    rintro D W hD ⟨hne, hBW⟩ hK
    obtain ⟨bq, -, -, hr, hM1, hBw⟩ := HI.out W hBW
    have hU : useE L i = L := by
      unfold useE
      by_cases hi : 0 ≤ i
      · rw [if_pos hi]
        by_cases hlt : i.toNat < L.length
        · exact absurd (by omega) (hne i.toNat (by simp; omega))
        · rw [List.getElem?_eq_none (by omega)]
      · rw [if_neg hi]
    have HU := Lib.hid hU
    have tq := bq.cell
    clear bq hne hBW hU
    have hC3 := store_of c mb _ _ M W hM1 (by omega)
    rw [HML.out, hMl] at hC3
    clear hM1
    gi_wp2_with fail
    refine ⟨trivial, ?_⟩
    gi_at_call 24
    refine (callsIn_wide.2 hC3).mono ?_
    rintro e w3 ⟨v', rfl, ho3, hb3⟩
    obtain ⟨a', c', rfl⟩ := own_slice ho3
    have h23 := hr.kept (grown_of_below hb3 none) (by simp)
    have u1 := h23.cell
    have u2 := h23.frozen
    obtain ⟨k1, k2⟩ := told_row h23 (by decide) ho3
    have hK3 := (hb3.block D (Array.getElem?_eq_some_iff.1 hK).1).trans hK
    have hk1 := KeepsOthers.setCell w3 ⟨w.heap.size + 2, 0, none⟩ (.slice a' L.length c')
    have hK' := hk1.same D _ hK3 rfl
    have hB3 : Below w.heap.size w w3 := hBw.trans (hb3.mono hBw.size)
    have HF := Lib.hid (And.intro k1 (And.intro k2 (And.intro hK' hB3)))
    clear hC3 hb3 h23 k1 k2 ho3 hK hK3 hk1 hK' hB3
    gi_wp2
    obtain ⟨k1, k2, hK', hB3⟩ := HF.out
    refine ⟨by simp, .inl ⟨_, _, rfl, run_takeDeferred hK', ?_⟩⟩
    have hc5 := cell_kept k1.cell (grownBy_putObj' _ D (.deferred none)) (fun r e => by cases e; exact ⟨_, hK', rfl⟩)
    refine ⟨.agg #[.slice a' L.length c'], ?_, _, rfl, ?_, ?_⟩
    · simp [results, Try.f9, go_sem, hc5]
    · rw [HU.out]; exact ownsRow_putObj (own_lowB k2 hBw.size) _ hK' rfl
    · exact (hB3.setCell (p := ⟨w.heap.size + 2, 0, none⟩) (by simp) _).trans (belowK_b (w := w) (Nat.le_refl _) _ D _ _ (by omega) hK' rfl rfl)
  case stop =>
    rintro D c' k W hD hk ⟨rfl, ⟨M', hM', hu⟩, hq, hr, hBw⟩ hK
    have tq := hq.cell
    have hl' : M'.length = (useE L i).length := by rw [← hu, List.length_map]
    have hul : (useE L i).length ≤ L.length := by
      unfold useE
      split
      · split
        · rename_i h
          have := (List.getElem?_eq_some_iff.1 h).1
          rw [List.length_cons, List.length_eraseIdx, if_pos this]; omega
        · exact Nat.le_refl _
      · exact Nat.le_refl _
    have hB' := HI
    clear hq hB'
    generalize useE L i = U at *
    have hC3 := store_of c mb _ _ M' W hM' (by omega)
    rw [hu, hl'] at hC3
    clear hM'
    gi_wp2_with fail
    refine ⟨trivial, ?_⟩
    gi_at_call 24
    refine (callsIn_wide.2 hC3).mono ?_
    rintro e w3 ⟨v', rfl, ho3, hb3⟩
    obtain ⟨a', c', rfl⟩ := own_slice ho3
    have h23 := hr.kept (grown_of_below hb3 none) (by simp)
    have u1 := h23.cell
    have u2 := h23.frozen
    obtain ⟨k1, k2⟩ := told_row h23 (by decide) ho3
    have hK3 := (hb3.block D (Array.getElem?_eq_some_iff.1 hK).1).trans hK
    have hk1 := KeepsOthers.setCell w3 ⟨w.heap.size + 2, 0, none⟩ (.slice a' U.length c')
    have hK' := hk1.same D _ hK3 rfl
    have hB3 : Below w.heap.size w w3 := hBw.trans (hb3.mono hBw.size)
    have HF := Lib.hid (And.intro k1 (And.intro k2 (And.intro hK' hB3)))
    clear hC3 hb3 h23 k1 k2 ho3 hK hK3 hk1 hK' hB3
    gi_wp2
    obtain ⟨k1, k2, hK', hB3⟩ := HF.out
    refine ⟨by simp, .inl ⟨_, _, rfl, run_takeDeferred hK', ?_⟩⟩
    have hc5 := cell_kept k1.cell (grownBy_putObj' _ D (.deferred none)) (fun r e => by cases e; exact ⟨_, hK', rfl⟩)
    refine ⟨.agg #[.slice a' U.length c'], ?_, _, rfl, ?_, ?_⟩
    · simp [results, Try.f9, go_sem, hc5]
    · exact ownsRow_putObj (own_lowB k2 hBw.size) _ hK' rfl
    · exact (hB3.setCell (p := ⟨w.heap.size + 2, 0, none⟩) (by simp) _).trans (belowK_b (w := w) (Nat.le_refl _) _ D _ _ (by omega) hK' rfl rfl)
end Go.Proofs.Ytdjbcjmkmkljnab
