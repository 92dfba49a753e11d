/- Walks: one house by itself, by the program. -/
import Derived.Test.YtojmfcpkmknleaaDoorCfgB
namespace Go.Proofs.YtojmfcpkmknleaaDoor
open Go.RowKit Go.Shelf Go.Maps
attribute [local go_sem] Oper.semAt_some

/-- House number k alone; none, if houses are not ok, or there is no such one. -/
def aloneL (hs : List Hs) (k : Int) : List Hs := if cfgB hs = true ∧ 0 ≤ k ∧ k < hs.length then [hget hs k.toNat] else []
/-- One house or none, in memory of the call's own. -/
def RAl (w : World) (B : Nat) (L : List Hs) (u : Value) : Prop :=
  (L = [] ∧ u = .slice none 0 0) ∨ ∃ g us h, L = [h] ∧ u = .slice (some ⟨g, 0, none⟩) 1 1 ∧ HF w B g 1 (hget [h]) us
theorem RAl.row {w : World} {B : Nat} {L : List Hs} {u : Value} (h : RAl w B L u) : HRow w u L := by
  rcases h with ⟨rfl, rfl⟩ | ⟨g, us, x, rfl, rfl, hf⟩
  · exact ⟨none, 0, rfl, Nat.le_refl _, Nat.zero_le _, fun j f hj => by simp at hj⟩
  · exact HF.row (hs := [x]) hf (Nat.le_refl _) (by decide)
theorem hf_own {w w' : World} {B g n D : Nat} {F : Nat → Hs} {us : Nat → Value} {row : Option Nat} (h : HF w B g n F us) (hg : w.grownBy w' row) (hr : ∀ r, row = some r → D ≤ r ∧ ∃ o : Obj, w.heap[r]? = some o ∧ o.isCells = false) : HF w' B g n F us := by
  obtain ⟨h0, ⟨cur, t, hh, hc⟩, ho, hd⟩ := h
  have hgl := (Array.getElem?_eq_some_iff.1 hh).1
  refine HF.same ⟨h0, ⟨cur, t, hh, hc⟩, ho, hd⟩ (hg.block g hgl (fun e => ?_)) (fun i b hi hb => hg.block b ((ho i hi).1.lt b hb).2 (fun e => ?_))
  · obtain ⟨o, ho2, hc2⟩ := (hr g e.symm).2
    rw [hh] at ho2; cases ho2; cases hc2
  · obtain ⟨o, ho2, hc2⟩ := (hr b e.symm).2
    rcases (ho i hi).1.2 with ⟨q, _⟩ | ⟨g', cap, cur', q, _, hh', _⟩
    · rw [q] at hb; cases hb
    · rw [q] at hb
      have : g' = b := by simpa [Value.ownBlock] using hb
      subst this
      rw [hh'] at ho2; cases ho2; cases hc2
theorem hf_one {w : World} {B g gk c : Nat} {x : Hs} {T : TypeId} (hB : B ≤ g) (hh : w.heap[g]? = some (.cells #[.slice (some ⟨gk, 0, none⟩) x.names.length c, .int .i64 x.key, .int .i64 x.maxN, .int .i64 x.maxB] T (0, 0)))
    (ho : w.ownsRow B 9 1 (.slice (some ⟨gk, 0, none⟩) x.names.length c) x.names.length (x.names.map Value.string)) (hne : gk ≠ g) : HF w B g 1 (hget [x]) (fun _ => .slice (some ⟨gk, 0, none⟩) x.names.length c) := by
  refine ⟨hB, ⟨_, T, hh, by simp, fun i hi => ?_⟩, fun i hi => ?_, fun i j hij hj => absurd hij (by omega)⟩
  · have : i = 0 := by omega
    subst this
    simp [hget]
  · have : i = 0 := by omega
    subst this
    exact ⟨by simpa [hget] using ho, fun e => hne (by simpa [Value.ownBlock] using e)⟩

set_option maxRecDepth 100000 in
set_option maxHeartbeats 3200000 in
theorem impl_alone (hs : List Hs) (v : Value) (k : Int) (w : World) (hH : HRow w v hs) (hN : HOks hs 1048576) (hcls : Cls w) :
    Calls Tryd.prog 16 #[.agg #[v], .int .i64 k] w fun e w' => ∃ u, e = .returned (.agg #[u]) ∧ RAl w' w.heap.size (aloneL hs k) u ∧ Below w.heap.size w w' := by
  have hro : Fence.wide.round = none := rfl
  have hH0 := hH
  obtain ⟨a, c, rfl, hl1, hl2, _⟩ := hH0
  unfold maxLen at hl2
  obtain ⟨wA, hwA⟩ : ∃ wA, wA = ((w.alloc (.cells #[.slice a hs.length c] 25)).alloc (.cells #[.int .i64 k] 3)).alloc (.cells #[.slice none 0 0] 25) := ⟨_, rfl⟩
  have hsA : wA.heap.size = w.heap.size + 3 := by rw [hwA]; simp
  have hbA : Below w.heap.size w wA := by rw [hwA]; exact (((Below.refl _ _).alloc (Nat.le_refl _) _).alloc (by simp) _).alloc (by simp; omega) _
  obtain ⟨hx0, hx1, hx2⟩ := three_new w (.cells #[.slice a hs.length c] 25) (.cells #[.int .i64 k] 3) (.cells #[.slice none 0 0] 25)
  rw [← hwA] at hx0 hx1 hx2
  obtain ⟨t0, _⟩ := one_fact hx0
  have hC := impl_cfgok hs _ wA (hH.below (Nat.le_refl _) hbA) hN (hcls.below hbA (Nat.le_refl _))
  rw [hwA] at t0 hC
  have HwA := Lib.hid hwA
  have HBA := Lib.hid hbA
  have HN := Lib.hid hN
  clear hwA hbA hN
  refine (callsIn_wide (n := 9)).1 ?_
  refine callsIn_of_wp_marks Tryd.func16 rfl trivial ?_ hro
  simp only [Tryd.ntmps16, List.size_toArray, List.length_cons, List.length_nil, Nat.reduceAdd, Nat.reduceSub, Array.replicate_succ, Array.replicate_zero, List.push_toArray, List.append_toArray, List.nil_append, List.cons_append]
  rcases Bool.eq_false_or_eq_true (cfgB hs) with hok | hok
  · rw [hok] at hC
    gi_wp2_with (first
      | (refine ⟨trivial, ?_⟩; gi_at_call 12; refine (callsIn_wide.2 hC).mono ?_; rw [← HwA.out]; rintro e w1 ⟨rfl, hb1⟩; have s0 := (one_fact ((hb1.block w.heap.size (by omega)).trans hx0)).1)
      | (refine ⟨trivial, ?_⟩; gi_at_call 34; refine (houses_in _ _ _).mono ?_; rintro e w' ⟨rfl, rfl⟩))
    have hb01 := HBA.out.trans (hb1.mono (by omega))
    have hH1 := hH.below (Nat.le_refl _) hb01
    have hpos : 0 < hs.length := by have := (cfgB_iff.1 hok).1; omega
    have hle4 : hs.length ≤ 4 := by have := (cfgB_iff.1 hok).1; omega
    have hgood : ∀ h ∈ hs, 1 ≤ h.names.length ∧ h.names.length ≤ 3 := fun h hh => (houseB_iff.1 ((cfgB_iff.1 hok).2.1 h hh)).1
    have HGood := Lib.hid hgood
    clear hgood
    obtain ⟨b, o, us, c', ec, hc1, hc2, hA⟩ := hat_of hH1 hpos
    obtain ⟨rfl, rfl⟩ : a = some ⟨b, o, none⟩ ∧ c = c' := by injection ec with e1 e2 e3; exact ⟨e1, e3⟩
    have bK : Boxed w1 (w.heap.size + 1) 3 (.int .i64 k) := (hb1.block (w.heap.size + 1) (by omega)).trans hx1
    have bX : Boxed w1 (w.heap.size + 1 + 1) 25 (.slice none 0 0) := (hb1.block (w.heap.size + 1 + 1) (by omega)).trans hx2
    have bC := Boxed.new w1 25 (.slice (some ⟨b, o, none⟩) hs.length c)
    have bK := bK.alloc (.cells #[.slice (some ⟨b, o, none⟩) hs.length c] 25)
    have bX := bX.alloc (.cells #[.slice (some ⟨b, o, none⟩) hs.length c] 25)
    have hs1 := hb1.size
    have hB0 : Below w.heap.size w (w1.alloc (.cells #[.slice (some ⟨b, o, none⟩) hs.length c] 25)) := hb01.alloc hb01.size _
    have hA0 := hA.below (Nat.le_refl _) ((Below.refl w1.heap.size w1).alloc (Nat.le_refl _) (.cells #[.slice (some ⟨b, o, none⟩) hs.length c] 25))
    have hsz : (w1.alloc (.cells #[.slice (some ⟨b, o, none⟩) hs.length c] 25)).heap.size = w1.heap.size + 1 := by simp
    have hbl : b < w.heap.size := by
      obtain ⟨_, _, e1, _, _, hh⟩ := hH
      obtain ⟨b', o', _, ea, hlt, _⟩ := hh 0 hs[0] (List.getElem?_eq_getElem hpos)
      injection e1 with e1 _ _
      rw [← e1] at ea
      obtain ⟨rfl, _⟩ : b = b' ∧ o = o' := by simpa using ea
      exact hlt
    have hform : ∀ x : Fin hs.length, ∃ h sa sc, hs[x.1]? = some h ∧ us x.1 = .slice sa h.names.length sc ∧ SRow w (us x.1) h.names := fun x => by
      have hg : hs[x.1]? = some hs[x.1] := List.getElem?_eq_getElem x.2
      obtain ⟨cx, _⟩ := hA.2 _ _ hg
      obtain ⟨_, _, e1, _, _, hh⟩ := hH
      obtain ⟨b', o', u, ea, hlt, c1, hS, _⟩ := hh x.1 _ hg
      injection e1 with e1 _ _
      rw [← e1] at ea
      obtain ⟨rfl, rfl⟩ : b = b' ∧ o = o' := by simpa using ea
      have eu : u = us x.1 := by
        have := ((hb01.cell (p := ⟨b, o + x.1 * 4, none⟩) hlt).trans c1).symm.trans cx
        injection this
      subst eu
      obtain ⟨sa, sc, e, _⟩ := srow_get hS
      exact ⟨_, sa, sc, hg, e, hS⟩
    obtain ⟨W0, hW0⟩ : ∃ W0, w1.alloc (.cells #[.slice (some ⟨b, o, none⟩) hs.length c] 25) = W0 := ⟨_, rfl⟩
    rw [hW0] at bK bX bC hB0 hA0 hsz ⊢
    have HForm := Lib.hid hform
    clear hW0 hform hC t0 s0 hx0 hx1 hx2 hA hH1 hb01 hb1
    refine wpIn_rangeFunc_ownH hro (by decide) (gf := 50) (lb := #[.pointer (some ⟨w1.heap.size, 0, none⟩)]) rfl trivial (enters_of Tryd.func50 (by kernel_rfl) rfl)
      (houses_stops 8 (by decide) w1.heap.size w.heap.size b o c hs us (by omega) W0 (by omega) (by omega) bC.cell hbl hA0) belowK_t (belowK_b (by omega)) (Below.refl _ _) (fun _ => rfl)
      (fun pre W => (((∀ i ∈ pre, ((i.1 : Nat) : Int) ≠ k) ∧ Boxed W (w.heap.size + 1) 3 (.int .i64 k)) ∧ Boxed W (w.heap.size + 1 + 1) 25 (.slice none 0 0)) ∧ Below w.heap.size w W)
      (fun c pre W => (c = .ret ∧ ∃ (i : Fin hs.length) (g : Nat) (us : Nat → Value), ((i.1 : Nat) : Int) = k ∧ Boxed W (w.heap.size + 1 + 1) 25 (.slice (some ⟨g, 0, none⟩) 1 1) ∧ HF W w.heap.size g 1 (hget [hget hs i.1]) us) ∧ Below w.heap.size w W)
      (OwnFrom.and (OwnFrom.and (OwnFrom.and (ownFrom_pure _ _) (Own.from (boxed_own _ _ _) _)) (Own.from (boxed_own _ _ _) _)) (ownFrom_below (Nat.le_refl _) (by omega)))
      (fun c => OwnFrom.and (fun s A B row hs' hg hr => by
        obtain ⟨e1, i, g, us, e2, hb, hf⟩ := hs'
        exact ⟨e1, i, g, us, e2, boxed_own (w.heap.size + 1 + 1) 25 (fun (_ : Unit) => Value.slice (some ⟨g, 0, none⟩) 1 1) () A B row hb hg (fun r e => (hr r e).2), hf_own hf hg hr⟩) (ownFrom_below (Nat.le_refl _) (by omega)))
      ⟨⟨⟨fun i hi => by simp at hi, bK⟩, bX⟩, hB0⟩
      (fun x a' W => ∃ h sa sc Bx, hs[x.1]? = some h ∧ us x.1 = .slice sa h.names.length sc ∧ w.heap.size + 1 + 1 < Bx ∧ W.heap[Bx]? = some (.cells #[.slice sa h.names.length sc, .int .i64 h.key, .int .i64 h.maxN, .int .i64 h.maxB] 33 (0, 0)) ∧ a' = { tmps := #[.agg #[.slice (some ⟨b, o, none⟩) hs.length c], .int .i64 k, .pointer (some ⟨w.heap.size, 0, none⟩), .pointer (some ⟨w.heap.size + 1, 0, none⟩), .pointer (some ⟨w.heap.size + 1 + 1, 0, none⟩), .int .i64 (x.1 : Int), .pointer (some ⟨Bx, 0, none⟩), .agg #[.slice (some ⟨b, o, none⟩) hs.length c], .bool true, .bool false, undef, .agg #[.slice (some ⟨b, o, none⟩) hs.length c], .func (.func 50) #[] #[.pointer (some ⟨w1.heap.size, 0, none⟩)], .int .i64 (x.1 : Int), .agg #[.slice sa h.names.length sc, .int .i64 h.key, .int .i64 h.maxN, .int .i64 h.maxB], undef, undef, undef, undef, undef, undef, undef, undef], defers := [] })
      (fun x a' _ X Y row hs' hg hr => by
        obtain ⟨h, sa, sc, Bx, e1, e2, e3, e4, e5⟩ := hs'
        exact ⟨h, sa, sc, Bx, e1, e2, e3, (hg.block Bx (Array.getElem?_eq_some_iff.1 e4).1 (fun e => by obtain ⟨o', ho, hc⟩ := (hr Bx e.symm).2; rw [e4] at ho; cases ho; cases hc)).trans e4, e5⟩)
      ?assign ?body ?done ?stop
    case assign =>
      rintro l pre x W K ⟨⟨⟨hp, bK1⟩, bX1⟩, hB1⟩ hK
      obtain ⟨h, sa, sc, hg, hus, _⟩ := HForm.out x
      simp only [hsV_at hg, hus]
      gi_wp2
      exact hK _ _ ((KeepsOthers.alloc _ _).from _) ((Below.refl _ W).alloc hB1.size _) ⟨⟨⟨hp, bK1.alloc _⟩, bX1.alloc _⟩, hB1.alloc hB1.size _⟩ ⟨h, sa, sc, W.heap.size, hg, hus, bX1.lt, heap_alloc_new W _, rfl⟩
    case body =>
      rintro l pre x a' W hl ⟨r, hr⟩ ⟨⟨⟨hp, bK1⟩, bX1⟩, hB1⟩ ⟨h, sa, sc, Bx, hg, hus, hBx, hX, rfl⟩ hlt
      obtain ⟨t0, t1, t2, t3, _⟩ := four_facts hX
      have k0 := bK1.cell
      have HG := Lib.hid hg
      clear hr
      by_cases hk : ((x.1 : Nat) : Int) = k
      · have hS0 : SRow w (.slice sa h.names.length sc) h.names := by
          obtain ⟨h2, _, _, hg2, _, hS⟩ := HForm.out x
          rw [hg] at hg2; cases hg2
          rw [hus] at hS; exact hS
        have hF := fresh_house h _ W (hS0.below (Nat.le_refl _) hB1) (HN.out h (List.mem_of_getElem? hg)) (HGood.out h (List.mem_of_getElem? hg)).1 (HGood.out h (List.mem_of_getElem? hg)).2
        clear hg hus
        gi_wp2_with (refine ⟨trivial, ?_⟩; gi_at_call 35; refine (CallsIn.inRound l (callsIn_wide.2 hF)).mono ?_; rintro e w2 ⟨gk, ck, rfl, ho2, hb2⟩; have bX2 := (bX1.kept (grown_of_below hb2 none) (by simp)).alloc (.cells #[.slice (some ⟨gk, 0, none⟩) h.names.length ck, .int .i64 h.key, .int .i64 h.maxN, .int .i64 h.maxB] 33); have u1 := bX2.cell; have u2 := bX2.frozen)
        have hb3 : Below W.heap.size W (w2.alloc (.cells #[.slice (some ⟨gk, 0, none⟩) h.names.length ck, .int .i64 h.key, .int .i64 h.maxN, .int .i64 h.maxB] 33)) := hb2.alloc hb2.size _
        have hw2 := hb2.size
        have hWl := hB1.size
        have hbl2 := bX1.lt
        have hgk := (ho2.lt gk rfl)
        refine ⟨((keepsOthers_of_below hb3).trans (KeepsOthers.setCell _ ⟨w.heap.size + 1 + 1, 0, none⟩ _)).from _, ⟨rfl, x, w2.heap.size, fun _ => .slice (some ⟨gk, 0, none⟩) h.names.length ck, hk, bX2.set _, ?_⟩, ?_⟩
        · rw [hget_at HG.out]
          refine hf_one (T := 33) (by omega) ?_ ?_ (by omega)
          · rw [heap_setCell_other _ ⟨w.heap.size + 1 + 1, 0, none⟩ w2.heap.size _ (by simp; omega)]
            exact World.alloc_heap_new w2 _
          · refine own_same (own_lowC (ho2.alloc (.cells #[.slice (some ⟨gk, 0, none⟩) h.names.length ck, .int .i64 h.key, .int .i64 h.maxN, .int .i64 h.maxB] 33)) (show w.heap.size ≤ W.heap.size from hWl)) (fun b' hb' => ?_)
            have : b' = gk := by simpa [Value.ownBlock] using hb'.symm
            subst this
            exact heap_setCell_other _ ⟨w.heap.size + 1 + 1, 0, none⟩ b' _ (by simp; omega)
        · exact (hB1.trans (hb3.mono hWl)).setCell (p := ⟨w.heap.size + 1 + 1, 0, none⟩) (by simp; omega) _
      · gi_wp2
        exact ⟨KeepsFrom.refl _ _, Below.refl _ _, ⟨⟨fun i hi => by
          rcases List.mem_append.1 hi with hi | hi
          · exact hp i hi
          · have : i = x := by simpa using hi
            subst this; exact hk, bK1⟩, bX1⟩, hB1⟩
    case done =>
      rintro D ys W hD rfl ⟨⟨⟨hp, bK1⟩, bX1⟩, hB1⟩ hK
      have hal : aloneL hs k = [] := by
        unfold aloneL
        rw [if_neg]
        rintro ⟨_, h1, h2⟩
        have hkn : k.toNat < hs.length := by omega
        have hm : (⟨k.toNat, hkn⟩ : Fin hs.length) ∈ finsTo hs.length hs.length := by
          unfold finsTo; rw [List.take_of_length_le (by simp)]; simp
        exact hp _ hm (by simp only; omega)
      have u1 := bX1.cell
      have u2 := bX1.frozen
      gi_wp2
      have hk1 := KeepsOthers.setCell W ⟨w.heap.size + 1 + 1, 0, none⟩ (.slice none 0 0)
      have hK' := hk1.same D _ hK rfl
      refine ⟨by simp, .inl ⟨_, _, rfl, run_takeDeferred hK', ?_⟩⟩
      have hc5 := cell_kept (bX1.set (.slice none 0 0)).cell (grownBy_putObj' _ D (.deferred none)) (fun r e => by cases e; exact ⟨_, hK', rfl⟩)
      refine ⟨.agg #[.slice none 0 0], ?_, .slice none 0 0, rfl, by rw [hal]; exact .inl ⟨rfl, rfl⟩, ?_⟩
      · simp [results, Tryd.f16, go_sem, hc5]
      · exact (hB1.setCell (p := ⟨w.heap.size + 1 + 1, 0, none⟩) (by simp; omega) _).trans (belowK_b (w := w) (Nat.le_refl _) _ D _ _ (by omega) hK' rfl rfl)
    case stop =>
      rintro D c' pre W hD ⟨j, hj, rfl⟩ ⟨⟨rfl, i, g, us', hik, bX1, hf⟩, hB1⟩ hK
      have hal : aloneL hs k = [hget hs i.1] := by
        have hi := i.2
        unfold aloneL
        rw [if_pos ⟨hok, by omega, by omega⟩]
        have : k.toNat = i.1 := by omega
        rw [this]
      gi_wp2
      refine ⟨by simp, .inl ⟨_, _, rfl, run_takeDeferred hK, ?_⟩⟩
      have hc5 := cell_kept bX1.cell (grownBy_putObj' _ D (.deferred none)) (fun r e => by cases e; exact ⟨_, hK, rfl⟩)
      refine ⟨.agg #[.slice (some ⟨g, 0, none⟩) 1 1], ?_, .slice (some ⟨g, 0, none⟩) 1 1, rfl, ?_, ?_⟩
      · simp [results, Tryd.f16, go_sem, hc5]
      · rw [hal]; exact .inr ⟨g, us', hget hs i.1, rfl, rfl, hf_own (D := w.heap.size) hf (grownBy_putObj' _ D (.deferred none)) (fun r e => by cases e; exact ⟨by omega, _, hK, rfl⟩)⟩
      · exact hB1.trans (belowK_b (w := w) (Nat.le_refl _) _ D _ _ (by omega) hK rfl rfl)
  · rw [hok] at hC
    have hal : aloneL hs k = [] := if_neg (fun e => by rw [hok] at e; cases e.1)
    gi_wp2_with (refine ⟨trivial, ?_⟩; gi_at_call 12; refine (callsIn_wide.2 hC).mono ?_; rw [← HwA.out]; rintro e w1 ⟨rfl, hb1⟩; have bX : Boxed w1 (w.heap.size + 1 + 1) 25 (.slice none 0 0) := (hb1.block (w.heap.size + 1 + 1) (by omega)).trans hx2; have s2 := bX.cell; have f2 := bX.frozen)
    have k0 := (bX.set (.slice none 0 0)).cell
    refine ⟨.agg #[.slice none 0 0], ?_, .slice none 0 0, rfl, by rw [hal]; exact .inl ⟨rfl, rfl⟩, ?_⟩
    · simp [results, Tryd.f16, go_sem, k0]
    · exact (HBA.out.trans (hb1.mono (by omega))).setCell (p := ⟨w.heap.size + 1 + 1, 0, none⟩) (by simp; omega) _
end Go.Proofs.YtojmfcpkmknleaaDoor
