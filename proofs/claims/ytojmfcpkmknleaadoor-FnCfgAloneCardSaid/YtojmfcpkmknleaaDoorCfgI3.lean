/- Walks: where all names lead, by the program. -/
import Derived.Test.YtojmfcpkmknleaaDoorCfgI2
import Derived.Maps.OwnIn
namespace Go.Proofs.YtojmfcpkmknleaaDoor
open Go.RowKit Go.Shelf Go.Maps
attribute [local go_sem] Oper.semAt_some

theorem keepsOthers_of_below {W W' : World} (h : Below W.heap.size W W') : KeepsOthers W W' :=
  ⟨h.size, fun k _ hk _ => (h.block k (Array.getElem?_eq_some_iff.1 hk).1).trans hk⟩
theorem owns_below {w w' : World} {P : Program} {k : TypeId} {R : Value → Option (DataW Unit × List MemPlace)} {b n : Nat} {D : DataW Unit} (h : w.ownsMap P k R b n D) (hb : Below w.heap.size w w') : w'.ownsMap P k R b n D :=
  h.kept (grown_of_below hb none) (fun e => by cases e)

/-- The houses at such places are ok, and no name of them stands twice. -/
def goodAt (hs : List Hs) (pre : List Nat) : Prop := (∀ i ∈ pre, ∀ h, hs[i]? = some h → houseB h = true) ∧ ((asc hs pre).map (·.1)).Nodup
theorem goodAt_range {hs : List Hs} {k : Nat} (hk : k ≤ hs.length) : goodAt hs (List.range k) ↔ goodTo hs k := by
  unfold goodAt goodTo
  rw [asc_names hs k hk]
  constructor
  · rintro ⟨h1, h2⟩
    refine ⟨fun x hx => ?_, h2⟩
    obtain ⟨j, hj, rfl⟩ := List.mem_take_iff_getElem.1 hx
    exact h1 j (List.mem_range.2 (by omega)) _ (List.getElem?_eq_getElem (by omega))
  · rintro ⟨h1, h2⟩
    refine ⟨fun i hi h hg => h1 h ?_, h2⟩
    have := List.mem_range.1 hi
    obtain ⟨hl, rfl⟩ := List.getElem?_eq_some_iff.1 hg
    exact List.mem_take_iff_getElem.2 ⟨i, by omega, rfl⟩
theorem asc_part (hs : List Hs) (pre : List Nat) (i : Nat) (h : Hs) (hg : hs[i]? = some h) : asc hs (pre ++ [i]) = asc hs pre ++ h.names.map fun s => (s, (i : Int)) := by rw [asc_snoc, namesAt_at hg]
theorem part_snoc (L : List (ByteArray × Int)) (N : List ByteArray) (i : Int) {k : Nat} {x : ByteArray} (hk : N[k]? = some x) : L ++ ((N.take (k + 1)).map fun s => (s, i)) = (L ++ (N.take k).map fun s => (s, i)) ++ [(x, i)] := by
  rw [List.take_add_one, hk, List.append_assoc]
  simp


theorem asc_le {hs : List Hs} {pre : List Nat} (h : goodAt hs pre) : (asc hs pre).length ≤ 3 * pre.length := by
  obtain ⟨h1, -⟩ := h
  induction pre with
  | nil => simp [asc]
  | cons i pre ih =>
    have := ih (fun j hj => h1 j (List.mem_cons_of_mem _ hj))
    have h2 : (namesAt hs i).length ≤ 3 := by
      cases hg : hs[i]? with
      | none => simp [namesAt, hg]
      | some x => rw [namesAt_at hg]; have := (houseB_iff.1 (h1 i (List.mem_cons_self ..) x hg)).1; omega
    have e : asc hs (i :: pre) = (namesAt hs i).map (fun s => (s, (i : Int))) ++ asc hs pre := by simp [asc]
    rw [e, List.length_append, List.length_map, List.length_cons]
    omega
theorem good_snoc {hs : List Hs} {pre : List Nat} {i : Nat} {h : Hs} (hp : goodAt hs pre) (hg : hs[i]? = some h) (hb : houseB h = true) (hn : ((asc hs pre ++ h.names.map fun s => (s, (i : Int))).map (·.1)).Nodup) : goodAt hs (pre ++ [i]) := by
  refine ⟨fun j hj x hx => ?_, by rw [asc_part hs pre i h hg]; exact hn⟩
  rcases List.mem_append.1 hj with hj | hj
  · exact hp.1 j hj x hx
  · have : j = i := by simpa using hj
    subst this
    rw [hg] at hx; cases hx; exact hb
theorem bad_house {hs : List Hs} {pre : List Nat} {i : Nat} {h : Hs} (hg : hs[i]? = some h) (hb : houseB h = false) : ¬ goodAt hs (pre ++ [i]) := fun e => by
  rw [e.1 i (by simp) h hg] at hb; cases hb
theorem bad_twice {hs : List Hs} {pre : List Nat} {i k : Nat} {h : Hs} {y : ByteArray} (hg : hs[i]? = some h) (hy : h.names[k]? = some y) (hl : lookL (asc hs pre ++ (h.names.take k).map fun s => (s, (i : Int))) y ≠ none) : ¬ goodAt hs (pre ++ [i]) := fun e => by
  have hn := e.2
  rw [asc_part hs pre i h hg] at hn
  have hm : y ∈ (asc hs pre ++ (h.names.take k).map fun s => (s, (i : Int))).map (·.1) := by
    rcases Classical.em (y ∈ (asc hs pre ++ (h.names.take k).map fun s => (s, (i : Int))).map (·.1)) with k | k
    · exact k
    · exact absurd (look_none.2 k) hl
  obtain ⟨hlt, rfl⟩ := List.getElem?_eq_some_iff.1 hy
  have e2 : h.names = h.names.take k ++ h.names[k] :: h.names.drop (k + 1) := by rw [← List.drop_eq_getElem_cons hlt, List.take_append_drop]
  have e3 : ((asc hs pre ++ h.names.map fun s => (s, (i : Int))).map (·.1)) = ((asc hs pre ++ (h.names.take k).map fun s => (s, (i : Int))).map (·.1)) ++ (h.names[k] :: h.names.drop (k + 1)) := by
    conv => lhs; rw [e2]
    simp [Function.comp_def]
  rw [e3, List.nodup_append] at hn
  exact hn.2.2 _ hm _ (List.mem_cons_self ..) rfl
theorem part_nodup {P : List (ByteArray × Int)} {N : List ByteArray} {i : Int} {k : Nat} {y : ByteArray} (hy : N[k]? = some y) (hn : ((P ++ (N.take k).map fun s => (s, i)).map (·.1)).Nodup) (hl : lookL (P ++ (N.take k).map fun s => (s, i)) y = none) : ((P ++ (N.take (k + 1)).map fun s => (s, i)).map (·.1)).Nodup := by
  rw [part_snoc P N i hy, List.map_append, List.nodup_append]
  refine ⟨hn, by simp, fun a ha b hb => ?_⟩
  have : b = y := by simpa using hb
  subst this
  intro e; subst e
  exact look_none.1 hl ha
theorem add_yes (s : ByteArray) (i : Int) (b n : Nat) (D : DataW Unit) (L : List (ByteArray × Int)) (w : World) (hs : s.size ≤ maxLen) (hi : (Lit.int .i64 i).wf = true) (hn : n + 1 ≤ maxLen)
    (hown : w.ownsMap Tryd.prog 9 (plainElem Tryd.prog 3) b n D) (hM : MapIs D L) (hl : lookL L s = none) :
    Calls Tryd.prog 47 #[.map (some b), .string s, .int .i64 i] w fun e w' =>
      e = .returned (.bool true) ∧ w'.ownsMap Tryd.prog 9 (plainElem Tryd.prog 3) b (n + 1) (D.put (.string s.data.toList) (.lit (.int .i64 i))) ∧ w.grownBy w' (some b) :=
  (add_name s i b n D L w hs hi hn hown hM).mono fun e w' h => by
    rcases h with ⟨h, _⟩ | ⟨_, h⟩
    · exact absurd hl h
    · exact h
theorem add_no (s : ByteArray) (i : Int) (b n : Nat) (D : DataW Unit) (L : List (ByteArray × Int)) (w : World) (hs : s.size ≤ maxLen) (hi : (Lit.int .i64 i).wf = true) (hn : n + 1 ≤ maxLen)
    (hown : w.ownsMap Tryd.prog 9 (plainElem Tryd.prog 3) b n D) (hM : MapIs D L) (hl : lookL L s ≠ none) :
    Calls Tryd.prog 47 #[.map (some b), .string s, .int .i64 i] w fun e w' => e = .returned (.bool false) ∧ w' = w :=
  (add_name s i b n D L w hs hi hn hown hM).mono fun e w' h => by
    rcases h with ⟨_, h⟩ | ⟨h, _⟩
    · exact h
    · exact absurd h hl

def RtPost (w : World) (hs : List Hs) (e : Ending) (w' : World) : Prop :=
  Below w.heap.size w w' ∧ ((cfgB hs = false ∧ e = .returned (.tuple #[.map none, .bool false])) ∨
    (cfgB hs = true ∧ ∃ b D n, e = .returned (.tuple #[.map (some b), .bool true]) ∧ n < maxLen ∧ w'.ownsMap Tryd.prog 9 (plainElem Tryd.prog 3) b n D ∧ MapIs D (asc hs (List.range hs.length))))

set_option maxRecDepth 100000 in
set_option maxHeartbeats 3200000 in
theorem routes_of (hs : List Hs) (v : Value) (w : World) (hH : HRow w v hs) (hN : HOks hs 1048576) (hcls : Cls w) :
    Calls Tryd.prog 27 #[.agg #[v]] w fun e w' => RtPost w hs e w' := by
  have hro : Fence.wide.round = none := rfl
  have hH0 := hH
  obtain ⟨a, c, rfl, hl1, hl2, _⟩ := hH0
  unfold maxLen at hl2
  have q := fun (x hi : Int) W => count_ok x hi W
  have HN := Lib.hid hN
  clear hN
  refine (callsIn_wide (n := 9)).1 ?_
  refine callsIn_of_wp_marks Tryd.func27 rfl trivial ?_ hro
  simp only [Tryd.ntmps27, List.size_toArray, List.length_cons, List.length_nil, Nat.reduceAdd, Nat.reduceSub, Array.replicate_succ, Array.replicate_zero, List.push_toArray, List.append_toArray, List.nil_append, List.cons_append]
  rcases Bool.eq_false_or_eq_true (inI hs.length 1 4) with j1 | j1
  · have hmm := @run_makeMap Tryd.prog
    gi_wp2_with (first
      | (refine ⟨trivial, ?_⟩; gi_at_call 45; refine (callsIn_wide.2 (q _ _ _)).mono ?_; rintro e w' ⟨rfl, rfl⟩)
      | (refine ⟨trivial, ?_⟩; gi_at_call 34; refine (houses_in _ _ _).mono ?_; rintro e w' ⟨rfl, rfl⟩))
    have hpos : 0 < hs.length := by have := inI_iff.1 j1; omega
    have hle4 : hs.length ≤ 4 := by have := inI_iff.1 j1; omega
    obtain ⟨b, o, us, c', ec, hc1, hc2, hA⟩ := hat_of hH hpos
    obtain ⟨rfl, rfl⟩ : a = some ⟨b, o, none⟩ ∧ c = c' := by injection ec with e1 e2 e3; exact ⟨e1, e3⟩
    have bM := ((((Boxed.new (w.alloc (.cells #[.slice (some ⟨b, o, none⟩) hs.length c] 25)) 53 (.map none)).alloc (.cells #[.bool false] 4)).alloc (.map #[] 0)).alloc (.cells #[.map (some (w.heap.size + 1 + 1 + 1))] 53)).alloc (.cells #[.slice (some ⟨b, o, none⟩) hs.length c] 25)
    have bK := (((Boxed.new ((w.alloc (.cells #[.slice (some ⟨b, o, none⟩) hs.length c] 25)).alloc (.cells #[.map none] 53)) 4 (.bool false)).alloc (.map #[] 0)).alloc (.cells #[.map (some (w.heap.size + 1 + 1 + 1))] 53)).alloc (.cells #[.slice (some ⟨b, o, none⟩) hs.length c] 25)
    have bR := (Boxed.new ((((w.alloc (.cells #[.slice (some ⟨b, o, none⟩) hs.length c] 25)).alloc (.cells #[.map none] 53)).alloc (.cells #[.bool false] 4)).alloc (.map #[] 0)) 53 (.map (some (w.heap.size + 1 + 1 + 1)))).alloc (.cells #[.slice (some ⟨b, o, none⟩) hs.length c] 25)
    have bC := Boxed.new (((((w.alloc (.cells #[.slice (some ⟨b, o, none⟩) hs.length c] 25)).alloc (.cells #[.map none] 53)).alloc (.cells #[.bool false] 4)).alloc (.map #[] 0)).alloc (.cells #[.map (some (w.heap.size + 1 + 1 + 1))] 53)) 25 (.slice (some ⟨b, o, none⟩) hs.length c)
    have hm0 := ((World.ownsMap_made (((w.alloc (.cells #[.slice (some ⟨b, o, none⟩) hs.length c] 25)).alloc (.cells #[.map none] 53)).alloc (.cells #[.bool false] 4)) Tryd.prog 9 (plainElem (H := Unit) Tryd.prog 3)).alloc (.cells #[.map (some (w.heap.size + 1 + 1 + 1))] 53)).alloc (.cells #[.slice (some ⟨b, o, none⟩) hs.length c] 25)
    simp only [World.size_alloc] at bM bK bR bC hm0
    have hB0 : Below w.heap.size w ((((((w.alloc (.cells #[.slice (some ⟨b, o, none⟩) hs.length c] 25)).alloc (.cells #[.map none] 53)).alloc (.cells #[.bool false] 4)).alloc (.map #[] 0)).alloc (.cells #[.map (some (w.heap.size + 1 + 1 + 1))] 53)).alloc (.cells #[.slice (some ⟨b, o, none⟩) hs.length c] 25)) :=
      ((((((Below.refl _ w).alloc (Nat.le_refl _) _).alloc (by simp) _).alloc (by simp; omega) _).alloc (by simp; omega) _).alloc (by simp; omega) _).alloc (by simp; omega) _
    have hsz : ((((((w.alloc (.cells #[.slice (some ⟨b, o, none⟩) hs.length c] 25)).alloc (.cells #[.map none] 53)).alloc (.cells #[.bool false] 4)).alloc (.map #[] 0)).alloc (.cells #[.map (some (w.heap.size + 1 + 1 + 1))] 53)).alloc (.cells #[.slice (some ⟨b, o, none⟩) hs.length c] 25)).heap.size = w.heap.size + 6 := by simp
    obtain ⟨W0, hW0⟩ : ∃ W0, (((((w.alloc (.cells #[.slice (some ⟨b, o, none⟩) hs.length c] 25)).alloc (.cells #[.map none] 53)).alloc (.cells #[.bool false] 4)).alloc (.map #[] 0)).alloc (.cells #[.map (some (w.heap.size + 1 + 1 + 1))] 53)).alloc (.cells #[.slice (some ⟨b, o, none⟩) hs.length c] 25) = W0 := ⟨_, rfl⟩
    rw [hW0] at bM bK bR bC hm0 hB0 hsz ⊢
    clear hW0 hmm q
    have hform : ∀ x : Fin hs.length, ∃ h sa sc, hs[x.1]? = some h ∧ us x.1 = .slice sa h.names.length sc ∧ SRow w (us x.1) h.names := fun x => by
      have hg : hs[x.1]? = some hs[x.1] := List.getElem?_eq_getElem x.2
      obtain ⟨_, hS, _⟩ := hA.2 _ _ hg
      obtain ⟨sa, sc, e, _⟩ := srow_get hS
      exact ⟨_, sa, sc, hg, e, hS⟩
    have HForm := Lib.hid hform
    refine wpIn_rangeFunc_ownH hro (by decide) (gf := 50) (lb := #[.pointer (some ⟨w.heap.size + 1 + 1 + 1 + 1 + 1, 0, none⟩)]) rfl trivial (enters_of Tryd.func50 (by kernel_rfl) rfl)
      (houses_stops 8 (by decide) (w.heap.size + 1 + 1 + 1 + 1 + 1) w.heap.size b o c hs us (by omega) W0 (by omega) (by omega) bC.cell hA.1 (hA.below (Nat.le_refl _) hB0)) belowK_t (belowK_b (by omega)) (Below.refl _ _) (fun _ => rfl)
      (fun pre W => (((goodAt hs (pre.map Fin.val) ∧ Boxed W (w.heap.size + 1) 53 (.map none)) ∧ Boxed W (w.heap.size + 1 + 1) 4 (.bool false)) ∧ Boxed W (w.heap.size + 1 + 1 + 1 + 1) 53 (.map (some (w.heap.size + 1 + 1 + 1)))) ∧
        ((∃ D, W.ownsMap Tryd.prog 9 (plainElem Tryd.prog 3) (w.heap.size + 1 + 1 + 1) (asc hs (pre.map Fin.val)).length D ∧ MapIs D (asc hs (pre.map Fin.val))) ∧ Below w.heap.size w W))
      (fun c pre W => (((c = .ret ∧ ¬ goodAt hs (pre.map Fin.val)) ∧ Boxed W (w.heap.size + 1) 53 (.map none)) ∧ Boxed W (w.heap.size + 1 + 1) 4 (.bool false)) ∧ Below w.heap.size w W)
      (OwnFrom.and (OwnFrom.and (OwnFrom.and (OwnFrom.and (ownFrom_pure _ _) (Own.from (boxed_own _ _ _) _)) (Own.from (boxed_own _ _ _) _)) (Own.from (boxed_own _ _ _) _))
        (OwnFrom.and (fun s A B row hs' hg hr => by obtain ⟨D, h1, h2⟩ := hs'; exact ⟨D, h1.kept hg (fun e => by have := (hr _ e.symm).1; omega), h2⟩) (ownFrom_below (Nat.le_refl _) (by omega))))
      (fun c => OwnFrom.and (OwnFrom.and (OwnFrom.and (ownFrom_pure _ _) (Own.from (boxed_own _ _ _) _)) (Own.from (boxed_own _ _ _) _)) (ownFrom_below (Nat.le_refl _) (by omega)))
      ⟨⟨⟨⟨⟨fun i hi => by simp at hi, by simp [asc]⟩, bM⟩, bK⟩, bR⟩, ⟨.map [], hm0, mapis_empty⟩, hB0⟩
      (fun x a' W => ∃ h sa sc Bx, hs[x.1]? = some h ∧ us x.1 = .slice sa h.names.length sc ∧ w.heap.size + 1 + 1 + 1 + 1 < Bx ∧ W.heap[Bx]? = some (.cells #[.slice sa h.names.length sc, .int .i64 h.key, .int .i64 h.maxN, .int .i64 h.maxB] 33 (0, 0)) ∧ a' = { tmps := #[.agg #[.slice (some ⟨b, o, none⟩) hs.length c], .pointer (some ⟨w.heap.size, 0, none⟩), .pointer (some ⟨w.heap.size + 1, 0, none⟩), .pointer (some ⟨w.heap.size + 1 + 1, 0, none⟩), .pointer (some ⟨w.heap.size + 1 + 1 + 1 + 1, 0, none⟩), .int .i64 (x.1 : Int), .pointer (some ⟨Bx, 0, none⟩), undef, undef, .pointer (some ⟨w.heap.size, 0, none⟩), .slice (some ⟨b, o, none⟩) hs.length c, .int .i64 (hs.length : Int), .bool true, .bool false, .map (some (w.heap.size + 1 + 1 + 1)), .agg #[.slice (some ⟨b, o, none⟩) hs.length c], .func (.func 50) #[] #[.pointer (some ⟨w.heap.size + 1 + 1 + 1 + 1 + 1, 0, none⟩)], .int .i64 (x.1 : Int), .agg #[.slice sa h.names.length sc, .int .i64 h.key, .int .i64 h.maxN, .int .i64 h.maxB], undef, undef, undef, undef, undef, undef, undef, undef, undef, undef, undef, undef, undef, undef, undef, undef, undef], defers := [] })
      (fun x a' _ X Y row hs' hg hr => by
        obtain ⟨h, sa, sc, Bx, e1, e2, e3, e4, e5⟩ := hs'
        exact ⟨h, sa, sc, Bx, e1, e2, e3, (hg.block Bx (Array.getElem?_eq_some_iff.1 e4).1 (fun e => by obtain ⟨o', ho, hc⟩ := (hr Bx e.symm).2; rw [e4] at ho; cases ho; cases hc)).trans e4, e5⟩)
      ?assign ?body ?done ?stop
    case assign =>
      rintro l pre x W K ⟨⟨⟨⟨hp, bM1⟩, bK1⟩, bR1⟩, ⟨D, hD1, hD2⟩, hB1⟩ hK
      obtain ⟨h, sa, sc, hg, hus, _⟩ := HForm.out x
      simp only [hsV_at hg, hus]
      gi_wp2
      exact hK _ _ ((KeepsOthers.alloc _ _).from _) ((Below.refl _ W).alloc hB1.size _) ⟨⟨⟨⟨hp, bM1.alloc _⟩, bK1.alloc _⟩, bR1.alloc _⟩, ⟨D, hD1.alloc _, hD2⟩, hB1.alloc hB1.size _⟩ ⟨h, sa, sc, W.heap.size, hg, hus, bR1.lt, heap_alloc_new W _, rfl⟩
    case body =>
      rintro l pre x a' W hl ⟨r, hr⟩ ⟨⟨⟨⟨hp, bM1⟩, bK1⟩, bR1⟩, ⟨D, hD1, hD2⟩, hB1⟩ ⟨h, sa, sc, Bx, hg, hus, hBx, hX, rfl⟩ hlt
      obtain ⟨t0, t1, t2, t3, _⟩ := four_facts hX
      have hS0 : SRow w (.slice sa h.names.length sc) h.names := by
        obtain ⟨h2, _, _, hg2, _, hS⟩ := HForm.out x
        rw [hg] at hg2; cases hg2
        rw [hus] at hS; exact hS
      have hC := house_ok h _ W (hS0.below (Nat.le_refl _) hB1) (HN.out h (List.mem_of_getElem? hg)) (hcls.below hB1 (Nat.le_refl _))
      have HG := Lib.hid hg
      clear hg hus HForm bM bK bR bC hm0 hB0 hA hH hr
      rcases Bool.eq_false_or_eq_true (houseB h) with hb | hb
      · rw [hb] at hC
        gi_wp2_with (refine ⟨trivial, ?_⟩; gi_at_call 46; refine (CallsIn.inRound l (callsIn_wide.2 hC)).mono ?_; rintro e w' ⟨rfl, hb2⟩; have bM2 := bM1.kept (grown_of_below hb2 none) (by simp); have bK2 := bK1.kept (grown_of_below hb2 none) (by simp); have bR2 := bR1.kept (grown_of_below hb2 none) (by simp); have hX2 := (hb2.block Bx (Array.getElem?_eq_some_iff.1 hX).1).trans hX; have hD3 := owns_below hD1 hb2; have v0 := (four_facts hX2).1)
        obtain ⟨P, hP⟩ : ∃ P, P = asc hs (pre.map Fin.val) := ⟨_, rfl⟩
        rw [← hP] at hD3 hD2
        have hPl : P.length ≤ 9 := by rw [hP]; have := asc_le hp; rw [List.length_map] at this; omega
        have hPn : (P.map (·.1)).Nodup := by rw [hP]; exact hp.2
        have hnames := (houseB_iff.1 hb).1
        have hin : (Lit.int .i64 (x.1 : Int)).wf = true := by
          have hx := x.2
          have : x.1 = 0 ∨ x.1 = 1 ∨ x.1 = 2 ∨ x.1 = 3 := by omega
          rcases this with e | e | e | e <;> rw [e] <;> rfl
        have HP := Lib.hid hP
        have HIn := Lib.hid hin
        have HB := Lib.hid hb
        have HPn := Lib.hid hPn
        clear hP hin hb hPn hX2 v0 t0 t1 t2 t3 hX hC bM1 bK1 bR1 hD1
        gi_loopw [8, 25] (fun _ i wr => ∃ (k : Nat) (D : DataW Unit), k ≤ h.names.length ∧ i = .int .i64 k ∧ ((P ++ (h.names.take k).map fun s => (s, (x.1 : Int))).map (·.1)).Nodup ∧
          wr.ownsMap Tryd.prog 9 (plainElem Tryd.prog 3) (w.heap.size + 1 + 1 + 1) (P.length + k) D ∧ MapIs D (P ++ (h.names.take k).map fun s => (s, (x.1 : Int))) ∧
          Boxed wr (w.heap.size + 1) 53 (.map none) ∧ Boxed wr (w.heap.size + 1 + 1) 4 (.bool false) ∧ Boxed wr (w.heap.size + 1 + 1 + 1 + 1) 53 (.map (some (w.heap.size + 1 + 1 + 1))) ∧
          Below w.heap.size w wr ∧ Below w.heap.size W wr ∧ KeepsFrom W0.heap.size W wr) (fun _ i _ => h.names.length - (intOf i).toNat)
        case atStart => exact ⟨0, D, Nat.zero_le _, rfl, by simpa using HPn.out, hD3, by simpa using hD2, bM2, bK2, bR2, hB1.trans (hb2.mono hB1.size), hb2.mono hB1.size, (keepsOthers_of_below hb2).from _⟩
        case round =>
          obtain ⟨k, D', hk, rfl, hnd, hDk, hMk, cM, cK, cR, hBw, hBW, hKF⟩ := hrel
          by_cases hlt2 : k < h.names.length
          · obtain ⟨y, hy⟩ : ∃ y, h.names[k]? = some y := ⟨_, List.getElem?_eq_getElem hlt2⟩
            obtain ⟨_, _, e1, _, _, hcs⟩ := hS0.below (Nat.le_refl _) hBw
            obtain ⟨b', o', ea, _, d0⟩ := hcs k y hy
            have ha : sa = some ⟨b', o', none⟩ := by injection e1 with e1 _ _; rw [e1, ea]
            subst ha
            have hys : y.size ≤ maxLen := by unfold maxLen; have := HN.out h (List.mem_of_getElem? HG.out) y (List.mem_of_getElem? hy); omega
            have r0 := cR.cell
            have HY := Lib.hid hy
            clear e1 ea hcs hy
            by_cases hl : lookL (P ++ (h.names.take k).map fun s => (s, (x.1 : Int))) y = none
            · have hC := add_yes y x.1 (w.heap.size + 1 + 1 + 1) (P.length + k) D' _ wr hys HIn.out (by unfold maxLen; omega) hDk hMk hl
              have HK := Lib.hid (And.intro hnd (And.intro hMk hl))
              clear hnd hMk hl
              gi_wp2_with (refine ⟨trivial, ?_⟩; gi_at_call 47; refine (CallsIn.inRound l (callsIn_wide.2 hC)).mono ?_; rintro e w2 ⟨rfl, hD2', hg'⟩)
              obtain ⟨hnd, hMk, hl⟩ := HK.out
              refine ⟨⟨k + 1, _, by omega, by simp, part_nodup HY.out hnd hl, hD2', by rw [part_snoc P h.names _ HY.out]; exact mapis_put hMk hl, cM.kept hg' (fun e => by injection e; omega), cK.kept hg' (fun e => by injection e; omega), cR.kept hg' (fun e => by injection e; omega),
                hBw.grown hg' hBw.size (fun j e => by cases e; omega), hBW.grown hg' (by have := hB1.size; have := hBW.size; omega) (fun j e => by cases e; omega), hKF.trans (KeepsFrom.of_grownBy hg' (fun j e => by cases e; omega))⟩, by simp [intOf]; omega⟩
            · have hC := add_no y x.1 (w.heap.size + 1 + 1 + 1) (P.length + k) D' _ wr hys HIn.out (by unfold maxLen; omega) hDk hMk hl
              rw [HP.out] at hl
              have HBad := Lib.hid (bad_twice HG.out HY.out hl)
              have u1 := cM.cell
              have u2 := cM.frozen
              have u3 := cK.cell
              have u4 := cK.frozen
              clear hnd hMk hl
              gi_wp2_with (refine ⟨trivial, ?_⟩; gi_at_call 47; refine (CallsIn.inRound l (callsIn_wide.2 hC)).mono ?_; rintro e w2 ⟨rfl, rfl⟩)
              have hk1 := (KeepsOthers.setCell w2 ⟨w.heap.size + 1, 0, none⟩ (.map none)).trans (KeepsOthers.setCell _ ⟨w.heap.size + 1 + 1, 0, none⟩ (.bool false))
              refine ⟨hKF.trans (hk1.from _), ⟨⟨⟨rfl, ?_⟩, ?_⟩, ?_⟩, ?_⟩
              · rw [List.map_append]; exact HBad.out
              · exact (cM.set _).other (by omega) _
              · exact (cK.other (by omega) _).set _
              · exact (hBw.setCell (p := ⟨w.heap.size + 1, 0, none⟩) (by simp) _).setCell (p := ⟨w.heap.size + 1 + 1, 0, none⟩) (by simp; omega) _
          · have hkl : k = h.names.length := by omega
            rw [hkl, List.take_length, HP.out] at hnd hMk
            rw [hkl, HP.out] at hDk
            have HK := Lib.hid (And.intro hnd (And.intro hMk hDk))
            clear hnd hMk hDk
            gi_wp2
            obtain ⟨hnd, hMk, hDk⟩ := HK.out
            have e1 : (pre ++ [x]).map Fin.val = pre.map Fin.val ++ [x.1] := by simp
            have e2 := asc_part hs (pre.map Fin.val) x.1 h HG.out
            refine ⟨hKF, hBW, ⟨⟨⟨?_, cM⟩, cK⟩, cR⟩, ⟨D', ?_, ?_⟩, hBw⟩
            · rw [e1]; exact good_snoc hp HG.out HB.out hnd
            · rw [e1, e2, List.length_append, List.length_map]; exact hDk
            · rw [e1, e2]; exact hMk
      · rw [hb] at hC
        have HBad := Lib.hid (bad_house (pre := pre.map Fin.val) HG.out hb)
        clear hb
        gi_wp2_with (refine ⟨trivial, ?_⟩; gi_at_call 46; refine (CallsIn.inRound l (callsIn_wide.2 hC)).mono ?_; rintro e w' ⟨rfl, hb2⟩; have bM2 := bM1.kept (grown_of_below hb2 none) (by simp); have bK2 := bK1.kept (grown_of_below hb2 none) (by simp); have u1 := bM2.cell; have u2 := bM2.frozen; have u3 := bK2.cell; have u4 := bK2.frozen)
        have hk1 := (KeepsOthers.setCell w' ⟨w.heap.size + 1, 0, none⟩ (.map none)).trans (KeepsOthers.setCell _ ⟨w.heap.size + 1 + 1, 0, none⟩ (.bool false))
        refine ⟨((keepsOthers_of_below hb2).trans hk1).from _, ⟨⟨⟨rfl, ?_⟩, ?_⟩, ?_⟩, ?_⟩
        · rw [List.map_append]; exact HBad.out
        · exact (bM2.set _).other (by omega) _
        · exact (bK2.other (by omega) _).set _
        · exact ((hB1.trans (hb2.mono hB1.size)).setCell (p := ⟨w.heap.size + 1, 0, none⟩) (by simp) _).setCell (p := ⟨w.heap.size + 1 + 1, 0, none⟩) (by simp; omega) _
    case done =>
      rintro D ys W hD rfl ⟨⟨⟨⟨hp, bM1⟩, bK1⟩, bR1⟩, ⟨D', hD1, hD2⟩, hB1⟩ hK
      rw [fins_val (Nat.le_refl _)] at hp hD1 hD2
      have hgood : cfgB hs = true := good_cfg.2 ⟨⟨by omega, hle4⟩, (goodAt_range (Nat.le_refl _)).1 hp⟩
      have hlen : (asc hs (List.range hs.length)).length ≤ 12 := by have := asc_le hp; rw [List.length_range] at this; omega
      have r0 := bR1.cell
      have u1 := bM1.cell
      have u2 := bM1.frozen
      have u3 := bK1.cell
      have u4 := bK1.frozen
      gi_wp2
      have hk1 := (KeepsOthers.setCell W ⟨w.heap.size + 1, 0, none⟩ (.map (some (w.heap.size + 1 + 1 + 1)))).trans (KeepsOthers.setCell _ ⟨w.heap.size + 1 + 1, 0, none⟩ (.bool true))
      have hK' := hk1.same D _ hK rfl
      refine ⟨by simp, .inl ⟨_, _, rfl, run_takeDeferred hK', ?_⟩⟩
      have hc5 := cell_kept ((bM1.set (.map (some (w.heap.size + 1 + 1 + 1)))).other (B' := w.heap.size + 1 + 1) (by omega) (.bool true)).cell (grownBy_putObj' _ D (.deferred none)) (fun r e => by cases e; exact ⟨_, hK', rfl⟩)
      have hc6 := cell_kept ((bK1.other (B' := w.heap.size + 1) (by omega) (.map (some (w.heap.size + 1 + 1 + 1)))).set (.bool true)).cell (grownBy_putObj' _ D (.deferred none)) (fun r e => by cases e; exact ⟨_, hK', rfl⟩)
      refine ⟨.tuple #[.map (some (w.heap.size + 1 + 1 + 1)), .bool true], ?_, ?_, .inr ⟨hgood, w.heap.size + 1 + 1 + 1, D', (asc hs (List.range hs.length)).length, rfl, ?_, ?_, hD2⟩⟩
      · simp [results, Tryd.f27, go_sem, hc5, hc6]
      · exact ((hB1.setCell (p := ⟨w.heap.size + 1, 0, none⟩) (by simp) _).setCell (p := ⟨w.heap.size + 1 + 1, 0, none⟩) (by simp; omega) _).trans (belowK_b (w := w) (Nat.le_refl _) _ D _ _ (by omega) hK' rfl rfl)
      · unfold maxLen; omega
      · exact ((hD1.kept (grownBy_setCell' W (w.heap.size + 1) _) (fun e => by injection e; omega)).kept (grownBy_setCell' _ (w.heap.size + 1 + 1) _) (fun e => by injection e; omega)).kept (grownBy_putObj' _ D _) (fun e => by injection e; omega)
    case stop =>
      rintro D c' pre W hD ⟨k, hk, rfl⟩ ⟨⟨⟨⟨rfl, hbad⟩, bM1⟩, bK1⟩, hB1⟩ hK
      rw [fins_val hk] at hbad
      have hgood : cfgB hs = false := by
        rw [Bool.eq_false_iff]; intro e
        exact hbad ((goodAt_range hk).2 (good_less hk (good_cfg.1 e).2))
      gi_wp2
      refine ⟨by simp, .inl ⟨_, _, rfl, run_takeDeferred hK, ?_⟩⟩
      have hc5 := cell_kept bM1.cell (grownBy_putObj' _ D (.deferred none)) (fun r e => by cases e; exact ⟨_, hK, rfl⟩)
      have hc6 := cell_kept bK1.cell (grownBy_putObj' _ D (.deferred none)) (fun r e => by cases e; exact ⟨_, hK, rfl⟩)
      refine ⟨.tuple #[.map none, .bool false], ?_, ?_, .inl ⟨hgood, rfl⟩⟩
      · simp [results, Tryd.f27, go_sem, hc5, hc6]
      · exact hB1.trans (belowK_b (w := w) (Nat.le_refl _) _ D _ _ (by omega) hK rfl rfl)
  · gi_wp2_with (refine ⟨trivial, ?_⟩; gi_at_call 45; refine (callsIn_wide.2 (q _ _ _)).mono ?_; rintro e w' ⟨rfl, rfl⟩)
    refine ⟨.tuple #[.map none, .bool false], ?_, ?_, .inl ⟨cfg_short j1, rfl⟩⟩
    · simp [results, Tryd.f27, go_sem]
    · exact (((Below.refl _ w).alloc (Nat.le_refl _) _).alloc (by simp) _).alloc (by simp; omega) _
end Go.Proofs.YtojmfcpkmknleaaDoor
