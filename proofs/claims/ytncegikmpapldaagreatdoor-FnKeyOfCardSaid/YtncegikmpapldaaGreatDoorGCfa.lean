import Derived.Test.YtncegikmpapldaaGreatDoorCfgP
import Derived.Maps.OwnSet
import Derived.Maps.OwnIn
import Derived.Maps.Views
import Derived.Test.YtncegikmpapldaaGreatDoorGimp
import Derived.Deep.AppendSrc
import Derived.RangeFuncNested
import Derived.RangeFuncBound
import Derived.RangeFuncCalls
import Derived.RangeFuncLeaves
import Derived.Shelf.Abstract
import Derived.Shelf.RegionOpen
import Derived.OwnWalkIn
import Derived.TacticsInMore
import Derived.LoopNIn
import Derived.LoopIn
-- from XCfgM
/- Where names lead, as a map holds it; no function of the program. -/
namespace Go.Proofs.YtncegikmpapldaaGreatDoor
open Go.RowKit Go.Maps

def lookL (L : List (ByteArray × Int)) (s : ByteArray) : Option Int := (L.find? fun p => decide (p.1 = s)).map (·.2)
/-- The map reads as such a list of names and numbers, no name twice. -/
def MapIs (D : DataW Unit) (L : List (ByteArray × Int)) : Prop :=
  IsMap D ∧ ∀ s : ByteArray, Maps.has D (.string s.data.toList) = (lookL L s).isSome ∧ D.atKey (.string s.data.toList) (.lit (.int .i64 0)) = .lit (.int .i64 ((lookL L s).getD 0))

theorem look_snoc (L : List (ByteArray × Int)) (s : ByteArray) (x : Int) (t : ByteArray) : lookL (L ++ [(s, x)]) t = (lookL L t).or (if s = t then some x else none) := by
  unfold lookL
  rw [List.find?_append]
  cases h : L.find? fun p => decide (p.1 = t) with
  | some p => simp
  | none =>
    by_cases e : s = t
    · subst e; simp
    · simp [e]
theorem look_none {L : List (ByteArray × Int)} {s : ByteArray} : lookL L s = none ↔ s ∉ L.map (·.1) := by
  unfold lookL
  rw [Option.map_eq_none_iff, List.find?_eq_none]
  simp only [decide_eq_true_eq, List.mem_map, not_exists, not_and]
theorem mapis_empty : MapIs (.map []) [] := ⟨isMap_empty, fun _ => ⟨rfl, rfl⟩⟩
theorem mstr_inj {a b : ByteArray} (h : a.data.toList = b.data.toList) : a = b := by
  cases a; cases b; simpa [Array.toList_inj] using h
theorem mapis_put {D : DataW Unit} {L : List (ByteArray × Int)} {s : ByteArray} {x : Int} (h : MapIs D L) (hn : lookL L s = none) : MapIs (D.put (.string s.data.toList) (.lit (.int .i64 x))) (L ++ [(s, x)]) := by
  obtain ⟨h1, h2⟩ := h
  refine ⟨h1.put _ _, fun t => ?_⟩
  rw [look_snoc]
  by_cases e : s = t
  · subst e
    rw [has_put_same h1 (by exact trivial), atKey_put_same h1 (by exact trivial), hn]
    simp
  · have ne : (Lit.string t.data.toList) ≠ .string s.data.toList := fun k => e (mstr_inj (by injection k with k; exact k.symm))
    rw [has_put_other ne, atKey_put_other ne, if_neg e, Option.or_none]
    exact h2 t

/-- The names of the houses at such places, each with its place. -/
def namesAt (hs : List Hs) (i : Nat) : List ByteArray := match hs[i]? with | some h => h.names | none => []
def asc (hs : List Hs) (pre : List Nat) : List (ByteArray × Int) := pre.flatMap fun i => (namesAt hs i).map fun s => (s, (i : Int))
theorem asc_snoc (hs : List Hs) (pre : List Nat) (i : Nat) : asc hs (pre ++ [i]) = asc hs pre ++ (namesAt hs i).map fun s => (s, (i : Int)) := by simp [asc]
theorem namesAt_at {hs : List Hs} {i : Nat} {h : Hs} (hi : hs[i]? = some h) : namesAt hs i = h.names := by simp [namesAt, hi]
theorem asc_names (hs : List Hs) (k : Nat) (hk : k ≤ hs.length) : (asc hs (List.range k)).map (·.1) = namesL (hs.take k) := by
  induction k with
  | zero => simp [asc, namesL]
  | succ k ih =>
    have hg : hs[k]? = some hs[k] := List.getElem?_eq_getElem (by omega)
    rw [List.range_succ, asc_snoc, List.map_append, ih (by omega), namesL_take hg, namesAt_at hg, List.map_map]
    congr 1
    simp [Function.comp_def]
theorem look_append (L M : List (ByteArray × Int)) (s : ByteArray) : lookL (L ++ M) s = (lookL L s).or (lookL M s) := by
  unfold lookL
  rw [List.find?_append]
  cases h : L.find? fun p => decide (p.1 = s) <;> simp
theorem look_const (N : List ByteArray) (x : Int) (s : ByteArray) : lookL (N.map fun t => (t, x)) s = if hasL N s = true then some x else none := by
  induction N with
  | nil => rfl
  | cons t N ih =>
    have : lookL (List.map (fun t => (t, x)) (t :: N)) s = (if t = s then some x else lookL (N.map fun t => (t, x)) s) := by
      unfold lookL
      by_cases e : t = s
      · simp [e]
      · simp [e]
    rw [this, ih]
    have h2 : hasL (t :: N) s = (decide (t = s) || hasL N s) := rfl
    rw [h2]
    by_cases e : t = s
    · simp [e]
    · simp [e]
theorem find_take_succ {hs : List Hs} {k : Nat} {h : Hs} (hk : hs[k]? = some h) (s : ByteArray) : findI (hs.take (k + 1)) s = (findI (hs.take k) s).or (if hasL h.names s = true then some k else none) := by
  have hlt := (List.getElem?_eq_some_iff.1 hk).1
  unfold findI
  rw [List.take_add_one, hk, List.findIdx?_append]
  congr 1
  by_cases e : hasL h.names s = true
  · simp [e, List.findIdx?_cons]; omega
  · simp [e, List.findIdx?_cons]
theorem look_asc (hs : List Hs) (s : ByteArray) (k : Nat) (hk : k ≤ hs.length) : lookL (asc hs (List.range k)) s = (findI (hs.take k) s).map fun j => (j : Int) := by
  induction k with
  | zero => simp [asc, lookL, findI]
  | succ k ih =>
    have hg : hs[k]? = some hs[k] := List.getElem?_eq_getElem (by omega)
    rw [List.range_succ, asc_snoc, look_append, ih (by omega), find_take_succ hg, namesAt_at hg, look_const]
    cases findI (hs.take k) s with
    | some j => simp
    | none => by_cases e : hasL hs[k].names s = true <;> simp [e]
theorem look_all (hs : List Hs) (s : ByteArray) : lookL (asc hs (List.range hs.length)) s = (findI hs s).map fun j => (j : Int) := by
  have := look_asc hs s hs.length (Nat.le_refl _)
  rwa [List.take_length] at this
theorem asc_len (hs : List Hs) (k : Nat) (hk : k ≤ hs.length) : (asc hs (List.range k)).length = (namesL (hs.take k)).length := by
  rw [← asc_names hs k hk, List.length_map]

/-- So far all houses are ok, and no name stands twice. -/
def goodTo (hs : List Hs) (k : Nat) : Prop := (∀ h ∈ hs.take k, houseB h = true) ∧ (namesL (hs.take k)).Nodup
theorem good_cfg {hs : List Hs} : cfgB hs = true ↔ (1 ≤ hs.length ∧ hs.length ≤ 4) ∧ goodTo hs hs.length := by
  unfold goodTo
  rw [List.take_length]
  exact cfgB_iff
theorem good_less {hs : List Hs} {k n : Nat} (hk : k ≤ n) (h : goodTo hs n) : goodTo hs k := by
  have e : hs.take k = (hs.take n).take k := by rw [List.take_take, Nat.min_eq_left hk]
  refine ⟨fun x hx => h.1 x (by rw [e] at hx; exact List.mem_of_mem_take hx), ?_⟩
  have e2 : hs.take n = hs.take k ++ (hs.take n).drop k := by rw [e, List.take_append_drop]
  have := h.2
  rw [e2] at this
  unfold namesL at this ⊢
  rw [List.flatMap_append, List.nodup_append] at this
  exact this.1
end Go.Proofs.YtncegikmpapldaaGreatDoor

-- from XCfgS
/- Walks: houses, by the specification. -/
namespace Go.Proofs.YtncegikmpapldaaGreatDoor
open Go.RowKit

set_option maxHeartbeats 400000 in
theorem l1_inI (n lo hi : Int) (w : World) :
    Calls Tryz.prog 47 #[.int .i64 n, .int .i64 lo, .int .i64 hi] w fun e w' => e = .returned (.bool (inI n lo hi)) ∧ w = w' := by
  unfold inI
  by_cases h1 : lo ≤ n
  · by_cases h2 : n ≤ hi
    all_goals
      go_enter Tryz.func47, Tryz.ntmps47
      go_wp2
      go_ret
      exact ⟨by simp [h1, h2], rfl⟩
  · go_enter Tryz.func47, Tryz.ntmps47
    go_wp2
    go_ret
    exact ⟨by simp; omega, rfl⟩

theorem hasL_take {L : List ByteArray} {k : Nat} {x s : ByteArray} (hk : L[k]? = some x) (h : hasL (L.take k) s = false) (e : x ≠ s) : hasL (L.take (k + 1)) s = false := by
  rw [List.take_add_one, hk]
  unfold hasL at *
  rw [List.any_append, h]
  simp [e]

set_option maxHeartbeats 800000 in
theorem l5_has (v : Value) (L : List ByteArray) (s : ByteArray) (w : World) (hS : NRow w v L) :
    Calls Tryz.prog 92 #[v, .string s] w fun e w' => e = .returned (.bool (hasL L s)) ∧ w = w' := by
  obtain ⟨a, c, rfl, h1, h2, h3⟩ := hS
  unfold maxLen at h2
  have H3 := Lib.hid h3
  clear h3
  go_enter Tryz.func92, Tryz.ntmps92
  go_wp2_with fail
  go_loop [5] (fun i => ∃ k : Nat, k ≤ L.length ∧ i = .int .i64 k ∧ hasL (L.take k) s = false) (fun i => L.length - (intOf i).toNat)
  case atStart => exact ⟨0, Nat.zero_le _, rfl, rfl⟩
  case round =>
    obtain ⟨k, hk, rfl, hno⟩ := hrel
    by_cases hlt : k < L.length
    · obtain ⟨x, hg⟩ : ∃ x, L[k]? = some x := ⟨_, List.getElem?_eq_getElem hlt⟩
      obtain ⟨b, o, ea, _, c1⟩ := H3.out k x hg
      subst ea
      by_cases e : x = s
      · subst e
        have se := strh_same x
        have hr : hasL L x = true := hasL_iff.2 (List.mem_of_getElem? hg)
        have HR := Lib.hid hr
        clear hg hr hno
        go_wp2
        go_ret
        rw [HR.out]
        exact ⟨rfl, rfl⟩
      · have se := strh_ne e
        have HN := Lib.hid (hasL_take hg hno e)
        clear hg hno
        go_wp2
        go_round
        case rel => exact ⟨k + 1, by omega, by go_num, HN.out⟩
        case measure => simp [intOf]; omega
    · have hkl : k = L.length := by omega
      rw [hkl, List.take_length] at hno
      have HN := Lib.hid hno
      clear hno
      go_wp2
      go_ret
      rw [HN.out]
      exact ⟨rfl, rfl⟩
end Go.Proofs.YtncegikmpapldaaGreatDoor

-- from XCfgS2
/- Walks: a house, by the specification. -/
namespace Go.Proofs.YtncegikmpapldaaGreatDoor
open Go.RowKit

theorem four_facts {w' : World} {g : Nat} {x0 x1 x2 x3 : Value} {T : TypeId} (h : w'.heap[g]? = some (.cells #[x0, x1, x2, x3] T (0, 0))) :
    w'.cell? ⟨g, 0, none⟩ = some x0 ∧ w'.cell? ⟨g, 1, none⟩ = some x1 ∧ w'.cell? ⟨g, 2, none⟩ = some x2 ∧ w'.cell? ⟨g, 3, none⟩ = some x3 ∧
    w'.frozen? ⟨g, 0, none⟩ = false ∧ w'.frozen? ⟨g, 1, none⟩ = false ∧ w'.frozen? ⟨g, 2, none⟩ = false ∧ w'.frozen? ⟨g, 3, none⟩ = false := by
  refine ⟨?_, ?_, ?_, ?_, ?_, ?_, ?_, ?_⟩ <;> simp [World.cell?, World.frozen?, h]
theorem one_fact {w' : World} {g : Nat} {x0 : Value} {T : TypeId} (h : w'.heap[g]? = some (.cells #[x0] T (0, 0))) :
    w'.cell? ⟨g, 0, none⟩ = some x0 ∧ w'.frozen? ⟨g, 0, none⟩ = false := by
  refine ⟨?_, ?_⟩ <;> simp [World.cell?, World.frozen?, h]
theorem host_at (s : ByteArray) : ∃ (T : ByteArray) (ok : Bool), hostR s.data.toList = (T, ok) ∧ ((ok = true ∧ T = s) ↔ hostB s.data.toList = true) := host_ps s
theorem house_split (h : Hs) : houseB h = (inI h.names.length 1 3 && (inI h.key 1 9999 && (inI h.maxN 1 6 && (inI h.maxB 1 120 && namesB h.names)))) := rfl
theorem namesB_false {L : List ByteArray} {k : Nat} {x : ByteArray} (hk : L[k]? = some x) (h : hostB x.data.toList = false) : namesB L = false := by
  rw [Bool.eq_false_iff]; intro e
  unfold namesB at e
  rw [List.all_eq_true] at e
  rw [e x (List.mem_of_getElem? hk)] at h; cases h
theorem namesB_take {L : List ByteArray} {k : Nat} {x : ByteArray} (hk : L[k]? = some x) (h : namesB (L.take k) = true) (hx : hostB x.data.toList = true) : namesB (L.take (k + 1)) = true := by
  rw [List.take_add_one, hk]
  unfold namesB at *
  rw [List.all_append, h]
  simp [hx]

set_option maxRecDepth 100000 in
set_option maxHeartbeats 3200000 in
theorem l5_house (h : Hs) (u : Value) (w : World) (hS : NRow w u h.names) (hN : NOk h.names 1048576) :
    Calls Tryz.prog 90 #[.agg #[u, .int .i64 h.key, .int .i64 h.maxN, .int .i64 h.maxB]] w fun e w' => e = .returned (.bool (houseB h)) ∧ Below w.heap.size w w' := by
  have hsp := house_split h
  generalize houseB h = R at *
  obtain ⟨wA, hwA⟩ : ∃ wA, wA = w.alloc (.cells #[u, .int .i64 h.key, .int .i64 h.maxN, .int .i64 h.maxB] 48) := ⟨_, rfl⟩
  have hsA : wA.heap.size = w.heap.size + 1 := by rw [hwA]; simp
  have hbA : Below w.heap.size w wA := by rw [hwA]; exact (Below.refl _ _).alloc (Nat.le_refl _) _
  have hcell : ∀ W, Below (w.heap.size + 1) wA W → W.heap[w.heap.size]? = some (.cells #[u, .int .i64 h.key, .int .i64 h.maxN, .int .i64 h.maxB] 48 (0, 0)) := fun W hW =>
    (hW.block w.heap.size (by omega)).trans (by rw [hwA]; exact heap_alloc_new w _)
  have HCell := Lib.hid hcell
  obtain ⟨a, c, rfl, hl1, hl2, h3⟩ := hS
  have h4 : ∀ W, Below (w.heap.size + 1) wA W → Below w.heap.size w W ∧ ∀ j s, h.names[j]? = some s → ∃ b o, a = some ⟨b, o, none⟩ ∧ W.cell? ⟨b, o + j, none⟩ = some (.string s) := fun W hW => by
    have hb := hbA.trans (hW.mono (Nat.le_succ _))
    refine ⟨hb, fun j s hj => ?_⟩
    obtain ⟨b, o, e, hlt, c1⟩ := h3 j s hj
    exact ⟨b, o, e, (hb.cell (p := ⟨b, o + j, none⟩) hlt).trans c1⟩
  have HW := Lib.hid h4
  have HN := Lib.hid hN
  have HwA := Lib.hid hwA
  have HS := Lib.hid hsp
  unfold maxLen at hl2
  have hb0 : Below (w.heap.size + 1) wA wA := Below.refl _ _
  obtain ⟨t0, t1, t2, t3, _⟩ := four_facts (hcell _ hb0)
  rw [hwA] at t0 t1 t2 t3
  have HB0 := Lib.hid (h4 _ hb0).1
  have hI0 := hb0
  clear hcell hwA hbA hsp h3 h4 hN hb0
  go_enter Tryz.func90, Tryz.ntmps90
  have q := fun (x lo hi : Int) W => l1_inI x lo hi W
  rcases Bool.eq_false_or_eq_true (inI h.names.length 1 3) with j1 | j1
  · rcases Bool.eq_false_or_eq_true (inI h.key 1 9999) with j2 | j2
    · rcases Bool.eq_false_or_eq_true (inI h.maxN 1 6) with j3 | j3
      · rcases Bool.eq_false_or_eq_true (inI h.maxB 1 120) with j4 | j4
        · have HF : Hid (R = namesB h.names) := Lib.hid (by rw [HS.out, j1, j2, j3, j4]; rfl)
          clear HS
          go_wp2_with (go_at_call 47; refine (q _ _ _ _).mono ?_; rintro e w' ⟨rfl, rfl⟩)
          clear j1 j2 j3 j4 t0 t1 t2 t3
          rw [← HwA.out]
          have HI := Lib.hid hI0
          clear hI0
          go_loopw [3, 4, 5] (fun i _ _ wr => ∃ k : Nat, k ≤ h.names.length ∧ i = .int .i64 k ∧ namesB (h.names.take k) = true ∧ Below (w.heap.size + 1) wA wr) (fun i _ _ _ => h.names.length - (intOf i).toNat)
          case atStart => exact ⟨0, Nat.zero_le _, rfl, rfl, HI.out⟩
          case round =>
            obtain ⟨k, hk, rfl, hall, hbr⟩ := hrel
            obtain ⟨t0, t1, t2, t3, _⟩ := four_facts (HCell.out wr hbr)
            by_cases hlt : k < h.names.length
            · obtain ⟨x, hg⟩ : ∃ x, h.names[k]? = some x := ⟨_, List.getElem?_eq_getElem hlt⟩
              obtain ⟨b, o, ea, c1⟩ := (HW.out wr hbr).2 k x hg
              subst ea
              have hC := spec_host x wr (HN.out x (List.mem_of_getElem? hg))
              obtain ⟨T, ok, hR, hiff⟩ := host_at x
              rw [hR] at hC
              have HG := Lib.hid hg
              have HA := Lib.hid hall
              have HIff := Lib.hid hiff
              have HBr := Lib.hid hbr
              clear hR hg hall hiff hbr
              go_wp2_with fail
              refine hC.mono ?_
              rintro e w2 ⟨rfl, hb2⟩
              have hb02 := HBr.out.trans (hb2.mono (by have := HBr.out.size; omega))
              clear hC hb2 t0 t1 t2 t3 c1
              obtain ⟨t0, t1, t2, t3, _⟩ := four_facts (HCell.out w2 hb02)
              obtain ⟨b2, o2, ea, c1⟩ := (HW.out w2 hb02).2 k x HG.out
              obtain ⟨rfl, rfl⟩ : b = b2 ∧ o = o2 := by simpa using ea
              have HB2 := Lib.hid (HW.out w2 hb02).1
              have HB02 := Lib.hid hb02
              clear hb02 ea
              cases ok
              · have hf : hostB x.data.toList = false := by
                  rw [Bool.eq_false_iff]; intro e; have := HIff.out.2 e; simp at this
                have HR := Lib.hid (HF.out.trans (namesB_false HG.out hf))
                clear hf
                go_wp2
                go_ret
                rw [HR.out]; exact ⟨rfl, HB2.out⟩
              · by_cases e : T = x
                · subst e
                  have se := strh_same T
                  have ht : hostB T.data.toList = true := HIff.out.1 ⟨rfl, rfl⟩
                  have HN2 := Lib.hid (namesB_take HG.out HA.out ht)
                  clear ht
                  go_wp2
                  go_roundw
                  case rel => exact ⟨k + 1, by omega, by go_num, HN2.out, HB02.out⟩
                  case measure => simp [intOf]; omega
                · have se := strh_ne e
                  have hf : hostB x.data.toList = false := by
                    rw [Bool.eq_false_iff]; intro e2; exact e (HIff.out.2 e2).2
                  have HR := Lib.hid (HF.out.trans (namesB_false HG.out hf))
                  clear hf e
                  go_wp2
                  go_ret
                  rw [HR.out]; exact ⟨rfl, HB2.out⟩
            · have hkl : k = h.names.length := by omega
              rw [hkl, List.take_length] at hall
              have HR := Lib.hid (HF.out.trans hall)
              have HB2 := Lib.hid (HW.out wr hbr).1
              clear hall hbr
              go_wp2
              go_ret
              rw [HR.out]; exact ⟨rfl, HB2.out⟩
        · have HF : Hid (R = false) := Lib.hid (by rw [HS.out, j1, j2, j3, j4]; rfl)
          clear HS
          go_wp2_with (go_at_call 47; refine (q _ _ _ _).mono ?_; rintro e w' ⟨rfl, rfl⟩)
          go_ret
          rw [HF.out, ← HwA.out]; exact ⟨rfl, HB0.out⟩
      · have HF : Hid (R = false) := Lib.hid (by rw [HS.out, j1, j2, j3]; rfl)
        clear HS
        go_wp2_with (go_at_call 47; refine (q _ _ _ _).mono ?_; rintro e w' ⟨rfl, rfl⟩)
        go_ret
        rw [HF.out, ← HwA.out]; exact ⟨rfl, HB0.out⟩
    · have HF : Hid (R = false) := Lib.hid (by rw [HS.out, j1, j2]; rfl)
      clear HS
      go_wp2_with (go_at_call 47; refine (q _ _ _ _).mono ?_; rintro e w' ⟨rfl, rfl⟩)
      go_ret
      rw [HF.out, ← HwA.out]; exact ⟨rfl, HB0.out⟩
  · have HF : Hid (R = false) := Lib.hid (by rw [HS.out, j1]; rfl)
    clear HS
    go_wp2_with (go_at_call 47; refine (q _ _ _ _).mono ?_; rintro e w' ⟨rfl, rfl⟩)
    go_ret
    rw [HF.out, ← HwA.out]; exact ⟨rfl, HB0.out⟩
end Go.Proofs.YtncegikmpapldaaGreatDoor

-- from XCfgS3
/- Walks: all names of all houses, by the specification. -/
namespace Go.Proofs.YtncegikmpapldaaGreatDoor
open Go.RowKit

theorem Tryz.infoStrC : (Tryz.prog.info? 9).map (fun i => (i.zero, i.size, i.bytes)) = some (some (.string ⟨#[]⟩), 1, 16) := by kernel_rfl
theorem own_lowC {w : World} {B B' : Nat} {e : TypeId} {size : Nat} {v : Value} {n : Nat} {xs : List Value} (h : w.ownsRow B e size v n xs) (hB : B' ≤ B) : w.ownsRow B' e size v n xs := by
  refine ⟨h.1, ?_⟩
  rcases h.2 with h | ⟨g, cap, cur, h, hb, rest⟩
  · exact .inl h
  · exact .inr ⟨g, cap, cur, h, Nat.le_trans hB hb, rest⟩
/-- The cells of a list of texts that has one at least. -/
theorem nrow_cells {w : World} {v : Value} {L : List ByteArray} (h : NRow w v L) (hn : 1 ≤ L.length) : ∃ b o c, v = .slice (some ⟨b, o, none⟩) L.length c ∧ L.length ≤ c ∧ c ≤ maxLen ∧ b < w.heap.size ∧
    ∀ j x, (L.map Value.string)[j]? = some x → w.cell? ((⟨b, o, none⟩ : Addr).add j) = some x := by
  obtain ⟨a, c, rfl, h1, h2, h3⟩ := h
  obtain ⟨b, o, rfl, hb, _⟩ := h3 0 L[0] (List.getElem?_eq_getElem (by omega))
  refine ⟨b, o, c, rfl, h1, h2, hb, fun j x hx => ?_⟩
  rw [List.getElem?_map] at hx
  cases hj : L[j]? with
  | none => rw [hj] at hx; cases hx
  | some s =>
    rw [hj] at hx
    obtain ⟨b', o', e, _, c1⟩ := h3 j s hj
    obtain ⟨rfl, rfl⟩ : b = b' ∧ o = o' := by simpa using e
    have ea : (⟨b, o, none⟩ : Addr).add j = ⟨b, o + j, none⟩ := by unfold Addr.add; split <;> simp_all
    rw [ea, c1]
    simpa using hx

set_option maxRecDepth 100000 in
set_option maxHeartbeats 3200000 in
theorem l5_names (hs : List Hs) (v : Value) (w : World) (hH : HRow w v hs) (hk : ∀ h ∈ hs, houseB h = true) (hn : hs.length ≤ 4) :
    Calls Tryz.prog 91 #[.agg #[v]] w fun e w' => ∃ u, e = .returned u ∧ w'.ownsRow w.heap.size 9 1 u (namesL hs).length ((namesL hs).map Value.string) ∧ Below w.heap.size w w' := by
  obtain ⟨i0, hi, hz0, hz1, hz2⟩ := info_parts Tryz.infoStrC
  obtain ⟨wA, hwA⟩ : ∃ wA, wA = w.alloc (.cells #[v] 25) := ⟨_, rfl⟩
  have hsA : wA.heap.size = w.heap.size + 1 := by rw [hwA]; simp
  have hbA : Below w.heap.size w wA := by rw [hwA]; exact (Below.refl _ _).alloc (Nat.le_refl _) _
  have hcell : ∀ W, Below (w.heap.size + 1) wA W → W.heap[w.heap.size]? = some (.cells #[v] 25 (0, 0)) := fun W hW =>
    (hW.block w.heap.size (by omega)).trans (by rw [hwA]; exact heap_alloc_new w _)
  have HCell := Lib.hid hcell
  have hH0 := hH
  obtain ⟨a, c, rfl, hl1, hl2, _⟩ := hH0
  have h4 : ∀ W, Below (w.heap.size + 1) wA W → Below w.heap.size w W ∧ HRow W (.slice a hs.length c) hs := fun W hW => by
    have hb := hbA.trans (hW.mono (Nat.le_succ _))
    exact ⟨hb, hH.below (Nat.le_refl _) hb⟩
  have HW := Lib.hid h4
  have HwA := Lib.hid hwA
  unfold maxLen at hl2
  have hb0 : Below (w.heap.size + 1) wA wA := Below.refl _ _
  have HB0 := Lib.hid hb0
  have HK := Lib.hid hk
  clear hcell hwA hbA h4 hb0 hH hk
  go_enter Tryz.func91, Tryz.ntmps91
  go_wp2_with fail
  rw [← HwA.out]
  have ho0 : (wA.alloc (.cells #[] 9)).ownsRow (w.heap.size + 1) 9 1 (.slice (some ⟨wA.heap.size, 0, none⟩) 0 0) 0 [] := World.ownsRow_made wA #[] 0 (Nat.le_of_eq hsA.symm) (by decide) rfl
  rw [hsA] at ho0
  have HO0 := Lib.hid ho0
  clear ho0
  go_loopw [3, 4] (fun x i wr => ∃ k : Nat, k ≤ hs.length ∧ i = .int .i64 k ∧ wr.ownsRow (w.heap.size + 1) 9 1 x (namesL (hs.take k)).length ((namesL (hs.take k)).map Value.string) ∧ Below (w.heap.size + 1) wA wr ∧ (namesL (hs.take k)).length ≤ 3 * k) (fun _ i _ => hs.length - (intOf i).toNat)
  case atStart => exact ⟨0, Nat.zero_le _, rfl, HO0.out, HB0.out.alloc (Nat.le_of_eq hsA.symm) _, Nat.le_refl _⟩
  case round =>
    obtain ⟨k, hk, rfl, hown, hnx, hkl⟩ := hrel
    obtain ⟨t0, _⟩ := one_fact (HCell.out wr hnx)
    by_cases hlt : k < hs.length
    · obtain ⟨h, hg⟩ : ∃ h, hs[k]? = some h := ⟨_, List.getElem?_eq_getElem hlt⟩
      obtain ⟨_, _, e1, _, _, hh⟩ := (HW.out wr hnx).2
      obtain ⟨b, o, u, ea, hb, c1, hS, c2, c3, c4⟩ := hh k h hg
      have ha : a = some ⟨b, o, none⟩ := by injection e1 with e1 _ _; rw [e1, ea]
      subst ha
      have hok := houseB_iff.1 (HK.out h (List.mem_of_getElem? hg))
      obtain ⟨b1, o1, cc, rfl, m1, m2, _, hcs⟩ := nrow_cells hS (by have := hok.1; omega)
      have hm := hok.1
      have HT := Lib.hid (namesL_take hg)
      have hnx' := hnx.size
      generalize namesL (hs.take k) = rows at *
      have hlen3 : (h.names.map Value.string).length = h.names.length * 1 := by simp
      have hone : ∀ y ∈ h.names.map Value.string, y.oneCell' = true := fun y hy => by
        obtain ⟨s, _, rfl⟩ := List.mem_map.1 hy; rfl
      clear hok hS hh e1 hg ea c2 c3 c4
      obtain ⟨news, hnews⟩ : ∃ news, news = h.names.map Value.string := ⟨_, rfl⟩
      rw [← hnews] at hcs hlen3 hone
      have HNews := Lib.hid hnews
      clear hnews
      go_wp2_with (at_builtin; go_must (refine wpList_append_own wr rfl _ _ 46 rfl (w.heap.size + 1) 9 i0 _ 1 16 Tryz.underlying46 hi hz0 hz1 hz2 rfl (by decide) _ _ _ (by rfl) hown ⟨b1, o1, none⟩ h.names.length cc news rfl hlen3 hcs hone (by unfold maxLen; omega) (by omega) (by omega) ?_); intro v' w3 ho3 hg3 hnil3)
      have hb3 : Below (w.heap.size + 1) wr w3 := (Below.refl _ _).grown hg3 (by omega) (fun k' hk' => (hown.lt k' hk').1)
      have HL := Lib.hid (And.intro ho3 (And.intro (hnx.trans hb3) hkl))
      clear hown hg3 hb3 hnx ho3
      go_roundw
      case rel =>
        obtain ⟨r1, r2, r3⟩ := HL.out
        rw [HNews.out] at r1
        refine ⟨k + 1, by omega, by go_num, ?_, r2, ?_⟩ <;> rw [HT.out]
        · rw [List.length_append, List.map_append]; exact r1
        · rw [List.length_append]; omega
      case measure => simp [intOf]; omega
    · have hkl2 : k = hs.length := by omega
      rw [hkl2, List.take_length] at hown
      have HO := Lib.hid (own_lowC hown (Nat.le_succ _))
      have HB := Lib.hid (HW.out wr hnx).1
      clear hown hnx
      go_wp2
      go_ret
      exact ⟨_, rfl, HO.out, HB.out⟩
end Go.Proofs.YtncegikmpapldaaGreatDoor

-- from XCfgS4
/- Walks: whether houses are ok, by the specification. -/
namespace Go.Proofs.YtncegikmpapldaaGreatDoor
open Go.RowKit

theorem cfg_short {hs : List Hs} (h : inI hs.length 1 4 = false) : cfgB hs = false := by unfold cfgB; rw [h]; rfl
theorem cfg_bad {hs : List Hs} {k : Nat} {h : Hs} (hg : hs[k]? = some h) (hb : houseB h = false) : cfgB hs = false := by
  rw [Bool.eq_false_iff]; intro e
  rw [(cfgB_iff.1 e).2.1 h (List.mem_of_getElem? hg)] at hb; cases hb
theorem cfg_twice {hs : List Hs} {k : Nat} {x : ByteArray} (hg : (namesL hs)[k]? = some x) (ht : hasL ((namesL hs).take k) x = true) : cfgB hs = false := by
  rw [Bool.eq_false_iff]; intro e
  have hn := (cfgB_iff.1 e).2.2
  have hm := hasL_iff.1 ht
  obtain ⟨hlt, hx⟩ := List.getElem?_eq_some_iff.1 hg
  obtain ⟨j, hj, hjx⟩ := List.mem_take_iff_getElem.1 hm
  have := (List.getElem_inj hn).1 (hjx.trans hx.symm)
  omega
theorem nodup_take {L : List ByteArray} {k : Nat} {x : ByteArray} (hg : L[k]? = some x) (hn : (L.take k).Nodup) (ht : hasL (L.take k) x = false) : (L.take (k + 1)).Nodup := by
  rw [List.take_add_one, hg]
  show (L.take k ++ [x]).Nodup
  rw [List.nodup_append]
  refine ⟨hn, by simp, fun a ha b hb => ?_⟩
  have : b = x := by simpa using hb
  subst this
  intro e; subst e
  exact hasL_false.1 ht ha
theorem cfg_good {hs : List Hs} (h1 : inI hs.length 1 4 = true) (h2 : ∀ h ∈ hs, houseB h = true) (h3 : (namesL hs).Nodup) : cfgB hs = true := by
  unfold cfgB
  rw [h1, List.all_eq_true.2 h2, decide_eq_true h3]; rfl
theorem nrow_take {w : World} {B : Nat} {T : TypeId} {g n cap k : Nat} {L : List ByteArray} (h : w.ownsRow B T 1 (.slice (some ⟨g, 0, none⟩) n cap) n (L.map Value.string)) (hk : k ≤ n) : NRow w (.slice (some ⟨g, 0, none⟩) k cap) (L.take k) := by
  have hl : (L.take k).length = k := by
    have := h.1
    simp at this
    rw [List.length_take]; omega
  have := own_take h hk
  rw [← List.map_take] at this
  have h2 : w.ownsRow B T 1 (.slice (some ⟨g, 0, none⟩) k cap) (L.take k).length ((L.take k).map Value.string) := by rw [hl]; exact this
  exact nrow_own h2

set_option maxRecDepth 100000 in
set_option maxHeartbeats 3200000 in
theorem spec_cfgok (hs : List Hs) (v : Value) (w : World) (hH : HRow w v hs) (hN : HOks hs 1048576) :
    Calls Tryz.prog 46 #[.agg #[v]] w fun e w' => e = .returned (.bool (cfgB hs)) ∧ Below w.heap.size w w' := by
  obtain ⟨wA, hwA⟩ : ∃ wA, wA = w.alloc (.cells #[v] 25) := ⟨_, rfl⟩
  have hsA : wA.heap.size = w.heap.size + 1 := by rw [hwA]; simp
  have hbA : Below w.heap.size w wA := by rw [hwA]; exact (Below.refl _ _).alloc (Nat.le_refl _) _
  have hcell : ∀ W, Below (w.heap.size + 1) wA W → W.heap[w.heap.size]? = some (.cells #[v] 25 (0, 0)) := fun W hW =>
    (hW.block w.heap.size (by omega)).trans (by rw [hwA]; exact heap_alloc_new w _)
  have HCell := Lib.hid hcell
  have hH0 := hH
  obtain ⟨a, c, rfl, hl1, hl2, _⟩ := hH0
  have h4 : ∀ W, Below (w.heap.size + 1) wA W → Below w.heap.size w W ∧ HRow W (.slice a hs.length c) hs := fun W hW => by
    have hb := hbA.trans (hW.mono (Nat.le_succ _))
    exact ⟨hb, hH.below (Nat.le_refl _) hb⟩
  have HW := Lib.hid h4
  have HwA := Lib.hid hwA
  unfold maxLen at hl2
  have hb0 : Below (w.heap.size + 1) wA wA := Below.refl _ _
  have HB0 := Lib.hid hb0
  have HN := Lib.hid hN
  obtain ⟨t0, _⟩ := one_fact (hcell _ hb0)
  rw [hwA] at t0
  have q := fun (x lo hi : Int) W => l1_inI x lo hi W
  clear hcell hwA hbA h4 hb0 hH hN
  go_enter Tryz.func46, Tryz.ntmps46
  rcases Bool.eq_false_or_eq_true (inI hs.length 1 4) with j1 | j1
  · have HJ := Lib.hid j1
    go_wp2_with (go_at_call 47; refine (q _ _ _ _).mono ?_; rintro e w' ⟨rfl, rfl⟩)
    rw [← HwA.out]
    clear j1 t0 q
    go_loopw [3] (fun i wr => ∃ k : Nat, k ≤ hs.length ∧ i = .int .i64 k ∧ (∀ h ∈ hs.take k, houseB h = true) ∧ Below (w.heap.size + 1) wA wr) (fun i _ => hs.length - (intOf i).toNat)
    case atStart => exact ⟨0, Nat.zero_le _, rfl, fun h hh => by simp at hh, HB0.out⟩
    case round =>
      obtain ⟨k, hk, rfl, hall, hnx⟩ := hrel
      obtain ⟨t0, _⟩ := one_fact (HCell.out wr hnx)
      by_cases hlt : k < hs.length
      · obtain ⟨h, hg⟩ : ∃ h, hs[k]? = some h := ⟨_, List.getElem?_eq_getElem hlt⟩
        obtain ⟨_, _, e1, _, _, hh⟩ := (HW.out wr hnx).2
        obtain ⟨b, o, u, ea, hb, c1, hS, c2, c3, c4⟩ := hh k h hg
        have ha : a = some ⟨b, o, none⟩ := by injection e1 with e1 _ _; rw [e1, ea]
        subst ha
        have hC := l5_house h u wr hS (HN.out h (List.mem_of_getElem? hg))
        have HG := Lib.hid hg
        have HA := Lib.hid hall
        have HNx := Lib.hid hnx
        clear hS hh e1 hg ea hall hnx
        obtain ⟨R, hR⟩ : ∃ R, R = houseB h := ⟨_, rfl⟩
        rw [← hR] at hC
        have HR := Lib.hid hR
        clear hR
        cases R
        · go_wp2_with fail
          refine hC.mono ?_
          rintro e w2 ⟨rfl, hb2⟩
          have HB := Lib.hid ((HW.out wr HNx.out).1.trans (hb2.mono (HW.out wr HNx.out).1.size))
          have HF := Lib.hid (cfg_bad HG.out HR.out.symm)
          clear hC hb2 t0 c1 c2 c3 c4
          go_wp2
          go_ret
          rw [HF.out]; exact ⟨rfl, HB.out⟩
        · go_wp2_with fail
          refine hC.mono ?_
          rintro e w2 ⟨rfl, hb2⟩
          have HB := Lib.hid (HNx.out.trans (hb2.mono (by have := HNx.out.size; omega)))
          clear hC hb2 t0 c1 c2 c3 c4
          go_wp2
          go_roundw
          case rel =>
            refine ⟨k + 1, by omega, by go_num, fun h' hh' => ?_, HB.out⟩
            rw [List.take_add_one, HG.out] at hh'
            rcases List.mem_append.1 hh' with hh' | hh'
            · exact HA.out h' hh'
            · have : h' = h := by simpa using hh'
              rw [this]; exact HR.out.symm
          case measure => simp [intOf]; omega
      · have hkl2 : k = hs.length := by omega
        rw [hkl2, List.take_length] at hall
        have hn4 : hs.length ≤ 4 := by have := inI_iff.1 HJ.out; omega
        have hn1 : 1 ≤ hs.length := by have := inI_iff.1 HJ.out; omega
        have hC := l5_names hs _ wr (HW.out wr hnx).2 hall hn4
        have hpos : 0 < (namesL hs).length := by
          obtain ⟨h, hg⟩ : ∃ h, hs[0]? = some h := ⟨_, List.getElem?_eq_getElem hn1⟩
          have h1 := (houseB_iff.1 (hall h (List.mem_of_getElem? hg))).1.1
          have e : hs = h :: hs.drop 1 := by
            cases hs with
            | nil => simp at hg
            | cons x t => simp at hg; simp [hg]
          rw [e]
          simp only [namesL, List.flatMap_cons, List.length_append]
          omega
        have hlen := names_len hall
        have HA := Lib.hid hall
        have HNx := Lib.hid hnx
        clear hall hnx
        go_wp2_with fail
        refine hC.mono ?_
        rintro e w2 ⟨u, rfl, ho, hb2⟩
        obtain ⟨g, cap, rfl⟩ := own_form ho hpos
        obtain ⟨hcap1, hcap2⟩ := own_max ho
        have hcs : ∀ j x, (namesL hs)[j]? = some x → w2.cell? ⟨g, j, none⟩ = some (.string x) := fun j x hj => own_cell ho (by rw [List.getElem?_map, hj]; rfl)
        have hts : ∀ j, j ≤ (namesL hs).length → NRow w2 (.slice (some ⟨g, 0, none⟩) j cap) ((namesL hs).take j) := fun j hj => nrow_take ho hj
        have HCs := Lib.hid hcs
        have HTs := Lib.hid hts
        have HB := Lib.hid ((HW.out wr HNx.out).1.trans (hb2.mono (HW.out wr HNx.out).1.size))
        have HGood := Lib.hid (fun h3 => cfg_good HJ.out HA.out h3)
        have HTw := Lib.hid (fun (k : Nat) (x : ByteArray) h1 h2 => cfg_twice (hs := hs) (k := k) (x := x) h1 h2)
        clear hC hb2 t0 hcs hts ho
        generalize namesL hs = L at *
        go_wp2_with fail
        go_loopw [5] (fun i wr => ∃ k : Nat, k ≤ L.length ∧ i = .int .i64 k ∧ (L.take k).Nodup ∧ ∃ n, wr = w2.drewN n) (fun i _ => L.length - (intOf i).toNat)
        case atStart => exact ⟨0, Nat.zero_le _, rfl, by simp, 0, rfl⟩
        case round =>
          obtain ⟨k, hk, rfl, hnd, nn, hwr⟩ := hrel
          have HBw : Hid (Below w.heap.size w wr) := Lib.hid (by rw [hwr]; exact below_drewN HB.out)
          have HWr := Lib.hid hwr
          by_cases hlt : k < L.length
          · obtain ⟨x, hg⟩ : ∃ x, L[k]? = some x := ⟨_, List.getElem?_eq_getElem hlt⟩
            have c0 : wr.cell? ⟨g, k, none⟩ = some (.string x) := by rw [hwr]; exact HCs.out k x hg
            have hts : NRow wr (.slice (some ⟨g, 0, none⟩) k cap) (L.take k) := by rw [hwr]; exact HTs.out k hk
            clear hwr
            have hC : ∀ n, Calls Tryz.prog 92 #[.slice (some ⟨g, 0, none⟩) k cap, .string x] (wr.drewN n) fun e w' => e = .returned (.bool (hasL (L.take k) x)) ∧ w' = wr.drewN n := fun n => (l5_has _ _ x (wr.drewN n) hts).mono fun e w' h => ⟨h.1, h.2.symm⟩
            have HG := Lib.hid hg
            have HD := Lib.hid hnd
            clear hg hnd
            obtain ⟨B, hB⟩ : ∃ B, B = hasL (L.take k) x := ⟨_, rfl⟩
            rw [← hB] at hC
            have HBB := Lib.hid hB
            clear hB
            have i1 : (k : Int) ≤ (cap : Int) := by omega
            have i2 : ¬ cap = 0 := by omega
            have i3 : k ≤ cap := by omega
            cases B
            · go_wp2_with fail
              go_quiet (first | (go_at_call 92; exact Calls.quiet_of_same (hC _)))
              have HN := Lib.hid (nodup_take HG.out HD.out HBB.out.symm)
              clear c0 hC hts
              go_wp2
              go_roundw
              case rel => exact ⟨k + 1, by omega, by go_num, HN.out, nn + nq, by rw [HWr.out]; simp⟩
              case measure => simp [intOf]; omega
            · have HF := Lib.hid (HTw.out k x HG.out HBB.out.symm)
              go_wp2_with fail
              go_quiet (first | (go_at_call 92; exact Calls.quiet_of_same (hC _)))
              clear c0 hC hts
              go_wp2
              go_ret
              rw [HF.out]; exact ⟨rfl, below_drewN HBw.out⟩
          · have hkl : k = L.length := by omega
            rw [hkl, List.take_length] at hnd
            have HF := Lib.hid (HGood.out hnd)
            clear hnd hwr
            go_wp2
            go_ret
            rw [HF.out]; exact ⟨rfl, HBw.out⟩
  · have HF := Lib.hid (cfg_short j1)
    go_wp2_with (go_at_call 47; refine (q _ _ _ _).mono ?_; rintro e w' ⟨rfl, rfl⟩)
    go_ret
    rw [HF.out, ← HwA.out]; exact ⟨rfl, (HW.out _ HB0.out).1⟩
end Go.Proofs.YtncegikmpapldaaGreatDoor

-- from XCfgS5
/- Walks: where a name leads, by the specification. -/
namespace Go.Proofs.YtncegikmpapldaaGreatDoor
open Go.RowKit

set_option maxRecDepth 100000 in
set_option maxHeartbeats 3200000 in
theorem spec_route (hs : List Hs) (v : Value) (s : ByteArray) (w : World) (hH : HRow w v hs) (hN : HOks hs 1048576) :
    Calls Tryz.prog 52 #[.agg #[v], .string s] w fun e w' => e = .returned (.int .i64 (routeI hs s)) ∧ Below w.heap.size w w' := by
  obtain ⟨wA, hwA⟩ : ∃ wA, wA = w.alloc (.cells #[v] 25) := ⟨_, rfl⟩
  have hsA : wA.heap.size = w.heap.size + 1 := by rw [hwA]; simp
  have hbA : Below w.heap.size w wA := by rw [hwA]; exact (Below.refl _ _).alloc (Nat.le_refl _) _
  have hcell : ∀ W, Below (w.heap.size + 1) wA W → W.heap[w.heap.size]? = some (.cells #[v] 25 (0, 0)) := fun W hW =>
    (hW.block w.heap.size (by omega)).trans (by rw [hwA]; exact heap_alloc_new w _)
  have HCell := Lib.hid hcell
  have hH0 := hH
  obtain ⟨a, c, rfl, hl1, hl2, _⟩ := hH0
  have h4 : ∀ W, Below (w.heap.size + 1) wA W → Below w.heap.size w W ∧ HRow W (.slice a hs.length c) hs := fun W hW => by
    have hb := hbA.trans (hW.mono (Nat.le_succ _))
    exact ⟨hb, hH.below (Nat.le_refl _) hb⟩
  have HW := Lib.hid h4
  have HwA := Lib.hid hwA
  unfold maxLen at hl2
  have hb0 : Below (w.heap.size + 1) wA wA := Below.refl _ _
  have HB0 := Lib.hid hb0
  obtain ⟨t0, _⟩ := one_fact (hcell _ hb0)
  have hC := spec_cfgok hs _ wA (h4 _ hb0).2 hN
  rw [hwA] at t0 hC
  have HDef : Hid (routeI hs s = if cfgB hs = true then optI (findI hs s) else -1) := Lib.hid rfl
  generalize cfgB hs = R at *
  clear hcell hwA hbA h4 hb0 hH hN
  go_enter Tryz.func52, Tryz.ntmps52
  go_wp2_with fail
  refine hC.mono ?_
  rw [← HwA.out]
  rintro e w2 ⟨rfl, hb2⟩
  have hb02 := HB0.out.trans (hb2.mono (by omega))
  clear hC hb2 t0
  cases R
  · have HF := Lib.hid (HDef.out.trans (if_neg (by decide)))
    have HB := Lib.hid (HW.out w2 hb02).1
    clear hb02
    go_wp2
    go_ret
    rw [HF.out]; exact ⟨rfl, HB.out⟩
  · have HF := Lib.hid (HDef.out.trans (if_pos rfl))
    have HB2 := Lib.hid hb02
    clear hb02
    go_wp2_with fail
    go_loopw [5] (fun i wr => ∃ k : Nat, k ≤ hs.length ∧ i = .int .i64 k ∧ (∀ h ∈ hs.take k, s ∉ h.names) ∧ wr = w2) (fun i _ => hs.length - (intOf i).toNat)
    case atStart => exact ⟨0, Nat.zero_le _, rfl, fun h hh => by simp at hh, rfl⟩
    case round =>
      obtain ⟨k, hk, rfl, hno, rfl⟩ := hrel
      obtain ⟨t0, _⟩ := one_fact (HCell.out wr HB2.out)
      by_cases hlt : k < hs.length
      · obtain ⟨h, hg⟩ : ∃ h, hs[k]? = some h := ⟨_, List.getElem?_eq_getElem hlt⟩
        obtain ⟨_, _, e1, _, _, hh⟩ := (HW.out wr HB2.out).2
        obtain ⟨b, o, u, ea, hb, c1, hS, _⟩ := hh k h hg
        have ha : a = some ⟨b, o, none⟩ := by injection e1 with e1 _ _; rw [e1, ea]
        subst ha
        have hL := l5_has u h.names s wr hS
        have HG := Lib.hid hg
        have HNo := Lib.hid hno
        clear hS hh e1 hg ea hno
        obtain ⟨B, hB⟩ : ∃ B, B = hasL h.names s := ⟨_, rfl⟩
        rw [← hB] at hL
        have HBB := Lib.hid hB
        clear hB
        cases B
        · go_wp2_with fail
          refine hL.mono ?_
          rintro e w3 ⟨rfl, rfl⟩
          clear hL t0 c1
          go_wp2
          go_roundw
          case rel =>
            refine ⟨k + 1, by omega, by go_num, fun h' hh' => ?_, trivial⟩
            rw [List.take_add_one, HG.out] at hh'
            rcases List.mem_append.1 hh' with hh' | hh'
            · exact HNo.out h' hh'
            · have : h' = h := by simpa using hh'
              rw [this]; exact hasL_false.1 HBB.out.symm
          case measure => simp [intOf]; omega
        · have hf := find_some HG.out (hasL_iff.1 HBB.out.symm) HNo.out
          rw [hf] at HF
          have HF2 : Hid (routeI hs s = (k : Int)) := Lib.hid HF.out
          clear hf HF
          go_wp2_with fail
          refine hL.mono ?_
          rintro e w3 ⟨rfl, rfl⟩
          clear hL t0 c1
          have HB := Lib.hid (HW.out wr HB2.out).1
          go_wp2
          go_ret
          rw [HF2.out]; exact ⟨rfl, HB.out⟩
      · have hkl2 : k = hs.length := by omega
        rw [hkl2, List.take_length] at hno
        have hf := find_none hno
        rw [hf] at HF
        have HF2 : Hid (routeI hs s = -1) := Lib.hid HF.out
        have HB := Lib.hid (HW.out wr HB2.out).1
        clear hf HF hno
        go_wp2
        go_ret
        rw [HF2.out]; exact ⟨rfl, HB.out⟩
end Go.Proofs.YtncegikmpapldaaGreatDoor

-- from XCfgI1
/- Walks: a house, by the program; a name put where it leads. -/
namespace Go.Proofs.YtncegikmpapldaaGreatDoor
open Go.RowKit Go.Maps

set_option maxHeartbeats 400000 in
theorem count_ok (n hi : Int) (w : World) :
    Calls Tryz.prog 100 #[.int .i64 n, .int .i64 hi] w fun e w' => e = .returned (.bool (inI n 1 hi)) ∧ w = w' := by
  unfold inI
  by_cases h1 : 1 ≤ n
  · by_cases h2 : n ≤ hi
    all_goals
      go_enter Tryz.func100, Tryz.ntmps100
      go_wp2
      go_ret
      exact ⟨by simp [h1, h2], rfl⟩
  · go_enter Tryz.func100, Tryz.ntmps100
    go_wp2
    go_ret
    exact ⟨by simp; omega, rfl⟩

set_option maxRecDepth 100000 in
set_option maxHeartbeats 3200000 in
theorem house_ok (h : Hs) (u : Value) (w : World) (hS : NRow w u h.names) (hN : NOk h.names 1048576) (hcls : Cls w) :
    Calls Tryz.prog 102 #[.agg #[u, .int .i64 h.key, .int .i64 h.maxN, .int .i64 h.maxB]] w fun e w' => e = .returned (.bool (houseB h)) ∧ Below w.heap.size w w' := by
  have hsp := house_split h
  generalize houseB h = R at *
  obtain ⟨wA, hwA⟩ : ∃ wA, wA = w.alloc (.cells #[u, .int .i64 h.key, .int .i64 h.maxN, .int .i64 h.maxB] 48) := ⟨_, rfl⟩
  have hsA : wA.heap.size = w.heap.size + 1 := by rw [hwA]; simp
  have hbA : Below w.heap.size w wA := by rw [hwA]; exact (Below.refl _ _).alloc (Nat.le_refl _) _
  have hcell : ∀ W, Below (w.heap.size + 1) wA W → W.heap[w.heap.size]? = some (.cells #[u, .int .i64 h.key, .int .i64 h.maxN, .int .i64 h.maxB] 48 (0, 0)) := fun W hW =>
    (hW.block w.heap.size (by omega)).trans (by rw [hwA]; exact heap_alloc_new w _)
  have HCell := Lib.hid hcell
  obtain ⟨a, c, rfl, hl1, hl2, h3⟩ := hS
  have h4 : ∀ W, Below (w.heap.size + 1) wA W → Below w.heap.size w W ∧ Cls W ∧ ∀ j s, h.names[j]? = some s → ∃ b o, a = some ⟨b, o, none⟩ ∧ W.cell? ⟨b, o + j, none⟩ = some (.string s) := fun W hW => by
    have hb := hbA.trans (hW.mono (Nat.le_succ _))
    refine ⟨hb, hcls.below hb (Nat.le_refl _), fun j s hj => ?_⟩
    obtain ⟨b, o, e, hlt, c1⟩ := h3 j s hj
    exact ⟨b, o, e, (hb.cell (p := ⟨b, o + j, none⟩) hlt).trans c1⟩
  have HW := Lib.hid h4
  have HN := Lib.hid hN
  have HwA := Lib.hid hwA
  have HS := Lib.hid hsp
  unfold maxLen at hl2
  have hb0 : Below (w.heap.size + 1) wA wA := Below.refl _ _
  obtain ⟨t0, t1, t2, t3, _⟩ := four_facts (hcell _ hb0)
  rw [hwA] at t0 t1 t2 t3
  have HB0 := Lib.hid (h4 _ hb0).1
  have HI := Lib.hid hb0
  clear hcell hwA hbA hsp h3 h4 hN hb0 hcls
  go_enter Tryz.func102, Tryz.ntmps102
  have q := fun (x hi : Int) W => count_ok x hi W
  rcases Bool.eq_false_or_eq_true (inI h.names.length 1 3) with j1 | j1
  · go_wp2_with (go_at_call 100; refine (q _ _ _).mono ?_; rintro e w' ⟨rfl, rfl⟩)
    have HJ1 := Lib.hid j1
    clear j1 t0 t1 t2 t3
    rw [← HwA.out]
    go_loopw [4, 13] (fun _ i wr => ∃ k : Nat, k ≤ h.names.length ∧ i = .int .i64 k ∧ namesB (h.names.take k) = true ∧ Below (w.heap.size + 1) wA wr) (fun _ i _ => h.names.length - (intOf i).toNat)
    case atStart => exact ⟨0, Nat.zero_le _, rfl, rfl, HI.out⟩
    case round =>
      obtain ⟨k, hk, rfl, hall, hbr⟩ := hrel
      obtain ⟨t0, t1, t2, t3, _⟩ := four_facts (HCell.out wr hbr)
      by_cases hlt : k < h.names.length
      · obtain ⟨x, hg⟩ : ∃ x, h.names[k]? = some x := ⟨_, List.getElem?_eq_getElem hlt⟩
        obtain ⟨b, o, ea, c1⟩ := (HW.out wr hbr).2.2 k x hg
        subst ea
        have hC := impl_hok x wr (HN.out x (List.mem_of_getElem? hg)) (HW.out wr hbr).2.1
        have HG := Lib.hid hg
        have HA := Lib.hid hall
        have HBr := Lib.hid hbr
        clear hg hall hbr
        obtain ⟨B, hB⟩ : ∃ B, B = hostB x.data.toList := ⟨_, rfl⟩
        rw [← hB] at hC
        have HBB := Lib.hid hB
        clear hB
        cases B
        · have HR := Lib.hid (namesB_false HG.out HBB.out.symm)
          go_wp2_with fail
          refine hC.mono ?_
          rintro e w2 ⟨rfl, hb2⟩
          have HB2 := Lib.hid ((HW.out wr HBr.out).1.trans (hb2.mono (HW.out wr HBr.out).1.size))
          clear hC hb2 t0 t1 t2 t3 c1
          go_wp2
          go_ret
          rw [HS.out, HR.out]; exact ⟨by simp, HB2.out⟩
        · have HR := Lib.hid (namesB_take HG.out HA.out HBB.out.symm)
          go_wp2_with fail
          refine hC.mono ?_
          rintro e w2 ⟨rfl, hb2⟩
          have HB2 := Lib.hid (HBr.out.trans (hb2.mono (by have := HBr.out.size; omega)))
          clear hC hb2 t0 t1 t2 t3 c1
          go_wp2
          go_roundw
          case rel => exact ⟨k + 1, by omega, by go_num, HR.out, HB2.out⟩
          case measure => simp [intOf]; omega
      · have hkl : k = h.names.length := by omega
        rw [hkl, List.take_length] at hall
        have HA := Lib.hid hall
        have HB2 := Lib.hid (HW.out wr hbr).1
        clear hall hbr
        rcases Bool.eq_false_or_eq_true (inI h.key 1 9999) with j2 | j2
        · rcases Bool.eq_false_or_eq_true (inI h.maxN 1 6) with j3 | j3
          · rcases Bool.eq_false_or_eq_true (inI h.maxB 1 120) with j4 | j4
            all_goals
              have HF := Lib.hid HS.out
              rw [HJ1.out, j2, j3, j4, HA.out] at HF
              go_wp2_with (go_at_call 100; refine (q _ _ _).mono ?_; rintro e w' ⟨rfl, rfl⟩)
              go_ret
              rw [HF.out]; exact ⟨rfl, HB2.out⟩
          · have HF := Lib.hid HS.out
            rw [HJ1.out, j2, j3, HA.out] at HF
            go_wp2_with (go_at_call 100; refine (q _ _ _).mono ?_; rintro e w' ⟨rfl, rfl⟩)
            go_ret
            rw [HF.out]; exact ⟨rfl, HB2.out⟩
        · have HF := Lib.hid HS.out
          rw [HJ1.out, j2, HA.out] at HF
          go_wp2_with (go_at_call 100; refine (q _ _ _).mono ?_; rintro e w' ⟨rfl, rfl⟩)
          go_ret
          rw [HF.out]; exact ⟨rfl, HB2.out⟩
  · have HF : Hid (R = false) := Lib.hid (by rw [HS.out, j1]; rfl)
    clear HS
    go_wp2_with (go_at_call 100; refine (q _ _ _).mono ?_; rintro e w' ⟨rfl, rfl⟩)
    go_ret
    rw [HF.out, ← HwA.out]; exact ⟨rfl, HB0.out⟩

theorem lawStr : Keyed Tryz.prog 9 := string_keyed Tryz.underlying9
theorem zeroInt (w : World) : (zeroValue 3).run Tryz.prog w = .ok (.int .i64 0) w := by kernel_rfl

set_option maxHeartbeats 1600000 in
/-- A name put where it leads: false, if it stands there already. -/
theorem add_name (s : ByteArray) (i : Int) (b n : Nat) (D : DataW Unit) (L : List (ByteArray × Int)) (w : World) (hs : s.size ≤ maxLen) (hi : (Lit.int .i64 i).wf = true) (hn : n + 1 ≤ maxLen)
    (hown : w.ownsMap Tryz.prog 9 (plainElem Tryz.prog 3) b n D) (hM : MapIs D L) :
    Calls Tryz.prog 103 #[.map (some b), .string s, .int .i64 i] w fun e w' =>
      (lookL L s ≠ none ∧ e = .returned (.bool false) ∧ w' = w) ∨
      (lookL L s = none ∧ e = .returned (.bool true) ∧ w'.ownsMap Tryz.prog 9 (plainElem Tryz.prog 3) b (n + 1) (D.put (.string s.data.toList) (.lit (.int .i64 i))) ∧ w.grownBy w' (some b)) := by
  have hkey := Go.WideMaps.keyOf_string_mk Tryz.underlying9 hs
  obtain ⟨m1, m2⟩ := hM.2 s
  have hu : Tryz.prog.underlying 82 = some (.map 9 3) := by kernel_rfl
  have he := Tryz.underlying3
  go_enter Tryz.func103, Tryz.ntmps103
  cases hl : lookL L s with
  | some x =>
    rw [hl] at m1 m2
    have HL := Lib.hid hl
    clear hl
    go_wp2_with (first
      | (at_lookup; refine wpList_lookup_own_ok_int _ rfl _ _ 82 rfl 9 3 .i64 lawStr hu he (zeroInt _) b n _ rfl hown _ _ rfl hkey ?_; intro c hat hwc; rw [m1]))
    go_ret
    exact .inl ⟨by simp, rfl, rfl⟩
  | none =>
    rw [hl] at m1 m2
    have HL := Lib.hid hl
    clear hl
    go_wp2_with (first
      | (at_lookup; refine wpList_lookup_own_ok_int _ rfl _ _ 82 rfl 9 3 .i64 lawStr hu he (zeroInt _) b n _ rfl hown _ _ rfl hkey ?_; intro c hat hwc; rw [m1])
      | (at_mapUpdate; refine wpList_mapUpdate_own _ rfl _ _ _ 82 rfl 9 3 lawStr hu _ b n _ rfl hown hn _ _ _ rfl rfl hkey _ [] (plainElem_int he hi) ?_; intro w1 hown1 hgrow1))
    go_ret
    first | exact .inr ⟨rfl, rfl, hown1, hgrow1⟩ | exact ⟨rfl, hown1, hgrow1⟩
end Go.Proofs.YtncegikmpapldaaGreatDoor

-- from XCfgI2
/- Walks: the iterator over houses, by the program. -/
namespace Go.Proofs.YtncegikmpapldaaGreatDoor
open Go.RowKit Go.Shelf
attribute [local go_sem] Oper.semAt_some

/-- Houses in memory, in one block; us: their names' slices. -/
def HAt (w : World) (b o : Nat) (hs : List Hs) (us : Nat → Value) : Prop :=
  b < w.heap.size ∧ ∀ j h, hs[j]? = some h → w.cell? ⟨b, o + j * 4, none⟩ = some (us j) ∧ NRow w (us j) h.names ∧
    w.cell? ⟨b, o + j * 4 + 1, none⟩ = some (.int .i64 h.key) ∧ w.cell? ⟨b, o + j * 4 + 2, none⟩ = some (.int .i64 h.maxN) ∧ w.cell? ⟨b, o + j * 4 + 3, none⟩ = some (.int .i64 h.maxB)
theorem HAt.below {w w' : World} {b o : Nat} {hs : List Hs} {us : Nat → Value} (h : HAt w b o hs us) {B : Nat} (hB : w.heap.size ≤ B) (hb : Below B w w') : HAt w' b o hs us := by
  obtain ⟨h0, h3⟩ := h
  refine ⟨Nat.lt_of_lt_of_le h0 hb.size, fun j f hj => ?_⟩
  obtain ⟨c1, hs, c2, c3, c4⟩ := h3 j f hj
  have hb' := Nat.lt_of_lt_of_le h0 hB
  exact ⟨(hb.cell (p := ⟨b, o + j * 4, none⟩) hb').trans c1, hs.below hB hb, (hb.cell (p := ⟨b, o + j * 4 + 1, none⟩) hb').trans c2,
    (hb.cell (p := ⟨b, o + j * 4 + 2, none⟩) hb').trans c3, (hb.cell (p := ⟨b, o + j * 4 + 3, none⟩) hb').trans c4⟩
theorem hat_of {w : World} {v : Value} {hs : List Hs} (h : HRow w v hs) (hn : 0 < hs.length) : ∃ b o us c, v = .slice (some ⟨b, o, none⟩) hs.length c ∧ hs.length ≤ c ∧ c ≤ maxLen ∧ HAt w b o hs us := by
  obtain ⟨a, c, rfl, h1, h2, h3⟩ := h
  obtain ⟨b, o, _, rfl, hb, _⟩ := h3 0 hs[0] (List.getElem?_eq_getElem hn)
  have each : ∀ j : Nat, ∃ u : Value, ∀ h, hs[j]? = some h → w.cell? ⟨b, o + j * 4, none⟩ = some u ∧ NRow w u h.names ∧
    w.cell? ⟨b, o + j * 4 + 1, none⟩ = some (.int .i64 h.key) ∧ w.cell? ⟨b, o + j * 4 + 2, none⟩ = some (.int .i64 h.maxN) ∧ w.cell? ⟨b, o + j * 4 + 3, none⟩ = some (.int .i64 h.maxB) := fun j => by
    cases hj : hs[j]? with
    | none => exact ⟨.int .i64 0, fun h e => by cases e⟩
    | some h =>
      obtain ⟨b', o', u, e, _, r⟩ := h3 j h hj
      obtain ⟨rfl, rfl⟩ : b = b' ∧ o = o' := by simpa using e
      exact ⟨u, fun h' e' => by cases e'; exact r⟩
  obtain ⟨us, hus⟩ := Classical.axiomOfChoice each
  exact ⟨b, o, us, c, rfl, h1, h2, hb, fun j h hj => hus j h hj⟩
theorem HAt.row {w : World} {b o c : Nat} {hs : List Hs} {us : Nat → Value} (h : HAt w b o hs us) (h1 : hs.length ≤ c) (h2 : c ≤ maxLen) : HRow w (.slice (some ⟨b, o, none⟩) hs.length c) hs :=
  ⟨_, c, rfl, h1, h2, fun j f hj => ⟨b, o, us j, rfl, h.1, h.2 j f hj⟩⟩

/-- The value of a house. -/
def hsV (us : Nat → Value) (hs : List Hs) (j : Nat) : Value := match hs[j]? with
  | some h => .agg #[us j, .int .i64 h.key, .int .i64 h.maxN, .int .i64 h.maxB]
  | none => .agg #[]
theorem hsV_at {us : Nat → Value} {hs : List Hs} {j : Nat} {h : Hs} (hj : hs[j]? = some h) : hsV us hs j = .agg #[us j, .int .i64 h.key, .int .i64 h.maxN, .int .i64 h.maxB] := by simp [hsV, hj]

/-- The first k of n places. -/
def finsTo (n k : Nat) : List (Fin n) := (List.finRange n).take k
theorem fins_succ {n k : Nat} (hk : k < n) : finsTo n (k + 1) = finsTo n k ++ [⟨k, hk⟩] := by
  unfold finsTo
  rw [List.take_add_one, List.getElem?_eq_getElem (by simpa using hk)]
  simp
theorem fins_len {n k : Nat} (hk : k ≤ n) : (finsTo n k).length = k := by simp [finsTo]; omega
theorem fins_val {n k : Nat} (hk : k ≤ n) : (finsTo n k).map Fin.val = List.range k := by
  apply List.ext_getElem
  · rw [List.length_map, fins_len hk, List.length_range]
  · intro i h1 h2
    simp [finsTo]

set_option maxHeartbeats 1000000 in
theorem houses_in (n : Nat) (v : Value) (w : World) :
    CallsIn Fence.wide n Tryz.prog 101 #[.agg #[v]] w fun e w' => e = .returned (.func (.func 137) #[] #[.pointer (some ⟨w.heap.size, 0, none⟩)]) ∧ w' = w.alloc (.cells #[v] 25) := by
  refine callsIn_wide.2 ?_
  have hmf : ∀ (fn : Fn) (first cap : Array Value) (w : World), (Instr.makeFunc fn first cap).run Tryz.prog w = .ok (.func fn first cap) w := fun _ _ _ _ => rfl
  go_enter Tryz.func101, Tryz.ntmps101
  go_wp2
  go_ret
  exact ⟨rfl, rfl⟩

set_option maxRecDepth 100000 in
set_option maxHeartbeats 2000000 in
theorem houses1_in (n : Nat) (hn : 1 ≤ n) (l Bs n₀ b o cap : Nat) (hs : List Hs) (us : Nat → Value) (hcap : hs.length ≤ 1048576) (J Jx : List (Fin hs.length) → World → Prop)
    (hY : ∀ pre (x : Fin hs.length) W, J pre W → pre.length < hs.length → YieldAt Fence.wide (n - 1) Tryz.prog l #[.int .i64 (x.1 : Int), hsV us hs x.1] W fun e W' =>
      (e = .returned (.bool true) ∧ J (pre ++ [x]) W' ∧ Below n₀ W W') ∨ (e = .returned (.bool false) ∧ Jx (pre ++ [x]) W'))
    (W : World) (hn₀ : n₀ ≤ W.heap.size) (hJ : AbidesFrom W.heap.size J) (hBs : W.cell? ⟨Bs, 0, none⟩ = some (.slice (some ⟨b, o, none⟩) hs.length cap)) (hb : b < n₀)
    (hc : HAt W b o hs us) (h0 : J [] W) :
    CallsIn Fence.wide n Tryz.prog 137 #[.func (.yield l) #[] #[], .pointer (some ⟨Bs, 0, none⟩)] W fun e W' => (∃ v, e = .returned v) ∧
      ((∃ ys, ys = finsTo hs.length hs.length ∧ J ys W') ∨ (∃ pre, (∃ k, k ≤ hs.length ∧ pre = finsTo hs.length k) ∧ Jx pre W')) := by
  have hro : Fence.wide.round = none := rfl
  refine callsIn_of_wp Tryz.func137 rfl trivial ?_ hro
  simp only [Tryz.ntmps137, List.size_toArray, List.length_cons, List.length_nil, Nat.reduceAdd, Nat.reduceSub, Array.replicate_succ, Array.replicate_zero, List.push_toArray, List.append_toArray, List.nil_append, List.cons_append]
  have HC := Lib.hid hc
  clear hc
  gi_wp2
  gi_loopw [3, 4, 8] (fun _ _ i wr => ∃ k : Nat, k ≤ hs.length ∧ i = .int .i64 k ∧ J (finsTo hs.length k) wr ∧ Below n₀ W wr)
    (fun _ _ i _ => hs.length - (intOf i).toNat)
  case atStart => exact ⟨0, Nat.zero_le _, rfl, h0, Below.refl _ _⟩
  case round =>
    obtain ⟨k, hk, rfl, hJs, hnx⟩ := hrel
    by_cases hlt : k < hs.length
    · obtain ⟨h, hg⟩ : ∃ h, hs[k]? = some h := ⟨_, List.getElem?_eq_getElem hlt⟩
      obtain ⟨c1, hS, c2, c3, c4⟩ := HC.out.2 k h hg
      obtain ⟨sa, sc, hus, _⟩ := nrow_get hS
      rw [hus] at c1
      have d1 := (hnx.cell (p := ⟨b, o + k * 4, none⟩) hb).trans c1
      have d2 := (hnx.cell (p := ⟨b, o + k * 4 + 1, none⟩) hb).trans c2
      have d3 := (hnx.cell (p := ⟨b, o + k * 4 + 2, none⟩) hb).trans c3
      have d4 := (hnx.cell (p := ⟨b, o + k * 4 + 3, none⟩) hb).trans c4
      have hsz := hnx.size
      have hJ2 : J (finsTo hs.length k) (wr.alloc (.cells #[.slice sa h.names.length sc, .int .i64 h.key, .int .i64 h.maxN, .int .i64 h.maxB] 48)) := hJ _ _ _ none hJs (World.grownBy_alloc wr _ none) (fun r e => by cases e)
      obtain ⟨fn, tmps, assign, body, hy, hR⟩ := hY _ ⟨k, hlt⟩ _ hJ2 (by rw [fins_len hk]; exact hlt)
      rw [hsV_at hg, hus] at hy
      have HG := Lib.hid (fins_succ hlt)
      clear c1 c2 c3 c4 hg hJ2 hus hS
      gi_wp2
      refine hR.mono ?_
      rintro e W3 (⟨rfl, hJ3, hk3⟩ | ⟨rfl, hJx3⟩)
      · have HJ3 := Lib.hid hJ3
        have HN3 := Lib.hid ((hnx.alloc (Nat.le_trans hn₀ hsz) _).trans hk3)
        clear hJ3 hk3 hR hJs hnx d1 d2 d3 d4 hy
        gi_wp2
        go_roundw
        case rel => exact ⟨k + 1, by omega, by simp, by rw [HG.out]; exact HJ3.out, HN3.out⟩
        case measure => simp [intOf]; omega
      · have HJ3 := Lib.hid hJx3
        clear hJx3 hR hJs hnx d1 d2 d3 d4 hy
        gi_wp2
        refine bodyPost_ret (results_none rfl _ _ _) rfl ?_
        exact ⟨⟨_, rfl⟩, .inr ⟨_, ⟨k + 1, by omega, (HG.out).symm⟩, HJ3.out⟩⟩
    · obtain rfl : k = hs.length := by omega
      gi_wp2
      go_end0
      exact ⟨⟨_, rfl⟩, .inl ⟨_, rfl, hJs⟩⟩
/-- What the iterator over houses gives: each place with its house, in order; or a beginning of them. -/
theorem houses_stops (n : Nat) (hn : 1 ≤ n) (Bs n₀ b o cap : Nat) (hs : List Hs) (us : Nat → Value) (hcap : hs.length ≤ 1048576) (w : World) (hBs : Bs < w.heap.size) (hn₀ : n₀ ≤ w.heap.size)
    (hc : w.cell? ⟨Bs, 0, none⟩ = some (.slice (some ⟨b, o, none⟩) hs.length cap)) (hb : b < n₀) (hA : HAt w b o hs us) :
    SeqStopsK Fence.wide n Tryz.prog 137 #[.pointer (some ⟨Bs, 0, none⟩)] (fun x : Fin hs.length => #[.int .i64 (x.1 : Int), hsV us hs x.1]) (Below n₀) (fun ys => ys = finsTo hs.length hs.length) (fun pre => ∃ k, k ≤ hs.length ∧ pre = finsTo hs.length k) hs.length w := fun l J Jx W hW hJ _ hY h0 => by
  have hc' := (hW.cell (p := ⟨Bs, 0, none⟩) hBs).trans hc
  have hA' := hA.below (Nat.le_refl _) hW
  exact houses1_in n hn l Bs n₀ b o cap hs us hcap J Jx hY W (Nat.le_trans hn₀ hW.size) hJ hc' hb hA' h0
end Go.Proofs.YtncegikmpapldaaGreatDoor

-- from XCfgI3
/- Walks: where all names lead, by the program. -/
namespace Go.Proofs.YtncegikmpapldaaGreatDoor
open Go.RowKit Go.Shelf Go.Maps
attribute [local go_sem] Oper.semAt_some

theorem keepsOthers_of_below {W W' : World} (h : Below W.heap.size W W') : KeepsOthers W W' :=
  ⟨h.size, fun k _ hk _ => (h.block k (Array.getElem?_eq_some_iff.1 hk).1).trans hk⟩
theorem owns_below {w w' : World} {P : Program} {k : TypeId} {R : Value → Option (DataW Unit × List MemPlace)} {b n : Nat} {D : DataW Unit} (h : w.ownsMap P k R b n D) (hb : Below w.heap.size w w') : w'.ownsMap P k R b n D :=
  h.kept (grown_of_below hb none) (fun e => by cases e)

/-- The houses at such places are ok, and no name of them stands twice. -/
def goodAt (hs : List Hs) (pre : List Nat) : Prop := (∀ i ∈ pre, ∀ h, hs[i]? = some h → houseB h = true) ∧ ((asc hs pre).map (·.1)).Nodup
theorem goodAt_range {hs : List Hs} {k : Nat} (hk : k ≤ hs.length) : goodAt hs (List.range k) ↔ goodTo hs k := by
  unfold goodAt goodTo
  rw [asc_names hs k hk]
  constructor
  · rintro ⟨h1, h2⟩
    refine ⟨fun x hx => ?_, h2⟩
    obtain ⟨j, hj, rfl⟩ := List.mem_take_iff_getElem.1 hx
    exact h1 j (List.mem_range.2 (by omega)) _ (List.getElem?_eq_getElem (by omega))
  · rintro ⟨h1, h2⟩
    refine ⟨fun i hi h hg => h1 h ?_, h2⟩
    have := List.mem_range.1 hi
    obtain ⟨hl, rfl⟩ := List.getElem?_eq_some_iff.1 hg
    exact List.mem_take_iff_getElem.2 ⟨i, by omega, rfl⟩
theorem asc_part (hs : List Hs) (pre : List Nat) (i : Nat) (h : Hs) (hg : hs[i]? = some h) : asc hs (pre ++ [i]) = asc hs pre ++ h.names.map fun s => (s, (i : Int)) := by rw [asc_snoc, namesAt_at hg]
theorem part_snoc (L : List (ByteArray × Int)) (N : List ByteArray) (i : Int) {k : Nat} {x : ByteArray} (hk : N[k]? = some x) : L ++ ((N.take (k + 1)).map fun s => (s, i)) = (L ++ (N.take k).map fun s => (s, i)) ++ [(x, i)] := by
  rw [List.take_add_one, hk, List.append_assoc]
  simp


theorem asc_le {hs : List Hs} {pre : List Nat} (h : goodAt hs pre) : (asc hs pre).length ≤ 3 * pre.length := by
  obtain ⟨h1, -⟩ := h
  induction pre with
  | nil => simp [asc]
  | cons i pre ih =>
    have := ih (fun j hj => h1 j (List.mem_cons_of_mem _ hj))
    have h2 : (namesAt hs i).length ≤ 3 := by
      cases hg : hs[i]? with
      | none => simp [namesAt, hg]
      | some x => rw [namesAt_at hg]; have := (houseB_iff.1 (h1 i (List.mem_cons_self ..) x hg)).1; omega
    have e : asc hs (i :: pre) = (namesAt hs i).map (fun s => (s, (i : Int))) ++ asc hs pre := by simp [asc]
    rw [e, List.length_append, List.length_map, List.length_cons]
    omega
theorem good_snoc {hs : List Hs} {pre : List Nat} {i : Nat} {h : Hs} (hp : goodAt hs pre) (hg : hs[i]? = some h) (hb : houseB h = true) (hn : ((asc hs pre ++ h.names.map fun s => (s, (i : Int))).map (·.1)).Nodup) : goodAt hs (pre ++ [i]) := by
  refine ⟨fun j hj x hx => ?_, by rw [asc_part hs pre i h hg]; exact hn⟩
  rcases List.mem_append.1 hj with hj | hj
  · exact hp.1 j hj x hx
  · have : j = i := by simpa using hj
    subst this
    rw [hg] at hx; cases hx; exact hb
theorem bad_house {hs : List Hs} {pre : List Nat} {i : Nat} {h : Hs} (hg : hs[i]? = some h) (hb : houseB h = false) : ¬ goodAt hs (pre ++ [i]) := fun e => by
  rw [e.1 i (by simp) h hg] at hb; cases hb
theorem bad_twice {hs : List Hs} {pre : List Nat} {i k : Nat} {h : Hs} {y : ByteArray} (hg : hs[i]? = some h) (hy : h.names[k]? = some y) (hl : lookL (asc hs pre ++ (h.names.take k).map fun s => (s, (i : Int))) y ≠ none) : ¬ goodAt hs (pre ++ [i]) := fun e => by
  have hn := e.2
  rw [asc_part hs pre i h hg] at hn
  have hm : y ∈ (asc hs pre ++ (h.names.take k).map fun s => (s, (i : Int))).map (·.1) := by
    rcases Classical.em (y ∈ (asc hs pre ++ (h.names.take k).map fun s => (s, (i : Int))).map (·.1)) with k | k
    · exact k
    · exact absurd (look_none.2 k) hl
  obtain ⟨hlt, rfl⟩ := List.getElem?_eq_some_iff.1 hy
  have e2 : h.names = h.names.take k ++ h.names[k] :: h.names.drop (k + 1) := by rw [← List.drop_eq_getElem_cons hlt, List.take_append_drop]
  have e3 : ((asc hs pre ++ h.names.map fun s => (s, (i : Int))).map (·.1)) = ((asc hs pre ++ (h.names.take k).map fun s => (s, (i : Int))).map (·.1)) ++ (h.names[k] :: h.names.drop (k + 1)) := by
    conv => lhs; rw [e2]
    simp [Function.comp_def]
  rw [e3, List.nodup_append] at hn
  exact hn.2.2 _ hm _ (List.mem_cons_self ..) rfl
theorem part_nodup {P : List (ByteArray × Int)} {N : List ByteArray} {i : Int} {k : Nat} {y : ByteArray} (hy : N[k]? = some y) (hn : ((P ++ (N.take k).map fun s => (s, i)).map (·.1)).Nodup) (hl : lookL (P ++ (N.take k).map fun s => (s, i)) y = none) : ((P ++ (N.take (k + 1)).map fun s => (s, i)).map (·.1)).Nodup := by
  rw [part_snoc P N i hy, List.map_append, List.nodup_append]
  refine ⟨hn, by simp, fun a ha b hb => ?_⟩
  have : b = y := by simpa using hb
  subst this
  intro e; subst e
  exact look_none.1 hl ha
theorem add_yes (s : ByteArray) (i : Int) (b n : Nat) (D : DataW Unit) (L : List (ByteArray × Int)) (w : World) (hs : s.size ≤ maxLen) (hi : (Lit.int .i64 i).wf = true) (hn : n + 1 ≤ maxLen)
    (hown : w.ownsMap Tryz.prog 9 (plainElem Tryz.prog 3) b n D) (hM : MapIs D L) (hl : lookL L s = none) :
    Calls Tryz.prog 103 #[.map (some b), .string s, .int .i64 i] w fun e w' =>
      e = .returned (.bool true) ∧ w'.ownsMap Tryz.prog 9 (plainElem Tryz.prog 3) b (n + 1) (D.put (.string s.data.toList) (.lit (.int .i64 i))) ∧ w.grownBy w' (some b) :=
  (add_name s i b n D L w hs hi hn hown hM).mono fun e w' h => by
    rcases h with ⟨h, _⟩ | ⟨_, h⟩
    · exact absurd hl h
    · exact h
theorem add_no (s : ByteArray) (i : Int) (b n : Nat) (D : DataW Unit) (L : List (ByteArray × Int)) (w : World) (hs : s.size ≤ maxLen) (hi : (Lit.int .i64 i).wf = true) (hn : n + 1 ≤ maxLen)
    (hown : w.ownsMap Tryz.prog 9 (plainElem Tryz.prog 3) b n D) (hM : MapIs D L) (hl : lookL L s ≠ none) :
    Calls Tryz.prog 103 #[.map (some b), .string s, .int .i64 i] w fun e w' => e = .returned (.bool false) ∧ w' = w :=
  (add_name s i b n D L w hs hi hn hown hM).mono fun e w' h => by
    rcases h with ⟨_, h⟩ | ⟨h, _⟩
    · exact h
    · exact absurd h hl

def RtPost (w : World) (hs : List Hs) (e : Ending) (w' : World) : Prop :=
  Below w.heap.size w w' ∧ ((cfgB hs = false ∧ e = .returned (.tuple #[.map none, .bool false])) ∨
    (cfgB hs = true ∧ ∃ b D n, e = .returned (.tuple #[.map (some b), .bool true]) ∧ n < maxLen ∧ w'.ownsMap Tryz.prog 9 (plainElem Tryz.prog 3) b n D ∧ MapIs D (asc hs (List.range hs.length))))

set_option maxRecDepth 100000 in
set_option maxHeartbeats 3200000 in
theorem routes_of (hs : List Hs) (v : Value) (w : World) (hH : HRow w v hs) (hN : HOks hs 1048576) (hcls : Cls w) :
    Calls Tryz.prog 54 #[.agg #[v]] w fun e w' => RtPost w hs e w' := by
  have hro : Fence.wide.round = none := rfl
  have hH0 := hH
  obtain ⟨a, c, rfl, hl1, hl2, _⟩ := hH0
  unfold maxLen at hl2
  have q := fun (x hi : Int) W => count_ok x hi W
  have HN := Lib.hid hN
  clear hN
  refine (callsIn_wide (n := 9)).1 ?_
  refine callsIn_of_wp_marks Tryz.func54 rfl trivial ?_ hro
  simp only [Tryz.ntmps54, List.size_toArray, List.length_cons, List.length_nil, Nat.reduceAdd, Nat.reduceSub, Array.replicate_succ, Array.replicate_zero, List.push_toArray, List.append_toArray, List.nil_append, List.cons_append]
  rcases Bool.eq_false_or_eq_true (inI hs.length 1 4) with j1 | j1
  · have hmm := @run_makeMap Tryz.prog
    gi_wp2_with (first
      | (refine ⟨trivial, ?_⟩; gi_at_call 100; refine (callsIn_wide.2 (q _ _ _)).mono ?_; rintro e w' ⟨rfl, rfl⟩)
      | (refine ⟨trivial, ?_⟩; gi_at_call 101; refine (houses_in _ _ _).mono ?_; rintro e w' ⟨rfl, rfl⟩))
    have hpos : 0 < hs.length := by have := inI_iff.1 j1; omega
    have hle4 : hs.length ≤ 4 := by have := inI_iff.1 j1; omega
    obtain ⟨b, o, us, c', ec, hc1, hc2, hA⟩ := hat_of hH hpos
    obtain ⟨rfl, rfl⟩ : a = some ⟨b, o, none⟩ ∧ c = c' := by injection ec with e1 e2 e3; exact ⟨e1, e3⟩
    have bM := ((((Boxed.new (w.alloc (.cells #[.slice (some ⟨b, o, none⟩) hs.length c] 25)) 82 (.map none)).alloc (.cells #[.bool false] 4)).alloc (.map #[] 0)).alloc (.cells #[.map (some (w.heap.size + 1 + 1 + 1))] 82)).alloc (.cells #[.slice (some ⟨b, o, none⟩) hs.length c] 25)
    have bK := (((Boxed.new ((w.alloc (.cells #[.slice (some ⟨b, o, none⟩) hs.length c] 25)).alloc (.cells #[.map none] 82)) 4 (.bool false)).alloc (.map #[] 0)).alloc (.cells #[.map (some (w.heap.size + 1 + 1 + 1))] 82)).alloc (.cells #[.slice (some ⟨b, o, none⟩) hs.length c] 25)
    have bR := (Boxed.new ((((w.alloc (.cells #[.slice (some ⟨b, o, none⟩) hs.length c] 25)).alloc (.cells #[.map none] 82)).alloc (.cells #[.bool false] 4)).alloc (.map #[] 0)) 82 (.map (some (w.heap.size + 1 + 1 + 1)))).alloc (.cells #[.slice (some ⟨b, o, none⟩) hs.length c] 25)
    have bC := Boxed.new (((((w.alloc (.cells #[.slice (some ⟨b, o, none⟩) hs.length c] 25)).alloc (.cells #[.map none] 82)).alloc (.cells #[.bool false] 4)).alloc (.map #[] 0)).alloc (.cells #[.map (some (w.heap.size + 1 + 1 + 1))] 82)) 25 (.slice (some ⟨b, o, none⟩) hs.length c)
    have hm0 := ((World.ownsMap_made (((w.alloc (.cells #[.slice (some ⟨b, o, none⟩) hs.length c] 25)).alloc (.cells #[.map none] 82)).alloc (.cells #[.bool false] 4)) Tryz.prog 9 (plainElem (H := Unit) Tryz.prog 3)).alloc (.cells #[.map (some (w.heap.size + 1 + 1 + 1))] 82)).alloc (.cells #[.slice (some ⟨b, o, none⟩) hs.length c] 25)
    simp only [World.size_alloc] at bM bK bR bC hm0
    have hB0 : Below w.heap.size w ((((((w.alloc (.cells #[.slice (some ⟨b, o, none⟩) hs.length c] 25)).alloc (.cells #[.map none] 82)).alloc (.cells #[.bool false] 4)).alloc (.map #[] 0)).alloc (.cells #[.map (some (w.heap.size + 1 + 1 + 1))] 82)).alloc (.cells #[.slice (some ⟨b, o, none⟩) hs.length c] 25)) :=
      ((((((Below.refl _ w).alloc (Nat.le_refl _) _).alloc (by simp) _).alloc (by simp; omega) _).alloc (by simp; omega) _).alloc (by simp; omega) _).alloc (by simp; omega) _
    have hsz : ((((((w.alloc (.cells #[.slice (some ⟨b, o, none⟩) hs.length c] 25)).alloc (.cells #[.map none] 82)).alloc (.cells #[.bool false] 4)).alloc (.map #[] 0)).alloc (.cells #[.map (some (w.heap.size + 1 + 1 + 1))] 82)).alloc (.cells #[.slice (some ⟨b, o, none⟩) hs.length c] 25)).heap.size = w.heap.size + 6 := by simp
    obtain ⟨W0, hW0⟩ : ∃ W0, (((((w.alloc (.cells #[.slice (some ⟨b, o, none⟩) hs.length c] 25)).alloc (.cells #[.map none] 82)).alloc (.cells #[.bool false] 4)).alloc (.map #[] 0)).alloc (.cells #[.map (some (w.heap.size + 1 + 1 + 1))] 82)).alloc (.cells #[.slice (some ⟨b, o, none⟩) hs.length c] 25) = W0 := ⟨_, rfl⟩
    rw [hW0] at bM bK bR bC hm0 hB0 hsz ⊢
    clear hW0 hmm q
    have hform : ∀ x : Fin hs.length, ∃ h sa sc, hs[x.1]? = some h ∧ us x.1 = .slice sa h.names.length sc ∧ NRow w (us x.1) h.names := fun x => by
      have hg : hs[x.1]? = some hs[x.1] := List.getElem?_eq_getElem x.2
      obtain ⟨_, hS, _⟩ := hA.2 _ _ hg
      obtain ⟨sa, sc, e, _⟩ := nrow_get hS
      exact ⟨_, sa, sc, hg, e, hS⟩
    have HForm := Lib.hid hform
    refine wpIn_rangeFunc_ownH hro (by decide) (gf := 137) (lb := #[.pointer (some ⟨w.heap.size + 1 + 1 + 1 + 1 + 1, 0, none⟩)]) rfl trivial (enters_of Tryz.func137 (by kernel_rfl) rfl)
      (houses_stops 8 (by decide) (w.heap.size + 1 + 1 + 1 + 1 + 1) w.heap.size b o c hs us (by omega) W0 (by omega) (by omega) bC.cell hA.1 (hA.below (Nat.le_refl _) hB0)) belowK_t (belowK_b (by omega)) (Below.refl _ _) (fun _ => rfl)
      (fun pre W => (((goodAt hs (pre.map Fin.val) ∧ Boxed W (w.heap.size + 1) 82 (.map none)) ∧ Boxed W (w.heap.size + 1 + 1) 4 (.bool false)) ∧ Boxed W (w.heap.size + 1 + 1 + 1 + 1) 82 (.map (some (w.heap.size + 1 + 1 + 1)))) ∧
        ((∃ D, W.ownsMap Tryz.prog 9 (plainElem Tryz.prog 3) (w.heap.size + 1 + 1 + 1) (asc hs (pre.map Fin.val)).length D ∧ MapIs D (asc hs (pre.map Fin.val))) ∧ Below w.heap.size w W))
      (fun c pre W => (((c = .ret ∧ ¬ goodAt hs (pre.map Fin.val)) ∧ Boxed W (w.heap.size + 1) 82 (.map none)) ∧ Boxed W (w.heap.size + 1 + 1) 4 (.bool false)) ∧ Below w.heap.size w W)
      (OwnFrom.and (OwnFrom.and (OwnFrom.and (OwnFrom.and (ownFrom_pure _ _) (Own.from (boxed_own _ _ _) _)) (Own.from (boxed_own _ _ _) _)) (Own.from (boxed_own _ _ _) _))
        (OwnFrom.and (fun s A B row hs' hg hr => by obtain ⟨D, h1, h2⟩ := hs'; exact ⟨D, h1.kept hg (fun e => by have := (hr _ e.symm).1; omega), h2⟩) (ownFrom_below (Nat.le_refl _) (by omega))))
      (fun c => OwnFrom.and (OwnFrom.and (OwnFrom.and (ownFrom_pure _ _) (Own.from (boxed_own _ _ _) _)) (Own.from (boxed_own _ _ _) _)) (ownFrom_below (Nat.le_refl _) (by omega)))
      ⟨⟨⟨⟨⟨fun i hi => by simp at hi, by simp [asc]⟩, bM⟩, bK⟩, bR⟩, ⟨.map [], hm0, mapis_empty⟩, hB0⟩
      (fun x a' W => ∃ h sa sc Bx, hs[x.1]? = some h ∧ us x.1 = .slice sa h.names.length sc ∧ w.heap.size + 1 + 1 + 1 + 1 < Bx ∧ W.heap[Bx]? = some (.cells #[.slice sa h.names.length sc, .int .i64 h.key, .int .i64 h.maxN, .int .i64 h.maxB] 48 (0, 0)) ∧ a' = { tmps := #[.agg #[.slice (some ⟨b, o, none⟩) hs.length c], .pointer (some ⟨w.heap.size, 0, none⟩), .pointer (some ⟨w.heap.size + 1, 0, none⟩), .pointer (some ⟨w.heap.size + 1 + 1, 0, none⟩), .pointer (some ⟨w.heap.size + 1 + 1 + 1 + 1, 0, none⟩), .int .i64 (x.1 : Int), .pointer (some ⟨Bx, 0, none⟩), undef, undef, .pointer (some ⟨w.heap.size, 0, none⟩), .slice (some ⟨b, o, none⟩) hs.length c, .int .i64 (hs.length : Int), .bool true, .bool false, .map (some (w.heap.size + 1 + 1 + 1)), .agg #[.slice (some ⟨b, o, none⟩) hs.length c], .func (.func 137) #[] #[.pointer (some ⟨w.heap.size + 1 + 1 + 1 + 1 + 1, 0, none⟩)], .int .i64 (x.1 : Int), .agg #[.slice sa h.names.length sc, .int .i64 h.key, .int .i64 h.maxN, .int .i64 h.maxB], undef, undef, undef, undef, undef, undef, undef, undef, undef, undef, undef, undef, undef, undef, undef, undef, undef], defers := [] })
      (fun x a' _ X Y row hs' hg hr => by
        obtain ⟨h, sa, sc, Bx, e1, e2, e3, e4, e5⟩ := hs'
        exact ⟨h, sa, sc, Bx, e1, e2, e3, (hg.block Bx (Array.getElem?_eq_some_iff.1 e4).1 (fun e => by obtain ⟨o', ho, hc⟩ := (hr Bx e.symm).2; rw [e4] at ho; cases ho; cases hc)).trans e4, e5⟩)
      ?assign ?body ?done ?stop
    case assign =>
      rintro l pre x W K ⟨⟨⟨⟨hp, bM1⟩, bK1⟩, bR1⟩, ⟨D, hD1, hD2⟩, hB1⟩ hK
      obtain ⟨h, sa, sc, hg, hus, _⟩ := HForm.out x
      simp only [hsV_at hg, hus]
      gi_wp2
      exact hK _ _ ((KeepsOthers.alloc _ _).from _) ((Below.refl _ W).alloc hB1.size _) ⟨⟨⟨⟨hp, bM1.alloc _⟩, bK1.alloc _⟩, bR1.alloc _⟩, ⟨D, hD1.alloc _, hD2⟩, hB1.alloc hB1.size _⟩ ⟨h, sa, sc, W.heap.size, hg, hus, bR1.lt, heap_alloc_new W _, rfl⟩
    case body =>
      rintro l pre x a' W hl ⟨r, hr⟩ ⟨⟨⟨⟨hp, bM1⟩, bK1⟩, bR1⟩, ⟨D, hD1, hD2⟩, hB1⟩ ⟨h, sa, sc, Bx, hg, hus, hBx, hX, rfl⟩ hlt
      obtain ⟨t0, t1, t2, t3, _⟩ := four_facts hX
      have hS0 : NRow w (.slice sa h.names.length sc) h.names := by
        obtain ⟨h2, _, _, hg2, _, hS⟩ := HForm.out x
        rw [hg] at hg2; cases hg2
        rw [hus] at hS; exact hS
      have hC := house_ok h _ W (hS0.below (Nat.le_refl _) hB1) (HN.out h (List.mem_of_getElem? hg)) (hcls.below hB1 (Nat.le_refl _))
      have HG := Lib.hid hg
      clear hg hus HForm bM bK bR bC hm0 hB0 hA hH hr
      rcases Bool.eq_false_or_eq_true (houseB h) with hb | hb
      · rw [hb] at hC
        gi_wp2_with (refine ⟨trivial, ?_⟩; gi_at_call 102; refine (CallsIn.inRound l (callsIn_wide.2 hC)).mono ?_; rintro e w' ⟨rfl, hb2⟩; have bM2 := bM1.kept (grown_of_below hb2 none) (by simp); have bK2 := bK1.kept (grown_of_below hb2 none) (by simp); have bR2 := bR1.kept (grown_of_below hb2 none) (by simp); have hX2 := (hb2.block Bx (Array.getElem?_eq_some_iff.1 hX).1).trans hX; have hD3 := owns_below hD1 hb2; have v0 := (four_facts hX2).1)
        obtain ⟨P, hP⟩ : ∃ P, P = asc hs (pre.map Fin.val) := ⟨_, rfl⟩
        rw [← hP] at hD3 hD2
        have hPl : P.length ≤ 9 := by rw [hP]; have := asc_le hp; rw [List.length_map] at this; omega
        have hPn : (P.map (·.1)).Nodup := by rw [hP]; exact hp.2
        have hnames := (houseB_iff.1 hb).1
        have hin : (Lit.int .i64 (x.1 : Int)).wf = true := by
          have hx := x.2
          have : x.1 = 0 ∨ x.1 = 1 ∨ x.1 = 2 ∨ x.1 = 3 := by omega
          rcases this with e | e | e | e <;> rw [e] <;> rfl
        have HP := Lib.hid hP
        have HIn := Lib.hid hin
        have HB := Lib.hid hb
        have HPn := Lib.hid hPn
        clear hP hin hb hPn hX2 v0 t0 t1 t2 t3 hX hC bM1 bK1 bR1 hD1
        gi_loopw [8, 25] (fun _ i wr => ∃ (k : Nat) (D : DataW Unit), k ≤ h.names.length ∧ i = .int .i64 k ∧ ((P ++ (h.names.take k).map fun s => (s, (x.1 : Int))).map (·.1)).Nodup ∧
          wr.ownsMap Tryz.prog 9 (plainElem Tryz.prog 3) (w.heap.size + 1 + 1 + 1) (P.length + k) D ∧ MapIs D (P ++ (h.names.take k).map fun s => (s, (x.1 : Int))) ∧
          Boxed wr (w.heap.size + 1) 82 (.map none) ∧ Boxed wr (w.heap.size + 1 + 1) 4 (.bool false) ∧ Boxed wr (w.heap.size + 1 + 1 + 1 + 1) 82 (.map (some (w.heap.size + 1 + 1 + 1))) ∧
          Below w.heap.size w wr ∧ Below w.heap.size W wr ∧ KeepsFrom W0.heap.size W wr) (fun _ i _ => h.names.length - (intOf i).toNat)
        case atStart => exact ⟨0, D, Nat.zero_le _, rfl, by simpa using HPn.out, hD3, by simpa using hD2, bM2, bK2, bR2, hB1.trans (hb2.mono hB1.size), hb2.mono hB1.size, (keepsOthers_of_below hb2).from _⟩
        case round =>
          obtain ⟨k, D', hk, rfl, hnd, hDk, hMk, cM, cK, cR, hBw, hBW, hKF⟩ := hrel
          by_cases hlt2 : k < h.names.length
          · obtain ⟨y, hy⟩ : ∃ y, h.names[k]? = some y := ⟨_, List.getElem?_eq_getElem hlt2⟩
            obtain ⟨_, _, e1, _, _, hcs⟩ := hS0.below (Nat.le_refl _) hBw
            obtain ⟨b', o', ea, _, d0⟩ := hcs k y hy
            have ha : sa = some ⟨b', o', none⟩ := by injection e1 with e1 _ _; rw [e1, ea]
            subst ha
            have hys : y.size ≤ maxLen := by unfold maxLen; have := HN.out h (List.mem_of_getElem? HG.out) y (List.mem_of_getElem? hy); omega
            have r0 := cR.cell
            have HY := Lib.hid hy
            clear e1 ea hcs hy
            by_cases hl : lookL (P ++ (h.names.take k).map fun s => (s, (x.1 : Int))) y = none
            · have hC := add_yes y x.1 (w.heap.size + 1 + 1 + 1) (P.length + k) D' _ wr hys HIn.out (by unfold maxLen; omega) hDk hMk hl
              have HK := Lib.hid (And.intro hnd (And.intro hMk hl))
              clear hnd hMk hl
              gi_wp2_with (refine ⟨trivial, ?_⟩; gi_at_call 103; refine (CallsIn.inRound l (callsIn_wide.2 hC)).mono ?_; rintro e w2 ⟨rfl, hD2', hg'⟩)
              obtain ⟨hnd, hMk, hl⟩ := HK.out
              refine ⟨⟨k + 1, _, by omega, by simp, part_nodup HY.out hnd hl, hD2', by rw [part_snoc P h.names _ HY.out]; exact mapis_put hMk hl, cM.kept hg' (fun e => by injection e; omega), cK.kept hg' (fun e => by injection e; omega), cR.kept hg' (fun e => by injection e; omega),
                hBw.grown hg' hBw.size (fun j e => by cases e; omega), hBW.grown hg' (by have := hB1.size; have := hBW.size; omega) (fun j e => by cases e; omega), hKF.trans (KeepsFrom.of_grownBy hg' (fun j e => by cases e; omega))⟩, by simp [intOf]; omega⟩
            · have hC := add_no y x.1 (w.heap.size + 1 + 1 + 1) (P.length + k) D' _ wr hys HIn.out (by unfold maxLen; omega) hDk hMk hl
              rw [HP.out] at hl
              have HBad := Lib.hid (bad_twice HG.out HY.out hl)
              have u1 := cM.cell
              have u2 := cM.frozen
              have u3 := cK.cell
              have u4 := cK.frozen
              clear hnd hMk hl
              gi_wp2_with (refine ⟨trivial, ?_⟩; gi_at_call 103; refine (CallsIn.inRound l (callsIn_wide.2 hC)).mono ?_; rintro e w2 ⟨rfl, rfl⟩)
              have hk1 := (KeepsOthers.setCell w2 ⟨w.heap.size + 1, 0, none⟩ (.map none)).trans (KeepsOthers.setCell _ ⟨w.heap.size + 1 + 1, 0, none⟩ (.bool false))
              refine ⟨hKF.trans (hk1.from _), ⟨⟨⟨rfl, ?_⟩, ?_⟩, ?_⟩, ?_⟩
              · rw [List.map_append]; exact HBad.out
              · exact (cM.set _).other (by omega) _
              · exact (cK.other (by omega) _).set _
              · exact (hBw.setCell (p := ⟨w.heap.size + 1, 0, none⟩) (by simp) _).setCell (p := ⟨w.heap.size + 1 + 1, 0, none⟩) (by simp; omega) _
          · have hkl : k = h.names.length := by omega
            rw [hkl, List.take_length, HP.out] at hnd hMk
            rw [hkl, HP.out] at hDk
            have HK := Lib.hid (And.intro hnd (And.intro hMk hDk))
            clear hnd hMk hDk
            gi_wp2
            obtain ⟨hnd, hMk, hDk⟩ := HK.out
            have e1 : (pre ++ [x]).map Fin.val = pre.map Fin.val ++ [x.1] := by simp
            have e2 := asc_part hs (pre.map Fin.val) x.1 h HG.out
            refine ⟨hKF, hBW, ⟨⟨⟨?_, cM⟩, cK⟩, cR⟩, ⟨D', ?_, ?_⟩, hBw⟩
            · rw [e1]; exact good_snoc hp HG.out HB.out hnd
            · rw [e1, e2, List.length_append, List.length_map]; exact hDk
            · rw [e1, e2]; exact hMk
      · rw [hb] at hC
        have HBad := Lib.hid (bad_house (pre := pre.map Fin.val) HG.out hb)
        clear hb
        gi_wp2_with (refine ⟨trivial, ?_⟩; gi_at_call 102; refine (CallsIn.inRound l (callsIn_wide.2 hC)).mono ?_; rintro e w' ⟨rfl, hb2⟩; have bM2 := bM1.kept (grown_of_below hb2 none) (by simp); have bK2 := bK1.kept (grown_of_below hb2 none) (by simp); have u1 := bM2.cell; have u2 := bM2.frozen; have u3 := bK2.cell; have u4 := bK2.frozen)
        have hk1 := (KeepsOthers.setCell w' ⟨w.heap.size + 1, 0, none⟩ (.map none)).trans (KeepsOthers.setCell _ ⟨w.heap.size + 1 + 1, 0, none⟩ (.bool false))
        refine ⟨((keepsOthers_of_below hb2).trans hk1).from _, ⟨⟨⟨rfl, ?_⟩, ?_⟩, ?_⟩, ?_⟩
        · rw [List.map_append]; exact HBad.out
        · exact (bM2.set _).other (by omega) _
        · exact (bK2.other (by omega) _).set _
        · exact ((hB1.trans (hb2.mono hB1.size)).setCell (p := ⟨w.heap.size + 1, 0, none⟩) (by simp) _).setCell (p := ⟨w.heap.size + 1 + 1, 0, none⟩) (by simp; omega) _
    case done =>
      rintro D ys W hD rfl ⟨⟨⟨⟨hp, bM1⟩, bK1⟩, bR1⟩, ⟨D', hD1, hD2⟩, hB1⟩ hK
      rw [fins_val (Nat.le_refl _)] at hp hD1 hD2
      have hgood : cfgB hs = true := good_cfg.2 ⟨⟨by omega, hle4⟩, (goodAt_range (Nat.le_refl _)).1 hp⟩
      have hlen : (asc hs (List.range hs.length)).length ≤ 12 := by have := asc_le hp; rw [List.length_range] at this; omega
      have r0 := bR1.cell
      have u1 := bM1.cell
      have u2 := bM1.frozen
      have u3 := bK1.cell
      have u4 := bK1.frozen
      gi_wp2
      have hk1 := (KeepsOthers.setCell W ⟨w.heap.size + 1, 0, none⟩ (.map (some (w.heap.size + 1 + 1 + 1)))).trans (KeepsOthers.setCell _ ⟨w.heap.size + 1 + 1, 0, none⟩ (.bool true))
      have hK' := hk1.same D _ hK rfl
      refine ⟨by simp, .inl ⟨_, _, rfl, run_takeDeferred hK', ?_⟩⟩
      have hc5 := cell_kept ((bM1.set (.map (some (w.heap.size + 1 + 1 + 1)))).other (B' := w.heap.size + 1 + 1) (by omega) (.bool true)).cell (grownBy_putObj' _ D (.deferred none)) (fun r e => by cases e; exact ⟨_, hK', rfl⟩)
      have hc6 := cell_kept ((bK1.other (B' := w.heap.size + 1) (by omega) (.map (some (w.heap.size + 1 + 1 + 1)))).set (.bool true)).cell (grownBy_putObj' _ D (.deferred none)) (fun r e => by cases e; exact ⟨_, hK', rfl⟩)
      refine ⟨.tuple #[.map (some (w.heap.size + 1 + 1 + 1)), .bool true], ?_, ?_, .inr ⟨hgood, w.heap.size + 1 + 1 + 1, D', (asc hs (List.range hs.length)).length, rfl, ?_, ?_, hD2⟩⟩
      · simp [results, Tryz.f54, go_sem, hc5, hc6]
      · exact ((hB1.setCell (p := ⟨w.heap.size + 1, 0, none⟩) (by simp) _).setCell (p := ⟨w.heap.size + 1 + 1, 0, none⟩) (by simp; omega) _).trans (belowK_b (w := w) (Nat.le_refl _) _ D _ _ (by omega) hK' rfl rfl)
      · unfold maxLen; omega
      · exact ((hD1.kept (grownBy_setCell' W (w.heap.size + 1) _) (fun e => by injection e; omega)).kept (grownBy_setCell' _ (w.heap.size + 1 + 1) _) (fun e => by injection e; omega)).kept (grownBy_putObj' _ D _) (fun e => by injection e; omega)
    case stop =>
      rintro D c' pre W hD ⟨k, hk, rfl⟩ ⟨⟨⟨⟨rfl, hbad⟩, bM1⟩, bK1⟩, hB1⟩ hK
      rw [fins_val hk] at hbad
      have hgood : cfgB hs = false := by
        rw [Bool.eq_false_iff]; intro e
        exact hbad ((goodAt_range hk).2 (good_less hk (good_cfg.1 e).2))
      gi_wp2
      refine ⟨by simp, .inl ⟨_, _, rfl, run_takeDeferred hK, ?_⟩⟩
      have hc5 := cell_kept bM1.cell (grownBy_putObj' _ D (.deferred none)) (fun r e => by cases e; exact ⟨_, hK, rfl⟩)
      have hc6 := cell_kept bK1.cell (grownBy_putObj' _ D (.deferred none)) (fun r e => by cases e; exact ⟨_, hK, rfl⟩)
      refine ⟨.tuple #[.map none, .bool false], ?_, ?_, .inl ⟨hgood, rfl⟩⟩
      · simp [results, Tryz.f54, go_sem, hc5, hc6]
      · exact hB1.trans (belowK_b (w := w) (Nat.le_refl _) _ D _ _ (by omega) hK rfl rfl)
  · gi_wp2_with (refine ⟨trivial, ?_⟩; gi_at_call 100; refine (callsIn_wide.2 (q _ _ _)).mono ?_; rintro e w' ⟨rfl, rfl⟩)
    refine ⟨.tuple #[.map none, .bool false], ?_, ?_, .inl ⟨cfg_short j1, rfl⟩⟩
    · simp [results, Tryz.f54, go_sem]
    · exact (((Below.refl _ w).alloc (Nat.le_refl _) _).alloc (by simp) _).alloc (by simp; omega) _
end Go.Proofs.YtncegikmpapldaaGreatDoor

-- from XCfgI4
/- Walks: whether houses are ok, and where a name leads, by the program. -/
namespace Go.Proofs.YtncegikmpapldaaGreatDoor
open Go.RowKit Go.Maps

set_option maxHeartbeats 1600000 in
theorem impl_cfgok (hs : List Hs) (v : Value) (w : World) (hH : HRow w v hs) (hN : HOks hs 1048576) (hcls : Cls w) :
    Calls Tryz.prog 42 #[.agg #[v]] w fun e w' => e = .returned (.bool (cfgB hs)) ∧ Below w.heap.size w w' := by
  obtain ⟨wA, hwA⟩ : ∃ wA, wA = w.alloc (.cells #[v] 25) := ⟨_, rfl⟩
  have hsA : wA.heap.size = w.heap.size + 1 := by rw [hwA]; simp
  have hbA : Below w.heap.size w wA := by rw [hwA]; exact (Below.refl _ _).alloc (Nat.le_refl _) _
  obtain ⟨t0, _⟩ := one_fact (w' := wA) (g := w.heap.size) (x0 := v) (T := 25) (by rw [hwA]; exact heap_alloc_new w _)
  have hC := routes_of hs v wA (hH.below (Nat.le_refl _) hbA) hN (hcls.below hbA (Nat.le_refl _))
  obtain ⟨a, c, rfl, _⟩ := hH
  have HBA := Lib.hid hbA
  rw [hwA] at t0
  have HwA := Lib.hid hwA
  clear hbA hwA hcls hN
  go_enter Tryz.func42, Tryz.ntmps42
  go_wp2_with fail
  rw [← HwA.out]
  refine hC.mono ?_
  rintro e w1 ⟨hb1, h⟩
  have HB := Lib.hid (HBA.out.trans (hb1.mono (by omega)))
  clear hC t0 hb1
  rcases h with ⟨hf, rfl⟩ | ⟨hf, b, D, n, rfl, _⟩
  · have HF := Lib.hid hf
    clear hf
    go_wp2
    go_ret
    rw [HF.out]; exact ⟨rfl, HB.out⟩
  · have HF := Lib.hid hf
    clear hf
    go_wp2
    go_ret
    rw [HF.out]; exact ⟨rfl, HB.out⟩

theorem look_nil (w : World) (key : Value) (kl : Lit) (hkey : keyOf Tryz.prog 9 key = some kl) : (Instr.lookup 82 (.map none) key true).run Tryz.prog w = .ok (.tuple #[.int .i64 0, .bool false]) w := by
  have hu : Tryz.prog.underlying 82 = some (.map 9 3) := by kernel_rfl
  have hf : (Instr.findKey 9 key []).run Tryz.prog w = .ok none w := by simp [Instr.findKey, Instr.findNow, run_underlying Tryz.underlying9, Result.andThen]
  have hz := zeroInt w
  simp [Instr.lookup, run_underlying hu, lawStr.check w _ hkey, hf, hz, Result.andThen]

set_option maxHeartbeats 1600000 in
theorem impl_route (hs : List Hs) (v : Value) (s : ByteArray) (w : World) (hH : HRow w v hs) (hN : HOks hs 1048576) (hs1 : s.size ≤ maxLen) (hcls : Cls w) :
    Calls Tryz.prog 20 #[.agg #[v], .string s] w fun e w' => e = .returned (.int .i64 (routeI hs s)) ∧ Below w.heap.size w w' := by
  have hkey := Go.WideMaps.keyOf_string_mk Tryz.underlying9 hs1
  have hu : Tryz.prog.underlying 82 = some (.map 9 3) := by kernel_rfl
  have he := Tryz.underlying3
  have hnil := fun w => look_nil w (.string s) _ hkey
  obtain ⟨wA, hwA⟩ : ∃ wA, wA = w.alloc (.cells #[v] 25) := ⟨_, rfl⟩
  have hsA : wA.heap.size = w.heap.size + 1 := by rw [hwA]; simp
  have hbA : Below w.heap.size w wA := by rw [hwA]; exact (Below.refl _ _).alloc (Nat.le_refl _) _
  obtain ⟨t0, _⟩ := one_fact (w' := wA) (g := w.heap.size) (x0 := v) (T := 25) (by rw [hwA]; exact heap_alloc_new w _)
  have hC := routes_of hs v wA (hH.below (Nat.le_refl _) hbA) hN (hcls.below hbA (Nat.le_refl _))
  obtain ⟨a, c, rfl, _⟩ := hH
  have HBA := Lib.hid hbA
  rw [hwA] at t0
  have HwA := Lib.hid hwA
  clear hbA hwA hcls hN
  go_enter Tryz.func20, Tryz.ntmps20
  go_wp2_with fail
  rw [← HwA.out]
  refine hC.mono ?_
  rintro e w1 ⟨hb1, h⟩
  have HB := Lib.hid (HBA.out.trans (hb1.mono (by omega)))
  clear hC t0 hb1
  rcases h with ⟨hf, rfl⟩ | ⟨hf, b, D, n, rfl, _, hown, hM⟩
  · have HF : Hid (routeI hs s = -1) := Lib.hid (if_neg (by rw [hf]; decide))
    clear hf
    go_wp2
    go_ret
    rw [HF.out]; exact ⟨rfl, HB.out⟩
  · have HF : Hid (routeI hs s = optI (findI hs s)) := Lib.hid (if_pos hf)
    obtain ⟨m1, m2⟩ := hM.2 s
    rw [look_all] at m1 m2
    clear hf hM
    cases hl : findI hs s with
    | none =>
      rw [hl] at m1 m2 HF
      have m1 : Maps.has D (.string s.data.toList) = false := m1
      have m2 : D.atKey (.string s.data.toList) (.lit (.int .i64 0)) = .lit (.int .i64 0) := m2
      clear hl
      go_wp2_with (first
        | (at_lookup; refine wpList_lookup_own_ok_int _ rfl _ _ 82 rfl 9 3 .i64 lawStr hu he (zeroInt _) b n _ rfl hown _ _ rfl hkey ?_; intro c hat hwc; rw [m1]))
      go_ret
      rw [HF.out]; exact ⟨rfl, HB.out⟩
    | some k =>
      rw [hl] at m1 m2 HF
      have m1 : Maps.has D (.string s.data.toList) = true := m1
      have m2 : D.atKey (.string s.data.toList) (.lit (.int .i64 0)) = .lit (.int .i64 (k : Int)) := m2
      clear hl
      go_wp2_with (first
        | (at_lookup; refine wpList_lookup_own_ok_int _ rfl _ _ 82 rfl 9 3 .i64 lawStr hu he (zeroInt _) b n _ rfl hown _ _ rfl hkey ?_; intro c hat hwc; rw [m1]; obtain rfl : c = (k : Int) := by rw [m2] at hat; simpa using hat.symm))
      go_ret
      rw [HF.out]; exact ⟨rfl, HB.out⟩
end Go.Proofs.YtncegikmpapldaaGreatDoor

