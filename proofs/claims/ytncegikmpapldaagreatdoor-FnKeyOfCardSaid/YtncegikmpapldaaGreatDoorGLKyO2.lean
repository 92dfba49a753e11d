import Derived.Test.YtncegikmpapldaaGreatDoorGKy
import Derived.Test.YtncegikmpapldaaGreatDoorGCa
import Derived.Test.YtncegikmpapldaaGreatDoorNumR
import Derived.Test.YtncegikmpapldaaGreatDoorGCs
import Derived.Test.YtncegikmpapldaaGreatDoorGDc
import Derived.Test.YtncegikmpapldaaGreatDoorGDh
import Derived.Test.YtncegikmpapldaaGreatDoorGdOk
import Derived.Laws.AppendOwn
import Derived.Laws.AppendOwnNone
import Derived.Test.YtncegikmpapldaaGreatDoorLaid
import Derived.Stop.LaidErr
import Derived.Test.YtncegikmpapldaaGreatDoorGhx
-- from XKyQ
/- Pure laws on keys: their texts, and what is asked for them. -/
namespace Go.Proofs.YtncegikmpapldaaGreatDoor
open Go.RowKit

theorem numT_ok {n : Int} (h0 : 0 ≤ n) (h1 : n ≤ 999999) : numT n = Lib.decDigits n.toNat := if_pos ⟨h0, h1⟩
theorem dec_no32 (n : Nat) : (32 : UInt8) ∉ Lib.decDigits n := fun h => by
  have := List.all_eq_true.1 (dec_digs n) 32 h
  exact absurd this (by decide)
theorem numR_yesK {l : List UInt8} (h : (numR l).2 = true) : Lib.decDigits (numR l).1 = l ∧ (numR l).1 ≤ 999999 := by
  unfold numR at h ⊢
  split
  · rename_i hc
    refine ⟨hc.2.2.2, ?_⟩
    have h1 := valF_lt l 0 hc.2.2.1
    have h2 : 10 ^ l.length ≤ 10 ^ 6 := Nat.pow_le_pow_right (by omega) hc.2.1
    simp only; omega
  · rename_i hc
    rw [if_neg hc] at h; cases h
theorem keyR_back {hs : List Hs} {k : Ky} (h : keyB hs k = true) : keyR hs (keyT k) = (k, true) := by
  obtain ⟨hc, ⟨h0, h1⟩, h2, h3, h4⟩ := keyB_iff.1 h
  have hl := (cfgB_iff.1 hc).1.2
  unfold keyR keyT
  rw [numT_ok h0 (by omega), numT_ok h3 (by omega), cutL_yes _ _ _ (dec_no32 _)]
  dsimp only
  rw [cutL_yes _ _ _ (dec_no32 _)]
  dsimp only
  rw [numR_dec _ (by omega), numR_dec _ (by omega)]
  dsimp only
  have e : (⟨((k.house.toNat : Nat) : Int), ⟨k.place.data.toList.toArray⟩, ((k.mask.toNat : Nat) : Int)⟩ : Ky) = k := by
    obtain ⟨a, b, c⟩ := k
    simp only [Ky.mk.injEq]
    exact ⟨Int.toNat_of_nonneg h0, by simp, Int.toNat_of_nonneg h3⟩
  rw [e, if_pos ⟨rfl, rfl, h⟩]
theorem keyR_is {hs : List Hs} {l : List UInt8} {x : Ky} (h : keyR hs l = (x, true)) : keyB hs x = true ∧ keyT x = l := by
  unfold keyR at h
  split at h
  · rename_i hc
    obtain ⟨c1, c2, c3⟩ := hc
    injection h with h _
    rw [h] at c3
    refine ⟨c3, ?_⟩
    have hp := (keyB_iff.1 c3).2.2.1
    obtain ⟨d1, n1⟩ := numR_yesK c1
    obtain ⟨d2, n2⟩ := numR_yesK c2
    subst h
    have f1 : (cutL l 32).2.2 = true := by
      rcases e : (cutL l 32).2.2 with _ | _
      · rw [(cut_false e).2] at c2; cases c2
      · rfl
    have f2 : (cutL (cutL l 32).2.1 32).2.2 = true := by
      rcases e : (cutL (cutL l 32).2.1 32).2.2 with _ | _
      · rw [(cut_false e).2] at hp; exact absurd hp canon_nil
      · rfl
    unfold keyT
    dsimp only
    rw [numT_ok (by omega) (by omega), numT_ok (by omega) (by omega), Int.toNat_natCast, Int.toNat_natCast, d1, d2]
    conv => rhs; rw [cut_join f1, cut_join f2]
  · cases h
theorem keyT_inj {hs : List Hs} {k j : Ky} (hk : keyB hs k = true) (hj : keyB hs j = true) (h : keyT k = keyT j) : k = j := by
  have h1 := keyR_back hk
  rw [h, keyR_back hj] at h1
  injection h1 with h1 _
  exact h1.symm

/-! ### What goes on -/
theorem get_iff {hs : List Hs} {h : Hd} {verb : List UInt8} : askB hs h verb = true ↔ 0 ≤ routeI hs h.host ∧ h.verb.data.toList = verb ∧ hedB h = true := by
  simp only [askB, Bool.and_eq_true, decide_eq_true_eq]
theorem name0_at {hs : List Hs} (hc : cfgB hs = true) {i : Int} (h0 : 0 ≤ i) (h1 : i < hs.length) :
    ∃ x, hs[i.toNat]? = some x ∧ x.names[0]? = some (name0 hs i) ∧ name0 hs i ∈ x.names ∧ hostB (name0 hs i).data.toList = true := by
  have hx : hs[i.toNat]? = some (hs[i.toNat]'(by omega)) := List.getElem?_eq_getElem _
  obtain ⟨a, _, _, _, b⟩ := houseB_iff.1 ((cfgB_iff.1 hc).2.1 _ (List.mem_of_getElem? hx))
  have hn : (hs[i.toNat]'(by omega)).names[0]? = some ((hs[i.toNat]'(by omega)).names[0]'(by omega)) := List.getElem?_eq_getElem _
  have e : name0 hs i = (hs[i.toNat]'(by omega)).names[0]'(by omega) := by unfold name0; rw [hx]; simp only [hn, Option.getD_some]
  rw [e]
  exact ⟨_, hx, hn, List.getElem_mem _, b _ (List.getElem_mem _)⟩
theorem route_lt {hs : List Hs} {s : ByteArray} (h : 0 ≤ routeI hs s) : cfgB hs = true ∧ routeI hs s < hs.length := by
  unfold routeI at h ⊢
  split at h
  · rename_i hc
    rw [if_pos hc]
    refine ⟨hc, ?_⟩
    cases hf : findI hs s with
    | none => rw [hf] at h; exact absurd h (by decide)
    | some k =>
      unfold findI at hf
      rw [List.findIdx?_eq_some_iff_getElem] at hf
      obtain ⟨hk, _⟩ := hf
      show (k : Int) < _
      omega
  · exact absurd h (by decide)
theorem route_no {hs : List Hs} {s : ByteArray} (h : cfgB hs = false) : routeI hs s = -1 := by
  unfold routeI; rw [h]; rfl
theorem canon_le {l : List UInt8} (h : canonL l = some l) : l.length ≤ 40 := (canon_iff h).1
theorem tok_val {l : List UInt8} (h : tokB l = true) : valB l = true ∧ l.length ≤ 12 := by
  have h' := h
  simp only [tokB, Bool.and_eq_true, decide_eq_true_eq] at h'
  refine ⟨?_, h'.1.2⟩
  have hs := h'.2
  simp only [valB, Bool.and_eq_true, decide_eq_true_eq]
  refine ⟨⟨by omega, ?_⟩, trim_none fun hb => ?_⟩
  · exact List.all_eq_true.2 fun b hb => small_print b (smalls_mem hs hb)
  · exact (hsmall_lt 32 (smalls_mem hs hb)).2.1 rfl
theorem ky_val : ∀ m : Fin 8, valB (codT (m.val : Int)) = true ∧ (codT (m.val : Int)).length ≤ 30 := by decide +kernel
theorem mask_fin {m : Int} (h : 0 ≤ m ∧ m < 8) : ∃ p : Fin 8, m = (p.val : Int) := ⟨⟨m.toNat, by omega⟩, by simp only; omega⟩
theorem acc_own : ownB bAcc.data.toList = false := by decide
theorem ifn_own : ownB bIfNone.data.toList = false := by decide
theorem acc_tok : tokB bAcc.data.toList = true := by decide
theorem ifn_tok : tokB bIfNone.data.toList = true := by decide
theorem get_verb : verbB sGet.data.toList = true := by decide
theorem put_verb : verbB sPut.data.toList = true := by decide
theorem nil_body : bodyB (⟨#[]⟩ : ByteArray).data.toList = true := by decide
theorem ask_fs {k : Ky} {tag : ByteArray} (hm : 0 ≤ k.mask ∧ k.mask < 8) (ht : tagB tag.data.toList = true) :
    ∀ f ∈ askFs k tag, fdB f = true ∧ ownB f.1.data.toList = false := by
  obtain ⟨p, hp⟩ := mask_fin hm
  intro f hf
  unfold askFs at hf
  rcases List.mem_cons.1 hf with rfl | hf
  · rw [hp]
    refine ⟨?_, acc_own⟩
    simp only [fdB, Bool.and_eq_true]
    exact ⟨acc_tok, by simpa using (ky_val p).1⟩
  · split at hf
    · cases hf
    · rename_i hne
      obtain rfl : f = (bIfNone, tag) := by simpa using hf
      refine ⟨?_, ifn_own⟩
      simp only [tagB, Bool.or_eq_true, decide_eq_true_eq] at ht
      simp only [fdB, Bool.and_eq_true]
      exact ⟨ifn_tok, (tok_val (ht.resolve_left hne)).1⟩
theorem fd_len {f : ByteArray × ByteArray} (h : fdB f = true) : (fdT f).data.toList.length ≤ 44 := by
  obtain ⟨a, b⟩ := f
  rw [fdT_list h]
  simp only [fdB, tokB, valB, Bool.and_eq_true, decide_eq_true_eq] at h
  simp only [List.length_append, List.length_cons]
  omega
theorem joinL_fs {fs : List (ByteArray × ByteArray)} (h : ∀ f ∈ fs, fdB f = true) : (joinL (fs.map fun f => (fdT f).data.toList)).length ≤ 45 * fs.length := by
  induction fs with
  | nil => simp [joinL]
  | cons f fs ih =>
    have h1 := fd_len (h f (by simp))
    have h2 := ih fun g hg => h g (by simp [hg])
    rw [List.map_cons, joinL_len, List.length_cons]
    omega
/-- A request of good parts, of few fields, is good. -/
theorem head_ok {h : Hd} (hv : verbB h.verb.data.toList = true) (ht : canonL h.target.data.toList = some h.target.data.toList) (hh : hostB h.host.data.toList = true) (hm : h.fs.length ≤ 2) (hb : bodyB h.body.data.toList = true)
    (hp : h.body.data.toList = [] ∨ h.verb.data.toList = bPut) (hf : ∀ f ∈ h.fs, fdB f = true ∧ ownB f.1.data.toList = false) : hedB h = true := by
  refine hedB_iff.2 ⟨hv, ht, hh, by omega, hb, hp, hf, ?_⟩
  have h1 : h.verb.data.toList.length ≤ 5 := by rcases verb_cases hv with e | e | e <;> rw [e] <;> decide
  have h2 := canon_le ht
  have h3 := host_len hh
  have h4 := joinL_fs (fun f hf' => (hf f hf').1)
  have h5 : (joinL (lenLines h.body.data.toList)).length ≤ 12 := by
    unfold lenLines
    split
    · simp [joinL]
    · have hl : h.body.data.toList.length ≤ 20 := by
        simp only [bodyB, Bool.and_eq_true, decide_eq_true_eq] at hb; exact hb.1
      have := dec_len_le 1 h.body.data.toList.length (by omega)
      rw [joinL_len]
      simp only [List.length_append, List.length_cons, joinL, List.flatMap_nil, List.length_nil]
      have : bLength.length = 6 := rfl
      omega
  unfold headT hedLines
  rw [joinL_cons, joinL_cons, joinL_app]
  have : bHost.length = 4 := rfl
  simp only [List.length_append, List.length_cons, List.length_nil]
  omega
theorem askFs_len (k : Ky) (tag : ByteArray) : (askFs k tag).length ≤ 2 := by
  unfold askFs; split <;> simp
theorem ask_hed {hs : List Hs} {k : Ky} {tag : ByteArray} (h : keyB hs k = true) (ht : tagB tag.data.toList = true) : hedB (keyAsk hs k tag) = true := by
  obtain ⟨hc, ⟨h0, h1⟩, h2, h3⟩ := keyB_iff.1 h
  obtain ⟨x, _, _, _, hn⟩ := name0_at hc h0 h1
  unfold keyAsk
  rw [if_pos ⟨h, ht⟩]
  exact head_ok get_verb h2 hn (askFs_len k tag) nil_body (.inl rfl) (ask_fs h3 ht)
theorem put_hed {hs : List Hs} {h : Hd} (ha : askB hs h bPut = true) : hedB (putAsk hs h).1 = true := by
  obtain ⟨h0, hv, hb⟩ := get_iff.1 ha
  obtain ⟨hc, h1⟩ := route_lt h0
  obtain ⟨x, _, _, _, hn⟩ := name0_at hc h0 h1
  have hk := hedB_iff.1 hb
  unfold putAsk
  rw [if_pos ha]
  exact head_ok put_verb hk.target hn (by simp) hk.body (.inr rfl) (by simp)
theorem route_name0 {hs : List Hs} (hc : cfgB hs = true) {i : Int} (h0 : 0 ≤ i) (h1 : i < hs.length) (hr : ∀ {x : Hs} {s : ByteArray}, hs[i.toNat]? = some x → s ∈ x.names → routeI hs s = (i.toNat : Int)) : routeI hs (name0 hs i) = i := by
  obtain ⟨x, hx, _, hm, _⟩ := name0_at hc h0 h1
  rw [hr hx hm]; omega
theorem all_acc (k : Ky) (tag : ByteArray) : allTo (askFs k tag) bAcc (askFs k tag).length = [⟨(codT k.mask).toArray⟩] := by
  rw [all_filter]
  unfold askFs
  split
  · rfl
  · have : ¬ (bIfNone = bAcc) := by decide
    simp [this]
theorem all_tag (k : Ky) (tag : ByteArray) : allTo (askFs k tag) bIfNone (askFs k tag).length = if tag.data.toList = [] then [] else [tag] := by
  rw [all_filter]
  have : ¬ (bAcc = bIfNone) := by decide
  unfold askFs
  split <;> simp [this]
theorem hedT_inj {h g : Hd} (hh : hedB h = true) (hg : hedB g = true) (e : hedT h = hedT g) : h = g := by
  have h1 := read_write hh []
  have h2 := read_write hg []
  rw [e, h2] at h1
  injection h1 with h1 _
  exact h1.symm
theorem hedT_ne (h : Hd) : hedT h ≠ [] := by
  unfold hedT headT
  intro e
  have := congrArg List.length e
  simp only [List.length_append, List.length_cons, List.length_nil] at this
  omega
end Go.Proofs.YtncegikmpapldaaGreatDoor

-- from XKyQ2
/- Pure laws on keys: the codings of what is asked. -/
namespace Go.Proofs.YtncegikmpapldaaGreatDoor
open Go.RowKit

def keyOf (hs : List Hs) (h : Hd) : Ky × Bool := if askB hs h bGet = true then (⟨routeI hs h.host, h.target, codOfF h.fs⟩, true) else (noKy, false)
theorem acc_eq : bAcc = bAccept := rfl
theorem ky_back : ∀ m : Fin 8, (codParse (codT (m.val : Int))).map maskL = some m.val := by decide +kernel
theorem cod_ask {k : Ky} (tag : ByteArray) (hm : 0 ≤ k.mask ∧ k.mask < 8) : (codOfF (askFs k tag) : Int) = k.mask := by
  obtain ⟨p, hp⟩ := mask_fin hm
  have hb := ky_back p
  obtain ⟨ws, hw, hmk⟩ := Option.map_eq_some_iff.1 hb
  rw [codOf_yes (v := ⟨(codT k.mask).toArray⟩) (ws := ws) (by rw [← acc_eq, all_acc]; rfl) (by rw [hp]; exact hw), hmk, hp]
theorem allTo_more (fs gs : List (ByteArray × ByteArray)) (h : (fs.filter fun f => f.1 = bAccept) = gs.filter fun f => f.1 = bAccept) : codOfF fs = codOfF gs := by
  unfold codOfF
  rw [all_filter, all_filter, h]
theorem cod_front (x y : ByteArray) (fs : List (ByteArray × ByteArray)) (h : x ≠ bAccept) : codOfF ((x, y) :: fs) = codOfF fs := allTo_more _ _ (by simp [h])
theorem cod_back (x y : ByteArray) (fs : List (ByteArray × ByteArray)) (h : x ≠ bAccept) : codOfF (fs ++ [(x, y)]) = codOfF fs := allTo_more _ _ (by simp [h])
end Go.Proofs.YtncegikmpapldaaGreatDoor

-- from XKyV
/- What the program's tables give, together. -/
namespace Go.Proofs.YtncegikmpapldaaGreatDoor
open Go.RowKit

def Env (w : World) : Prop := Cls w ∧ Tab w ∧ Cds w ∧ Errs w
theorem Env.below {w w' : World} (h : Env w) {B : Nat} (hb : Below B w w') (hB : w.heap.size ≤ B) : Env w' :=
  ⟨h.1.below hb hB, h.2.1.below hb hB, h.2.2.1.below hb hB, h.2.2.2.below hb hB⟩
end Go.Proofs.YtncegikmpapldaaGreatDoor

-- from XKyOfI
/- Walks: the key of a request, by the program. -/
namespace Go.Proofs.YtncegikmpapldaaGreatDoor
open Go.RowKit Go.Maps

set_option maxRecDepth 100000 in
set_option maxHeartbeats 3200000 in
theorem impl_keyof (hs : List Hs) (v : Value) (h : Hd) (u : Value) (w : World) (hH : HRow w v hs) (hN : HOks hs 1048576) (hF : FRow w u h.fs) (hz : HdSz h) (hE : Env w) :
    Calls Tryz.prog 18 #[.agg #[v], headV h u] w fun e w' => e = .returned (.tuple #[keyV (keyOf hs h).1, .bool (keyOf hs h).2]) ∧ Below w.heap.size w w' := by
  obtain ⟨hz3, hb3, hA0, hA1, hA2⟩ := box3_new w (.cells #[v] 25) (.cells #[.string h.verb, .string h.target, .string h.host, u, .string h.body] 40) (.cells #[.int .i64 0, .string ⟨#[]⟩, .int .i64 0] 27)
  obtain ⟨W3, hW3⟩ : ∃ W3, W3 = ((w.alloc (.cells #[v] 25)).alloc (.cells #[.string h.verb, .string h.target, .string h.host, u, .string h.body] 40)).alloc (.cells #[.int .i64 0, .string ⟨#[]⟩, .int .i64 0] 27) := ⟨_, rfl⟩
  rw [← hW3] at hz3 hb3 hA0 hA1 hA2
  have HX : Hid (∀ W, Below W3.heap.size W3 W → Below w.heap.size w W ∧ W.heap[w.heap.size]? = some (.cells #[v] 25 (0, 0)) ∧ W.heap[w.heap.size + 1]? = some (.cells #[.string h.verb, .string h.target, .string h.host, u, .string h.body] 40 (0, 0)) ∧ W.heap[w.heap.size + 2]? = some (.cells #[.int .i64 0, .string ⟨#[]⟩, .int .i64 0] 27 (0, 0))) := Lib.hid fun W hW =>
    ⟨hb3.trans (hW.mono (by omega)), (hW.block _ (by omega)).trans hA0, (hW.block _ (by omega)).trans hA1, (hW.block _ (by omega)).trans hA2⟩
  have HM : Hid (∀ W, Below w.heap.size w W → Calls Tryz.prog 21 #[u] W fun e w' => e = .returned (.int .i64 (codOfF h.fs : Int)) ∧ Below W.heap.size W w') := Lib.hid fun W hW => impl_codof u h.fs W (hF.below (Nat.le_refl _) hW) hz.fs hz.len (hE.below hW (Nat.le_refl _)).2.2.1 (hE.below hW (Nat.le_refl _)).1 (hE.below hW (Nat.le_refl _)).2.2.2
  have HF : Hid (∀ W, Calls Tryz.prog 51 #[.string h.target] W fun e w' => e = .returned (.string h.target) ∧ Below W.heap.size W w') := Lib.hid fun W => fresh h.target W (by have := hz.target; omega)
  have hR := impl_routed hs v h u ⟨#[103, 101, 116]⟩ W3 (hH.below (Nat.le_refl _) hb3) hN (hF.below (Nat.le_refl _) hb3) hz (hE.below hb3 (Nat.le_refl _)).1 (hE.below hb3 (Nat.le_refl _)).2.1
  have hdef : keyOf hs h = if askB hs h bGet = true then (⟨routeI hs h.host, h.target, codOfF h.fs⟩, true) else (noKy, false) := rfl
  have hr1 : askR hs h bGet = if askB hs h bGet = true then routeI hs h.host else 0 := rfl
  have hb : (⟨#[103, 101, 116]⟩ : ByteArray).data.toList = bGet := rfl
  rw [hb] at hR
  rw [hdef]
  obtain ⟨t0, _⟩ := one_fact hA0
  obtain ⟨t1, t2, t3, t4, t5, _⟩ := five_facts hA1
  obtain ⟨va, vc, rfl, _⟩ := hH
  obtain ⟨ua, uc, rfl, _⟩ := hF
  obtain ⟨hverb, target, host, fs, body⟩ := h
  unfold headV at hR ⊢
  dsimp only at *
  generalize askR hs ⟨hverb, target, host, fs, body⟩ bGet = r at *
  generalize codOfF fs = M at *
  rw [hW3] at t0 t1 t2 t3 t4 t5
  have HW := Lib.hid hW3
  clear hW3 hb3 hA0 hA1 hA2 hdef hN hE hz hb
  cases hA : askB hs ⟨hverb, target, host, fs, body⟩ bGet with
  | false =>
    rw [hA] at hR hr1
    rw [if_neg (by decide)]
    rw [if_neg (by decide)] at hr1
    subst hr1
    clear hA
    go_enter Tryz.func18, Tryz.ntmps18
    go_wp2_with fail
    rw [← HW.out]
    refine hR.mono ?_
    rintro e w1 ⟨rfl, hb1⟩
    obtain ⟨k1, _, _, k4⟩ := HX.out _ hb1
    have hz1 := hb1.size
    have z := three_set k4 (.int .i64 0) (.string ⟨#[]⟩) (.int .i64 0)
    have HB : Hid (Below w.heap.size w (set3k w1 (w.heap.size + 2) (.int .i64 0) (.string ⟨#[]⟩) (.int .i64 0))) := Lib.hid (k1.grown (grown_set3 _ _ _ _ _) k1.size (fun k hk => by cases hk; omega))
    unfold set3k at z HB
    obtain ⟨z0, z1, z2, _⟩ := three_facts z
    obtain ⟨_, _, _, f0, f1, f2⟩ := three_facts k4
    have HZ := Lib.hid (And.intro z0 (And.intro z1 z2))
    clear hR hb1 t0 t1 t2 t3 t4 t5 k1 k4 z z0 z1 z2
    go_wp2_with fail
    obtain ⟨z0, z1, z2⟩ := HZ.out
    refine bodyPost_ret (v := .tuple #[.agg #[.int .i64 0, .string ⟨#[]⟩, .int .i64 0], .bool false]) (by simp [results, Tryz.results18, go_sem, z0, z1, z2]) rfl ?_
    exact ⟨rfl, HB.out⟩
  | true =>
    rw [hA] at hR hr1
    rw [if_pos rfl]
    rw [if_pos rfl] at hr1
    rw [← hr1]
    clear hA hr1
    go_enter Tryz.func18, Tryz.ntmps18
    go_wp2_with fail
    rw [← HW.out]
    refine hR.mono ?_
    rintro e w1 ⟨rfl, hb1⟩
    obtain ⟨k1, k2, k3, k4⟩ := HX.out _ hb1
    have hz1 := hb1.size
    have HC : Hid (CTell w (w.heap.size) (w.heap.size + 1) (.cells #[.slice va hs.length vc] 25 (0, 0)) (.cells #[.string hverb, .string target, .string host, .slice ua fs.length uc, .string body] 40 (0, 0)) (w.heap.size + 2) #[.int .i64 0, .string ⟨#[]⟩, .int .i64 0] 27 8 (fun _ => False) w1) := Lib.hid ⟨k1, k2, k3, fun _ => k4, by omega⟩
    clear hR hb1 t0 t1 t2 t3 t4 t5 k1 k2 k3 k4
    go_wp2_with fail
    refine wp_region_lastL (by kernel_rfl) 9 (by kernel_rfl) (by kernel_rfl) (by kernel_rfl)
      (fun u => { tmps := #[.agg #[.slice va hs.length vc], .agg #[.string hverb, .string target, .string host, .slice ua fs.length uc, .string body], .pointer (some ⟨w.heap.size, 0, none⟩), .pointer (some ⟨w.heap.size + 1, 0, none⟩), .pointer (some ⟨w.heap.size + 2, 0, none⟩), .bool false, .int .i64 r, .bool true, .tuple #[.int .i64 r, .bool true], .agg #[.slice va hs.length vc], .agg #[.string hverb, .string target, .string host, .slice ua fs.length uc, .string body], .tuple #[.int .i64 r, .bool true], .int .i64 r, .bool true, .bool true, .bool false, undef, u 0, u 1, u 2, u 3, u 4, u 5, u 6, u 7], defers := [] })
      (fun L _ W => CTell w (w.heap.size) (w.heap.size + 1) (.cells #[.slice va hs.length vc] 25 (0, 0)) (.cells #[.string hverb, .string target, .string host, .slice ua fs.length uc, .string body] 40 (0, 0)) (w.heap.size + 2) #[.int .i64 0, .string ⟨#[]⟩, .int .i64 0] 27 8 L W)
      (RTell (w.heap.size + 2) #[.int .i64 r, .string target, .int .i64 (M : Int)] 27 8 [.int .i64 r, .pointer (some ⟨w.heap.size + 1, 1, none⟩), .string target, .string target, .pointer (some ⟨w.heap.size + 1, 3, none⟩), .slice ua fs.length uc, .int .i64 (M : Int), .agg #[.int .i64 r, .string target, .int .i64 (M : Int)], undef])
      (LeK 8 (some (w.heap.size + 2))) (fun _ => undef) HC.out.drew
      (fun i j v' w1 w2 _ _ hij hR hle => rtell_stay hij hR hle) ?_ ?_
    · intro i hi2 L u W k hk hL hC hd
      match i, hi2 with
      | 0, _ =>
        refine wpOp_step rfl (fun K hK => ?_)
        clear hd
        go_simp
        exact hK _ _ ⟨_, rfl, (rtell_eq (by decide)).2 rfl, lek_mk (by decide) (Below.refl _ _), hC.same⟩
      | 1, _ =>
        refine wpOp_step rfl (fun K hK => ?_)
        clear hd
        go_simp
        exact hK _ _ ⟨_, rfl, (rtell_eq (by decide)).2 rfl, lek_mk (by decide) (Below.refl _ _), hC.same⟩
      | 2, _ =>
        have e1 : u 1 = .pointer (some ⟨w.heap.size + 1, 1, none⟩) := (rtell_eq (by decide)).1 (hd 1 (dep_of (by kernel_rfl)))
        obtain ⟨_, x1, _⟩ := five_facts hC.c1
        refine wpOp_step rfl (fun K hK => ?_)
        clear hd
        go_simp
        exact hK _ _ ⟨_, by simp [upd, e1], (rtell_eq (by decide)).2 rfl, lek_mk (by decide) (Below.refl _ _), hC.same⟩
      | 3, _ =>
        have e2 : u 2 = .string target := (rtell_eq (by decide)).1 (hd 2 (dep_of (by kernel_rfl)))
        refine wpOp_step rfl (fun K hK => ?_)
        clear hd
        go_simp
        refine (HF.out _).mono ?_
        rintro e w1 ⟨rfl, hb1⟩
        exact hK _ _ ⟨_, by simp [upd, e2], (rtell_eq (by decide)).2 rfl, lek_mk (by decide) hb1, hC.keep hb1⟩
      | 4, _ =>
        refine wpOp_step rfl (fun K hK => ?_)
        clear hd
        go_simp
        exact hK _ _ ⟨_, rfl, (rtell_eq (by decide)).2 rfl, lek_mk (by decide) (Below.refl _ _), hC.same⟩
      | 5, _ =>
        have e4 : u 4 = .pointer (some ⟨w.heap.size + 1, 3, none⟩) := (rtell_eq (by decide)).1 (hd 4 (dep_of (by kernel_rfl)))
        obtain ⟨_, _, _, x3, _⟩ := five_facts hC.c1
        refine wpOp_step rfl (fun K hK => ?_)
        clear hd
        go_simp
        exact hK _ _ ⟨_, by simp [upd, e4], (rtell_eq (by decide)).2 rfl, lek_mk (by decide) (Below.refl _ _), hC.same⟩
      | 6, _ =>
        have e5 : u 5 = .slice ua fs.length uc := (rtell_eq (by decide)).1 (hd 5 (dep_of (by kernel_rfl)))
        refine wpOp_step rfl (fun K hK => ?_)
        clear hd
        go_simp
        refine (HM.out _ hC.bel).mono ?_
        rintro e w1 ⟨rfl, hb1⟩
        exact hK _ _ ⟨_, by simp [upd, e5], (rtell_eq (by decide)).2 rfl, lek_mk (by decide) hb1, hC.keep hb1⟩
      | 7, _ =>
        have e0 : u 0 = .int .i64 r := (rtell_eq (by decide)).1 (hd 0 (dep_of (by kernel_rfl)))
        have e3 : u 3 = .string target := (rtell_eq (by decide)).1 (hd 3 (dep_of (by kernel_rfl)))
        have e6 : u 6 = .int .i64 (M : Int) := (rtell_eq (by decide)).1 (hd 6 (dep_of (by kernel_rfl)))
        refine wpOp_step rfl (fun K hK => ?_)
        clear hd
        go_simp
        exact hK _ _ ⟨_, by simp [upd, e0, e3, e6], (rtell_eq (by decide)).2 rfl, lek_mk (by decide) (Below.refl _ _), hC.same⟩
      | 8, _ =>
        have e7 : u 7 = .agg #[.int .i64 r, .string target, .int .i64 (M : Int)] := (rtell_eq (by decide)).1 (hd 7 (dep_of (by kernel_rfl)))
        have hc := hC.cell hL
        obtain ⟨_, _, _, f0, f1, f2⟩ := three_facts hc
        refine wpOp_step rfl (fun K hK => ?_)
        clear hd
        go_simp
        exact hK _ _ ⟨undef, by simp [upd, e7], rtell_at.2 (three_set hc _ _ _), lek_at (grown_set3 _ _ _ _ _), hC.tell (grown_set3 _ _ _ _ _) (by omega) (by omega) (by omega)⟩
    · intro L u W k hk hC hd
      have hc := rtell_at.1 (hd 8 (by decide))
      obtain ⟨z0, z1, z2, _⟩ := three_facts hc
      have HB := Lib.hid hC.bel
      clear hC hd hc
      refine wpOp_step rfl (fun K hK => ?_)
      go_simp
      refine hK _ _ ?_
      clear hK K
      go_wp2_with fail
      refine bodyPost_ret (v := .tuple #[.agg #[.int .i64 r, .string target, .int .i64 (M : Int)], .bool true]) (by simp [results, Tryz.results18, go_sem, z0, z1, z2]) rfl ?_
      exact ⟨rfl, HB.out⟩
end Go.Proofs.YtncegikmpapldaaGreatDoor

-- from XKyOfS
/- Walks: the key of a request, by the specification. -/
namespace Go.Proofs.YtncegikmpapldaaGreatDoor
open Go.RowKit Go.Maps

set_option maxRecDepth 100000 in
set_option maxHeartbeats 3200000 in
theorem spec_keyof (hs : List Hs) (v : Value) (h : Hd) (u : Value) (w : World) (hH : HRow w v hs) (hN : HOks hs 1048576) (hF : FRow w u h.fs) (hz : HdSz h) :
    Calls Tryz.prog 19 #[.agg #[v], headV h u] w fun e w' => e = .returned (.tuple #[keyV (keyOf hs h).1, .bool (keyOf hs h).2]) ∧ Below w.heap.size w w' := by
  obtain ⟨hz3, hb3, hA0, hA1, hA2⟩ := box3_new w (.cells #[v] 25) (.cells #[.string h.verb, .string h.target, .string h.host, u, .string h.body] 40) (.cells #[.int .i64 0, .string ⟨#[]⟩, .int .i64 0] 27)
  obtain ⟨W3, hW3⟩ : ∃ W3, W3 = ((w.alloc (.cells #[v] 25)).alloc (.cells #[.string h.verb, .string h.target, .string h.host, u, .string h.body] 40)).alloc (.cells #[.int .i64 0, .string ⟨#[]⟩, .int .i64 0] 27) := ⟨_, rfl⟩
  rw [← hW3] at hz3 hb3 hA0 hA1 hA2
  have HX : Hid (∀ W, Below W3.heap.size W3 W → Below w.heap.size w W ∧ W.heap[w.heap.size]? = some (.cells #[v] 25 (0, 0)) ∧ W.heap[w.heap.size + 1]? = some (.cells #[.string h.verb, .string h.target, .string h.host, u, .string h.body] 40 (0, 0)) ∧ W.heap[w.heap.size + 2]? = some (.cells #[.int .i64 0, .string ⟨#[]⟩, .int .i64 0] 27 (0, 0))) := Lib.hid fun W hW =>
    ⟨hb3.trans (hW.mono (by omega)), (hW.block _ (by omega)).trans hA0, (hW.block _ (by omega)).trans hA1, (hW.block _ (by omega)).trans hA2⟩
  have HM : Hid (∀ W, Below w.heap.size w W → Calls Tryz.prog 53 #[u] W fun e w' => e = .returned (.int .i64 (codOfF h.fs : Int)) ∧ Below W.heap.size W w') := Lib.hid fun W hW => spec_codof u h.fs W (hF.below (Nat.le_refl _) hW) hz.fs hz.len
  have HR : Hid (∀ W, Below W3.heap.size W3 W → Calls Tryz.prog 46 #[.agg #[v]] W (fun e w' => e = .returned (.bool (cfgB hs)) ∧ Below W.heap.size W w') ∧
      Calls Tryz.prog 30 #[.agg #[.string h.verb, .string h.target, .string h.host, u, .string h.body]] W (fun e w' => e = .returned (.bool (hedB h)) ∧ Below W.heap.size W w') ∧
      Calls Tryz.prog 52 #[.agg #[v], .string h.host] W (fun e w' => e = .returned (.int .i64 (routeI hs h.host)) ∧ Below W.heap.size W w')) := Lib.hid fun W hW => by
    have hb := hb3.trans (hW.mono (by omega))
    have hH' := hH.below (Nat.le_refl _) hb
    exact ⟨spec_cfgok hs v W hH' hN, spec_hedok h u W (hF.below (Nat.le_refl _) hb) hz.len (fun f hf => ⟨by have := (hz.fs f hf).1; omega, by have := (hz.fs f hf).2; omega⟩) (by have := hz.verb; omega) (by have := hz.target; omega) (by have := hz.host; omega) (by have := hz.body; omega), spec_route hs v h.host W hH' hN⟩
  have hno : cfgB hs = false ∨ hedB h = false ∨ h.verb.data.toList ≠ bGet ∨ routeI hs h.host < 0 → keyOf hs h = (noKy, false) := fun e => by
    unfold keyOf
    rw [if_neg]
    intro ha
    obtain ⟨a1, a2, a3⟩ := get_iff.1 ha
    rcases e with e | e | e | e
    · rw [route_no e] at a1; exact absurd a1 (by decide)
    · rw [e] at a3; cases a3
    · exact e a2
    · omega
  have hyes : hedB h = true → h.verb.data.toList = bGet → 0 ≤ routeI hs h.host → keyOf hs h = (⟨routeI hs h.host, h.target, codOfF h.fs⟩, true) := fun a b c => if_pos (get_iff.2 ⟨c, b, a⟩)
  generalize keyOf hs h = KV at *
  obtain ⟨t0, _⟩ := one_fact hA0
  obtain ⟨t1, t2, t3, t4, t5, _⟩ := five_facts hA1
  obtain ⟨va, vc, rfl, _⟩ := hH
  obtain ⟨ua, uc, rfl, _⟩ := hF
  obtain ⟨hverb, target, host, fs, body⟩ := h
  unfold headV
  dsimp only at *
  generalize codOfF fs = M at *
  generalize cfgB hs = R1 at *
  generalize hedB ⟨hverb, target, host, fs, body⟩ = R2 at *
  generalize routeI hs host = r at *
  have hc0 := (HR.out _ (Below.refl _ _)).1
  rw [hW3] at t0 t1 t2 t3 t4 t5 hc0
  have HW := Lib.hid hW3
  have HNo := Lib.hid hno; have HYes := Lib.hid hyes
  clear hW3 hb3 hA0 hA1 hA2 hN hz hno hyes
  go_enter Tryz.func19, Tryz.ntmps19
  go_wp2_with fail
  refine hc0.mono ?_
  rintro e w1 ⟨rfl, hb1⟩
  rw [← HW.out] at hb1
  obtain ⟨k1, k2, k3, k4⟩ := HX.out _ hb1
  have hz1 := hb1.size
  have HB1 := Lib.hid hb1
  clear hc0 hb1 t0 t1 t2 t3 t4 t5
  cases R1
  · obtain rfl := HNo.out (.inl rfl)
    have z := three_set k4 (.int .i64 0) (.string ⟨#[]⟩) (.int .i64 0)
    have HB : Hid (Below w.heap.size w (set3k w1 (w.heap.size + 2) (.int .i64 0) (.string ⟨#[]⟩) (.int .i64 0))) := Lib.hid (k1.grown (grown_set3 _ _ _ _ _) k1.size (fun k hk => by cases hk; omega))
    unfold set3k at z HB
    obtain ⟨z0, z1, z2, _⟩ := three_facts z
    obtain ⟨_, _, _, f0, f1, f2⟩ := three_facts k4
    have HZ := Lib.hid (And.intro z0 (And.intro z1 z2))
    clear k1 k2 k3 k4 z z0 z1 z2
    go_wp2_with fail
    obtain ⟨z0, z1, z2⟩ := HZ.out
    refine bodyPost_ret (v := .tuple #[.agg #[.int .i64 0, .string ⟨#[]⟩, .int .i64 0], .bool false]) (by simp [results, Tryz.results19, go_sem, z0, z1, z2]) rfl ?_
    exact ⟨rfl, HB.out⟩
  obtain ⟨t0, _⟩ := one_fact k2
  obtain ⟨t1, t2, t3, t4, t5, _⟩ := five_facts k3
  have hc := (HR.out _ HB1.out).2.1
  clear k1 k2 k3 k4
  go_wp2_with fail
  refine hc.mono ?_
  rintro e w2 ⟨rfl, hb2⟩
  have HB2 := Lib.hid (HB1.out.trans (hb2.mono hz1))
  obtain ⟨k1, k2, k3, k4⟩ := HX.out _ HB2.out
  have hz2 := HB2.out.size
  clear hc hb2 t0 t1 t2 t3 t4 t5
  cases R2
  · obtain rfl := HNo.out (.inr (.inl rfl))
    have z := three_set k4 (.int .i64 0) (.string ⟨#[]⟩) (.int .i64 0)
    have HB : Hid (Below w.heap.size w (set3k w2 (w.heap.size + 2) (.int .i64 0) (.string ⟨#[]⟩) (.int .i64 0))) := Lib.hid (k1.grown (grown_set3 _ _ _ _ _) k1.size (fun k hk => by cases hk; omega))
    unfold set3k at z HB
    obtain ⟨z0, z1, z2, _⟩ := three_facts z
    obtain ⟨_, _, _, f0, f1, f2⟩ := three_facts k4
    have HZ := Lib.hid (And.intro z0 (And.intro z1 z2))
    clear k1 k2 k3 k4 z z0 z1 z2
    go_wp2_with fail
    obtain ⟨z0, z1, z2⟩ := HZ.out
    refine bodyPost_ret (v := .tuple #[.agg #[.int .i64 0, .string ⟨#[]⟩, .int .i64 0], .bool false]) (by simp [results, Tryz.results19, go_sem, z0, z1, z2]) rfl ?_
    exact ⟨rfl, HB.out⟩
  obtain ⟨t0, _⟩ := one_fact k2
  obtain ⟨t1, t2, t3, t4, t5, _⟩ := five_facts k3
  by_cases cv : ¬ hverb.data.toList = bGet
  · obtain rfl := HNo.out (.inr (.inr (.inl cv)))
    have b0 : (hverb.toList == [103, 101, 116]) = false := by rw [Lib.toList_data]; exact beq_eq_false_iff_ne.2 cv
    clear cv
    have z := three_set k4 (.int .i64 0) (.string ⟨#[]⟩) (.int .i64 0)
    have HB : Hid (Below w.heap.size w (set3k w2 (w.heap.size + 2) (.int .i64 0) (.string ⟨#[]⟩) (.int .i64 0))) := Lib.hid (k1.grown (grown_set3 _ _ _ _ _) k1.size (fun k hk => by cases hk; omega))
    unfold set3k at z HB
    obtain ⟨z0, z1, z2, _⟩ := three_facts z
    obtain ⟨_, _, _, f0, f1, f2⟩ := three_facts k4
    have HZ := Lib.hid (And.intro z0 (And.intro z1 z2))
    clear k1 k2 k3 k4 z z0 z1 z2
    go_wp2_with fail
    obtain ⟨z0, z1, z2⟩ := HZ.out
    refine bodyPost_ret (v := .tuple #[.agg #[.int .i64 0, .string ⟨#[]⟩, .int .i64 0], .bool false]) (by simp [results, Tryz.results19, go_sem, z0, z1, z2]) rfl ?_
    exact ⟨rfl, HB.out⟩
  have cv := Classical.not_not.1 cv
  have b0 : (hverb.toList == [103, 101, 116]) = true := by rw [Lib.toList_data, cv]; rfl
  have HV := Lib.hid cv
  have hc := (HR.out _ HB2.out).2.2
  clear k1 k2 k3 k4 cv
  go_wp2_with fail
  refine hc.mono ?_
  rintro e w3 ⟨rfl, hb3⟩
  have HB3 := Lib.hid (HB2.out.trans (hb3.mono hz2))
  obtain ⟨k1, k2, k3, k4⟩ := HX.out _ HB3.out
  have hz3 := HB3.out.size
  clear hc hb3 t0 t1 t2 t3 t4 t5
  by_cases c1 : r < 0
  · obtain rfl := HNo.out (.inr (.inr (.inr c1)))
    have z := three_set k4 (.int .i64 0) (.string ⟨#[]⟩) (.int .i64 0)
    have HB : Hid (Below w.heap.size w (set3k w3 (w.heap.size + 2) (.int .i64 0) (.string ⟨#[]⟩) (.int .i64 0))) := Lib.hid (k1.grown (grown_set3 _ _ _ _ _) k1.size (fun k hk => by cases hk; omega))
    unfold set3k at z HB
    obtain ⟨z0, z1, z2, _⟩ := three_facts z
    obtain ⟨_, _, _, f0, f1, f2⟩ := three_facts k4
    have HZ := Lib.hid (And.intro z0 (And.intro z1 z2))
    clear k1 k2 k3 k4 z z0 z1 z2
    go_wp2_with fail
    obtain ⟨z0, z1, z2⟩ := HZ.out
    refine bodyPost_ret (v := .tuple #[.agg #[.int .i64 0, .string ⟨#[]⟩, .int .i64 0], .bool false]) (by simp [results, Tryz.results19, go_sem, z0, z1, z2]) rfl ?_
    exact ⟨rfl, HB.out⟩
  · obtain rfl := HYes.out (by first | rfl | trivial) HV.out (by omega)
    have HC : Hid (CTell w (w.heap.size) (w.heap.size + 1) (.cells #[.slice va hs.length vc] 25 (0, 0)) (.cells #[.string hverb, .string target, .string host, .slice ua fs.length uc, .string body] 40 (0, 0)) (w.heap.size + 2) #[.int .i64 0, .string ⟨#[]⟩, .int .i64 0] 27 7 (fun _ => False) w3) := Lib.hid ⟨k1, k2, k3, fun _ => k4, by omega⟩
    clear k1 k2 k3 k4
    go_wp2_with fail
    refine wp_region_lastL (by kernel_rfl) 8 (by kernel_rfl) (by kernel_rfl) (by kernel_rfl)
      (fun u => { tmps := #[.agg #[.slice va hs.length vc], .agg #[.string hverb, .string target, .string host, .slice ua fs.length uc, .string body], .pointer (some ⟨w.heap.size, 0, none⟩), .pointer (some ⟨w.heap.size + 1, 0, none⟩), .pointer (some ⟨w.heap.size + 2, 0, none⟩), .bool false, .int .i64 r, .agg #[.slice va hs.length vc], .bool true, .bool false, .bool false, .agg #[.string hverb, .string target, .string host, .slice ua fs.length uc, .string body], .bool true, .bool false, .bool false, .bool false, .pointer (some ⟨w.heap.size + 1, 0, none⟩), .string hverb, .bool false, .bool false, undef, .agg #[.slice va hs.length vc], .pointer (some ⟨w.heap.size + 1, 2, none⟩), .string host, .int .i64 r, .int .i64 r, .bool (decide (r < 0)), undef, u 0, u 1, u 2, u 3, u 4, u 5, u 6], defers := [] })
      (fun L _ W => CTell w (w.heap.size) (w.heap.size + 1) (.cells #[.slice va hs.length vc] 25 (0, 0)) (.cells #[.string hverb, .string target, .string host, .slice ua fs.length uc, .string body] 40 (0, 0)) (w.heap.size + 2) #[.int .i64 0, .string ⟨#[]⟩, .int .i64 0] 27 7 L W)
      (RTell (w.heap.size + 2) #[.int .i64 r, .string target, .int .i64 (M : Int)] 27 7 [.int .i64 r, .pointer (some ⟨w.heap.size + 1, 1, none⟩), .string target, .pointer (some ⟨w.heap.size + 1, 3, none⟩), .slice ua fs.length uc, .int .i64 (M : Int), .agg #[.int .i64 r, .string target, .int .i64 (M : Int)], undef])
      (LeK 7 (some (w.heap.size + 2))) (fun _ => undef) HC.out.drew
      (fun i j v' w1 w2 _ _ hij hR hle => rtell_stay hij hR hle) ?_ ?_
    · intro i hi2 L u W k hk hL hC hd
      match i, hi2 with
      | 0, _ =>
        refine wpOp_step rfl (fun K hK => ?_)
        clear hd
        go_simp
        exact hK _ _ ⟨_, rfl, (rtell_eq (by decide)).2 rfl, lek_mk (by decide) (Below.refl _ _), hC.same⟩
      | 1, _ =>
        refine wpOp_step rfl (fun K hK => ?_)
        clear hd
        go_simp
        exact hK _ _ ⟨_, rfl, (rtell_eq (by decide)).2 rfl, lek_mk (by decide) (Below.refl _ _), hC.same⟩
      | 2, _ =>
        have e1 : u 1 = .pointer (some ⟨w.heap.size + 1, 1, none⟩) := (rtell_eq (by decide)).1 (hd 1 (dep_of (by kernel_rfl)))
        obtain ⟨_, x1, _⟩ := five_facts hC.c1
        refine wpOp_step rfl (fun K hK => ?_)
        clear hd
        go_simp
        exact hK _ _ ⟨_, by simp [upd, e1], (rtell_eq (by decide)).2 rfl, lek_mk (by decide) (Below.refl _ _), hC.same⟩
      | 3, _ =>
        refine wpOp_step rfl (fun K hK => ?_)
        clear hd
        go_simp
        exact hK _ _ ⟨_, rfl, (rtell_eq (by decide)).2 rfl, lek_mk (by decide) (Below.refl _ _), hC.same⟩
      | 4, _ =>
        have e3 : u 3 = .pointer (some ⟨w.heap.size + 1, 3, none⟩) := (rtell_eq (by decide)).1 (hd 3 (dep_of (by kernel_rfl)))
        obtain ⟨_, _, _, x3, _⟩ := five_facts hC.c1
        refine wpOp_step rfl (fun K hK => ?_)
        clear hd
        go_simp
        exact hK _ _ ⟨_, by simp [upd, e3], (rtell_eq (by decide)).2 rfl, lek_mk (by decide) (Below.refl _ _), hC.same⟩
      | 5, _ =>
        have e4 : u 4 = .slice ua fs.length uc := (rtell_eq (by decide)).1 (hd 4 (dep_of (by kernel_rfl)))
        refine wpOp_step rfl (fun K hK => ?_)
        clear hd
        go_simp
        refine (HM.out _ hC.bel).mono ?_
        rintro e w1 ⟨rfl, hb1⟩
        exact hK _ _ ⟨_, by simp [upd, e4], (rtell_eq (by decide)).2 rfl, lek_mk (by decide) hb1, hC.keep hb1⟩
      | 6, _ =>
        have e0 : u 0 = .int .i64 r := (rtell_eq (by decide)).1 (hd 0 (dep_of (by kernel_rfl)))
        have e2 : u 2 = .string target := (rtell_eq (by decide)).1 (hd 2 (dep_of (by kernel_rfl)))
        have e5 : u 5 = .int .i64 (M : Int) := (rtell_eq (by decide)).1 (hd 5 (dep_of (by kernel_rfl)))
        refine wpOp_step rfl (fun K hK => ?_)
        clear hd
        go_simp
        exact hK _ _ ⟨_, by simp [upd, e0, e2, e5], (rtell_eq (by decide)).2 rfl, lek_mk (by decide) (Below.refl _ _), hC.same⟩
      | 7, _ =>
        have e6 : u 6 = .agg #[.int .i64 r, .string target, .int .i64 (M : Int)] := (rtell_eq (by decide)).1 (hd 6 (dep_of (by kernel_rfl)))
        have hc := hC.cell hL
        obtain ⟨_, _, _, f0, f1, f2⟩ := three_facts hc
        refine wpOp_step rfl (fun K hK => ?_)
        clear hd
        go_simp
        exact hK _ _ ⟨undef, by simp [upd, e6], rtell_at.2 (three_set hc _ _ _), lek_at (grown_set3 _ _ _ _ _), hC.tell (grown_set3 _ _ _ _ _) (by omega) (by omega) (by omega)⟩
    · intro L u W k hk hC hd
      have hc := rtell_at.1 (hd 7 (by decide))
      obtain ⟨z0, z1, z2, _⟩ := three_facts hc
      have HB := Lib.hid hC.bel
      clear hC hd hc
      refine wpOp_step rfl (fun K hK => ?_)
      go_simp
      refine hK _ _ ?_
      clear hK K
      go_wp2_with fail
      refine bodyPost_ret (v := .tuple #[.agg #[.int .i64 r, .string target, .int .i64 (M : Int)], .bool true]) (by simp [results, Tryz.results19, go_sem, z0, z1, z2]) rfl ?_
      exact ⟨rfl, HB.out⟩
end Go.Proofs.YtncegikmpapldaaGreatDoor

-- from XKyD
/- Walks: what the laws on keys draw. -/
namespace Go.Proofs.YtncegikmpapldaaGreatDoor
open Go.RowKit

theorem hrow_formK {g : Nat} {w : World} {v : Value} {hs : List Hs} (h : HRowA g w v hs) : ∃ a c, v = .slice a hs.length c := by
  obtain ⟨a, c, rfl, _⟩ := h
  exact ⟨a, c, rfl⟩
theorem HRowA.setH {g : Nat} {w : World} {v : Value} {hs : List Hs} (h : HRowA g w v hs) {b : Nat} {ds : Array Value} {fr : Nat × Nat} (hb : w.heap[b]? = some (.cells ds 40 fr)) (j : Nat) (x : Value) : HRowA g (w.setCell ⟨b, j, none⟩ x) v hs := by
  obtain ⟨a, c, rfl, h1, h2, h3⟩ := h
  refine ⟨a, c, rfl, h1, h2, fun i y hj => ?_⟩
  obtain ⟨r, u, cs, k1, k2, k3, k4, k5, k6⟩ := h3 i y hj
  exact ⟨r, u, cs, k1, k2, (heap_setCell_other w ⟨b, j, none⟩ r _ (other_block k3 hb (by decide))).trans k3, k4, k5.set hb (by decide) j x, k6⟩
theorem HRowA.set5 {g : Nat} {w : World} {v : Value} {hs : List Hs} (h : HRowA g w v hs) {b : Nat} {x0 x1 x2 x3 x4 : Value} (hb : w.heap[b]? = some (.cells #[x0, x1, x2, x3, x4] 40 (0, 0))) (a0 a1 a2 a3 a4 : Value) : HRowA g (set5 w b a0 a1 a2 a3 a4) v hs := by
  have h1 := heap_setCell_same w b 0 _ _ a0 hb
  have h2 := heap_setCell_same _ b 1 _ _ a1 h1
  have h3 := heap_setCell_same _ b 2 _ _ a2 h2
  have h4 := heap_setCell_same _ b 3 _ _ a3 h3
  exact ((((h.setH hb 0 a0).setH h1 1 a1).setH h2 2 a2).setH h3 3 a3).setH h4 4 a4
/-- Two results told, in whatever order. -/
theorem two_told {g r : Nat} {W : World} {hs : List Hs} {a' : Option Addr} {c' : Nat} {hd : Hd} {a2 : Option Addr} {c2 B : Nat} {w : World}
    (r0 : W.heap[r]? = some (.cells #[.slice none 0 0] 25 (0, 0))) (r1 : W.heap[r + 1]? = some (.cells #[.string ⟨#[]⟩, .string ⟨#[]⟩, .string ⟨#[]⟩, .slice none 0 0, .string ⟨#[]⟩] 40 (0, 0)))
    (hrow : HRowA g W (.slice a' hs.length c') hs) (ho : W.ownsRow B 50 2 (.slice a2 hd.fs.length c2) hd.fs.length (fcells hd.fs)) (hrB : r + 1 < B) (hb : Below w.heap.size w W) (hr : w.heap.size ≤ r) :
    ∀ W', (W' = set5 (W.setCell ⟨r, 0, none⟩ (.slice a' hs.length c')) (r + 1) (.string hd.verb) (.string hd.target) (.string hd.host) (.slice a2 hd.fs.length c2) (.string hd.body) ∨ W' = (set5 W (r + 1) (.string hd.verb) (.string hd.target) (.string hd.host) (.slice a2 hd.fs.length c2) (.string hd.body)).setCell ⟨r, 0, none⟩ (.slice a' hs.length c')) →
      W'.heap[r]? = some (.cells #[.slice a' hs.length c'] 25 (0, 0)) ∧ W'.heap[r + 1]? = some (.cells #[.string hd.verb, .string hd.target, .string hd.host, .slice a2 hd.fs.length c2, .string hd.body] 40 (0, 0)) ∧ HRow W' (.slice a' hs.length c') hs ∧ FRow W' (.slice a2 hd.fs.length c2) hd.fs ∧ Below w.heap.size w W' := by
  have q0 := heap_setCell_same W r 0 _ _ (.slice a' hs.length c') r0
  have q1 := five_set r1 (.string hd.verb) (.string hd.target) (.string hd.host) (.slice a2 hd.fs.length c2) (.string hd.body)
  have e1 : (W.setCell ⟨r, 0, none⟩ (.slice a' hs.length c')).heap[r + 1]? = some (.cells #[.string ⟨#[]⟩, .string ⟨#[]⟩, .string ⟨#[]⟩, .slice none 0 0, .string ⟨#[]⟩] 40 (0, 0)) := (heap_setCell_other W ⟨r, 0, none⟩ (r + 1) _ (by simp)).trans r1
  have e0 : (set5 W (r + 1) (.string hd.verb) (.string hd.target) (.string hd.host) (.slice a2 hd.fs.length c2) (.string hd.body)).heap[r]? = some (.cells #[.slice none 0 0] 25 (0, 0)) := (set5_other (by omega)).trans r0
  have hB1 : r < B := by omega
  rintro W' (rfl | rfl)
  · refine ⟨(set5_other (by omega)).trans q0, five_set e1 _ _ _ _ _, ((hrow.set r0 0 _).set5 e1 _ _ _ _ _).row, ?_, ?_⟩
    · refine frow_own (B := B) (T := 50) (by omega) ?_
      unfold set5
      exact own_setk (own_setk (own_setk (own_setk (own_setk (own_setk ho hB1 _) hrB _) hrB _) hrB _) hrB _) hrB _
    · exact (hb.setCell (p := ⟨r, 0, none⟩) hr _).grown (grown_set5 _ _ _ _ _ _ _) (hb.setCell (p := ⟨r, 0, none⟩) hr _).size (fun k hk => by cases hk; omega)
  · refine ⟨heap_setCell_same _ r 0 _ _ _ e0, (heap_setCell_other _ ⟨r, 0, none⟩ (r + 1) _ (by simp)).trans q1, ((hrow.set5 r1 _ _ _ _ _).set e0 0 _).row, ?_, ?_⟩
    · refine frow_own (B := B) (T := 50) (by omega) ?_
      unfold set5
      exact own_setk (own_setk (own_setk (own_setk (own_setk (own_setk ho hrB _) hrB _) hrB _) hrB _) hrB _) hB1 _
    · exact (hb.grown (grown_set5 _ _ _ _ _ _ _) hb.size (fun k hk => by cases hk; omega)).setCell (p := ⟨r, 0, none⟩) hr _
end Go.Proofs.YtncegikmpapldaaGreatDoor

-- from XKyDp
/- Walks: what the laws on requests and keys draw. -/
namespace Go.Proofs.YtncegikmpapldaaGreatDoor
open Go.RowKit

theorem own_nc {w : World} {B : Nat} {e : TypeId} {size : Nat} {a : Option Addr} {n c m : Nat} {xs : List Value} (h : w.ownsRow B e size (.slice a n c) m xs) : a = none → c = 0 := by
  intro ha
  subst ha
  rcases h.2 with ⟨h, _⟩ | ⟨g, cap, cur, h, _⟩
  · cases h; rfl
  · cases h
/-- Houses and a request, drawn. -/
def DrawnCH (w : World) (e : Ending) (w' : World) : Prop :=
  ∃ (hs : List Hs) (h : Hd) (a : Option Addr) (c : Nat) (a2 : Option Addr) (c2 : Nat), e = .returned (.tuple #[.agg #[.slice a hs.length c], .agg #[.string h.verb, .string h.target, .string h.host, .slice a2 h.fs.length c2, .string h.body]]) ∧ HRow w' (.slice a hs.length c) hs ∧ (∀ x ∈ hs, HSm3 x) ∧ hs.length ≤ 5 ∧ FRow w' (.slice a2 h.fs.length c2) h.fs ∧ FOk h.fs 40 ∧ h.verb.size ≤ 50 ∧ h.target.size ≤ 50 ∧ h.host.size ≤ 50 ∧ h.body.size ≤ 50 ∧ h.fs.length ≤ 12 ∧ (a2 = none → c2 = 0) ∧ Below w.heap.size w w'
theorem DrawnCH.drew {w w' : World} {e : Ending} (h : DrawnCH w e w') : DrawnCH w e w'.drew := by
  obtain ⟨hs, h, a, c, a2, c2, h1, h2, h3, h4, h5, h6⟩ := h
  have hd : Below w'.heap.size w' w'.drew := (Below.refl _ _).drew
  exact ⟨hs, h, a, c, a2, c2, h1, h2.below (Nat.le_refl _) hd, h3, h4, h5.below (Nat.le_refl _) hd, h6.1, h6.2.1, h6.2.2.1, h6.2.2.2.1, h6.2.2.2.2.1, h6.2.2.2.2.2.1, h6.2.2.2.2.2.2.1, h6.2.2.2.2.2.2.2.drew⟩

set_option maxRecDepth 100000 in
set_option maxHeartbeats 3200000 in
theorem draw_keyof (a : Option Addr) (len cap : Nat) (zs : List Int) (w : World) (h : IsRow .u8 w a len cap zs) :
    Calls Tryz.prog 17 #[.slice a len cap] w (DrawnCH w) := by
  obtain ⟨hzA, hbA, hA0, hA1⟩ := box2_new w (.cells #[.slice none 0 0] 25) (.cells #[.string ⟨#[]⟩, .string ⟨#[]⟩, .string ⟨#[]⟩, .slice none 0 0, .string ⟨#[]⟩] 40)
  obtain ⟨wA, hwA⟩ : ∃ wA, wA = (w.alloc (.cells #[.slice none 0 0] 25)).alloc (.cells #[.string ⟨#[]⟩, .string ⟨#[]⟩, .string ⟨#[]⟩, .slice none 0 0, .string ⟨#[]⟩] 40) := ⟨_, rfl⟩
  rw [← hwA] at hzA hbA hA0 hA1
  have h' := isrow_below h hbA
  have HW := Lib.hid hwA
  clear hwA h
  go_enter Tryz.func17, Tryz.ntmps17
  go_wp2_with fail
  rw [← HW.out]
  refine (open_any a len cap zs _ h').mono ?_
  rintro e w1 ⟨g, rfl, hr1, hb1⟩
  clear h'
  have hgA := hr1.1
  have r0 := (hb1.block w.heap.size (by omega)).trans hA0
  have r1 := (hb1.block (w.heap.size + 1) (by omega)).trans hA1
  have hb01 := hbA.trans (hb1.mono (by omega))
  have hz1 := hb1.size
  clear hb1 hbA hA0 hA1
  go_wp2_with fail
  refine (cfgor_any g _ 0 20 _ (by omega) (by omega) hr1).mono ?_
  rintro e w2 ⟨hs, v, rfl, hrow, hok, hl, hd2⟩
  obtain ⟨a', c', rfl⟩ := hrow_formK hrow
  have hrl := hr1.lt
  have hz2 := hd2.2.size
  obtain ⟨w2b, hw2b⟩ : ∃ x, x = w2.alloc (.cells #[.slice a' hs.length c'] 25) := ⟨_, rfl⟩
  have hs2b : w2b.heap.size = w2.heap.size + 1 := by rw [hw2b]; simp
  have hc2 : w2b.heap[w2.heap.size]? = some (.cells #[.slice a' hs.length c'] 25 (0, 0)) := by rw [hw2b]; exact heap_alloc_new w2 _
  have hg2 : w1.grownBy w2b (some g) := by rw [hw2b]; exact grown_trans hd2.2 (World.grownBy_alloc _ _ _)
  have hr2 : RdAt w2b wA.heap.size g (0 + 400) := by rw [hw2b]; exact hd2.1.alloc _
  have hrow2 : HRowA g w2b (.slice a' hs.length c') hs := by rw [hw2b]; exact hrow.keep (World.grownBy_alloc _ _ _)
  have HW2 := Lib.hid hw2b
  clear hw2b hd2 hrow hr1
  go_wp2_with fail
  rw [← HW2.out]
  refine (head_any g _ (0 + 400) 14 _ (by omega) (by omega) (by omega) hr2).mono ?_
  rintro e w3 ⟨hd, v2, rfl, ho, hok2, b1, b2, b3, b4, hn, hd3⟩
  obtain ⟨a2, c2, rfl⟩ := own_len2 ho
  have hnc := own_nc ho
  have hz3 := hd3.2.size
  obtain ⟨w3b, hw3b⟩ : ∃ x, x = w3.alloc (.cells #[.string hd.verb, .string hd.target, .string hd.host, .slice a2 hd.fs.length c2, .string hd.body] 40) := ⟨_, rfl⟩
  have hs3b : w3b.heap.size = w3.heap.size + 1 := by rw [hw3b]; simp
  have hh3 : w3b.heap[w3.heap.size]? = some (.cells #[.string hd.verb, .string hd.target, .string hd.host, .slice a2 hd.fs.length c2, .string hd.body] 40 (0, 0)) := by rw [hw3b]; exact heap_alloc_new w3 _
  have hg3 : w2b.grownBy w3b (some g) := by rw [hw3b]; exact grown_trans hd3.2 (World.grownBy_alloc _ _ _)
  have hr3 : RdAt w3b wA.heap.size g (0 + 400 + 1000) := by rw [hw3b]; exact hd3.1.alloc _
  have ho3 : w3b.ownsRow w2b.heap.size 50 2 (.slice a2 hd.fs.length c2) hd.fs.length (fcells hd.fs) := by rw [hw3b]; exact own_below ho ((Below.refl _ _).alloc (Nat.le_refl _) _)
  have hlt3 := ho.lt
  have HW3 := Lib.hid hw3b
  clear hw3b hd3 ho hr2
  go_wp2_with fail
  rw [← HW3.out]
  refine (pick_any g 2 _ (0 + 400 + 1000) _ (by omega) (by omega) hr3).mono ?_
  rintro e w4 ⟨k, rfl, hk, hd4⟩
  have hg4 := grown_trans (grown_trans hg2 hg3) hd4.2
  have hz4 := hd4.2.size
  have s0 := block_keep (by omega) r0 hg4
  have s1 := block_keep (by omega) r1 hg4
  have sc := block_keep (by omega) hc2 (grown_trans hg3 hd4.2)
  have sh := block_keep (by omega) hh3 hd4.2
  have hrow4 := (hrow2.keep hg3).keep hd4.2
  have ho4 := ho3.kept hd4.2 (by
    cases hv : (Value.slice a2 hd.fs.length c2).ownBlock with
    | none => exact .inl rfl
    | some b => exact .inr (fun e => by have := (hlt3 b hv).1; injection e with e; omega))
  have hb4 : Below w.heap.size w w4 := hb01.grown hg4 hb01.size (fun k hk => by cases hk; omega)
  clear hg2 hg3 hg4 hd4 hr3 hh3 hc2 hrow2 ho3 r0 r1 hb01
  have FIN : ∀ (q : Hd) (W : World), q.fs = hd.fs → q.verb.size ≤ 50 → q.target.size ≤ 50 → q.host.size ≤ 50 → q.body.size ≤ 50 → W.heap[w.heap.size]? = some (.cells #[.slice none 0 0] 25 (0, 0)) → W.heap[w.heap.size + 1]? = some (.cells #[.string ⟨#[]⟩, .string ⟨#[]⟩, .string ⟨#[]⟩, .slice none 0 0, .string ⟨#[]⟩] 40 (0, 0)) → HRowA g W (.slice a' hs.length c') hs → W.ownsRow w2b.heap.size 50 2 (.slice a2 hd.fs.length c2) hd.fs.length (fcells hd.fs) → Below w.heap.size w W →
      Hid (∀ W', (W' = set5 (W.setCell ⟨w.heap.size, 0, none⟩ (.slice a' hs.length c')) (w.heap.size + 1) (.string q.verb) (.string q.target) (.string q.host) (.slice a2 hd.fs.length c2) (.string q.body) ∨ W' = (set5 W (w.heap.size + 1) (.string q.verb) (.string q.target) (.string q.host) (.slice a2 hd.fs.length c2) (.string q.body)).setCell ⟨w.heap.size, 0, none⟩ (.slice a' hs.length c')) → W'.heap[w.heap.size]? = some (.cells #[.slice a' hs.length c'] 25 (0, 0)) ∧ W'.heap[w.heap.size + 1]? = some (.cells #[.string q.verb, .string q.target, .string q.host, .slice a2 hd.fs.length c2, .string q.body] 40 (0, 0)) ∧ DrawnCH w (.returned (.tuple #[.agg #[.slice a' hs.length c'], .agg #[.string q.verb, .string q.target, .string q.host, .slice a2 hd.fs.length c2, .string q.body]])) W') := fun q W hqf q1 q2 q3 q4 x0 x1 x2 x3 x4 => Lib.hid fun W' hW' => by
    obtain ⟨qv, qt, qh, qf, qb⟩ := q
    dsimp only at hqf
    subst hqf
    obtain ⟨y0, y1, y2, y3, y4⟩ := two_told (hd := ⟨qv, qt, qh, hd.fs, qb⟩) x0 x1 x2 x3 (by omega) x4 (Nat.le_refl _) W' hW'
    exact ⟨y0, y1, hs, ⟨qv, qt, qh, hd.fs, qb⟩, a', c', a2, c2, rfl, y2, hok, hl, y3, hok2, q1, q2, q3, q4, hn, hnc, y4⟩
  by_cases hk0 : k = 0
  · obtain ⟨W, hW⟩ : ∃ W, W = (w4.setCell ⟨w3.heap.size, 0, none⟩ (.string ⟨#[103, 101, 116]⟩)).setCell ⟨w3.heap.size, 4, none⟩ (.string ⟨#[]⟩) := ⟨_, rfl⟩
    have n0 : w.heap.size ≠ w3.heap.size := by omega
    have n1 : w.heap.size + 1 ≠ w3.heap.size := by omega
    have nc : w2.heap.size ≠ w3.heap.size := by omega
    obtain ⟨_, _, _, _, _, f0, _⟩ := five_facts sh
    have sh1 := heap_setCell_same w4 w3.heap.size 0 _ _ (.string ⟨#[103, 101, 116]⟩) sh
    obtain ⟨_, _, _, _, _, _, _, _, _, f4⟩ := five_facts sh1
    have x0 : W.heap[w.heap.size]? = some (.cells #[.slice none 0 0] 25 (0, 0)) := (by rw [hW]; exact (heap_setCell_other _ ⟨w3.heap.size, 4, none⟩ _ _ n0).trans (heap_setCell_other w4 ⟨w3.heap.size, 0, none⟩ _ _ n0) : W.heap[w.heap.size]? = w4.heap[w.heap.size]?).trans s0
    have x1 : W.heap[w.heap.size + 1]? = some (.cells #[.string ⟨#[]⟩, .string ⟨#[]⟩, .string ⟨#[]⟩, .slice none 0 0, .string ⟨#[]⟩] 40 (0, 0)) := (by rw [hW]; exact (heap_setCell_other _ ⟨w3.heap.size, 4, none⟩ _ _ n1).trans (heap_setCell_other w4 ⟨w3.heap.size, 0, none⟩ _ _ n1) : W.heap[w.heap.size + 1]? = w4.heap[w.heap.size + 1]?).trans s1
    have xc : W.heap[w2.heap.size]? = some (.cells #[.slice a' hs.length c'] 25 (0, 0)) := (by rw [hW]; exact (heap_setCell_other _ ⟨w3.heap.size, 4, none⟩ _ _ nc).trans (heap_setCell_other w4 ⟨w3.heap.size, 0, none⟩ _ _ nc) : W.heap[w2.heap.size]? = w4.heap[w2.heap.size]?).trans sc
    have xh : W.heap[w3.heap.size]? = some (.cells #[.string ⟨#[103, 101, 116]⟩, .string hd.target, .string hd.host, .slice a2 hd.fs.length c2, .string ⟨#[]⟩] 40 (0, 0)) := by rw [hW]; exact heap_setCell_same _ w3.heap.size 4 _ _ (.string ⟨#[]⟩) sh1
    have hrow5 : HRowA g W (.slice a' hs.length c') hs := by rw [hW]; exact (hrow4.setH sh 0 _).setH sh1 4 _
    have ho5 : W.ownsRow w2b.heap.size 50 2 (.slice a2 hd.fs.length c2) hd.fs.length (fcells hd.fs) := ho4.kept (by rw [hW]; exact grown_setk (grown_setk (World.grownBy.refl _ (some w3.heap.size)))) (by
      cases hv : (Value.slice a2 hd.fs.length c2).ownBlock with
      | none => exact .inl rfl
      | some b => exact .inr (fun e => by have := (hlt3 b hv).2; injection e with e; omega))
    have hb5 : Below w.heap.size w W := by rw [hW]; exact (hb4.setCell (p := ⟨w3.heap.size, 0, none⟩) (by show w.heap.size ≤ w3.heap.size; omega) _).setCell (p := ⟨w3.heap.size, 4, none⟩) (by show w.heap.size ≤ w3.heap.size; omega) _
    have hF := FIN ⟨⟨#[103, 101, 116]⟩, hd.target, hd.host, hd.fs, ⟨#[]⟩⟩ W rfl (show (3 : Nat) ≤ 50 by decide) b2 b3 (show (0 : Nat) ≤ 50 by decide) x0 x1 hrow5 ho5 hb5
    dsimp only at hF
    have hF1 := Lib.hid (hF.out _ (.inl rfl))
    obtain ⟨k0, p0⟩ := one_factC x0
    obtain ⟨kc, _⟩ := one_factC xc
    obtain ⟨h0, h1, h2, h3, h4, _⟩ := five_facts xh
    obtain ⟨h5, h6, h7, h8, h9, _⟩ := five_facts ((heap_setCell_other W ⟨w.heap.size, 0, none⟩ w3.heap.size (.slice a' hs.length c') (by show w3.heap.size ≠ w.heap.size; omega)).trans xh)
    obtain ⟨_, _, _, _, _, y0, y1, y2, y3, y4⟩ := five_facts ((heap_setCell_other W ⟨w.heap.size, 0, none⟩ (w.heap.size + 1) (.slice a' hs.length c') (by show w.heap.size + 1 ≠ w.heap.size; omega)).trans x1)
    obtain ⟨z0, _⟩ := one_factC hF1.out.1
    obtain ⟨z1, z2, z3, z4, z5, _⟩ := five_facts hF1.out.2.1
    unfold set5 at z0 z1 z2 z3 z4 z5 hF1
    have HZ := Lib.hid (And.intro z0 (And.intro z1 (And.intro z2 (And.intro z3 (And.intro z4 z5)))))
    have HWx := Lib.hid hW
    clear z0 z1 z2 z3 z4 z5 hF hW FIN x0 x1 xc xh hrow5 ho5 hb5 s0 s1 sc sh sh1 hrow4 ho4 hb4 hok hl hok2 b1 b2 b3 b4 hn hnc hlt3 n0 n1 nc
    subst hk0
    go_wp2_with fail
    rw [← HWx.out]
    clear f0 f4
    go_region
    all_goals
      go_wp2
      obtain ⟨z0, z1, z2, z3, z4, z5⟩ := HZ.out
      exact bodyPost_ret (v := .tuple #[.agg #[.slice a' hs.length c'], .agg #[.string ⟨#[103, 101, 116]⟩, .string hd.target, .string hd.host, .slice a2 hd.fs.length c2, .string ⟨#[]⟩]]) (by simp [results, Tryz.results17, go_sem, z0, z1, z2, z3, z4, z5]) rfl hF1.out.2.2.drew
  · obtain ⟨W, hW⟩ : ∃ W, W = w4 := ⟨_, rfl⟩
    have x0 := s0; have x1 := s1; have xc := sc; have xh := sh; have hrow5 := hrow4; have ho5 := ho4; have hb5 := hb4
    rw [← hW] at x0 x1 xc xh hrow5 ho5 hb5
    have hF := FIN hd W rfl b1 b2 b3 b4 x0 x1 hrow5 ho5 hb5
    have n0 := hW; have n1 := hW; have nc := hW
    have hF1 := Lib.hid (hF.out _ (.inl rfl))
    obtain ⟨k0, p0⟩ := one_factC x0
    obtain ⟨kc, _⟩ := one_factC xc
    obtain ⟨h0, h1, h2, h3, h4, _⟩ := five_facts xh
    obtain ⟨h5, h6, h7, h8, h9, _⟩ := five_facts ((heap_setCell_other W ⟨w.heap.size, 0, none⟩ w3.heap.size (.slice a' hs.length c') (by show w3.heap.size ≠ w.heap.size; omega)).trans xh)
    obtain ⟨_, _, _, _, _, y0, y1, y2, y3, y4⟩ := five_facts ((heap_setCell_other W ⟨w.heap.size, 0, none⟩ (w.heap.size + 1) (.slice a' hs.length c') (by show w.heap.size + 1 ≠ w.heap.size; omega)).trans x1)
    obtain ⟨z0, _⟩ := one_factC hF1.out.1
    obtain ⟨z1, z2, z3, z4, z5, _⟩ := five_facts hF1.out.2.1
    unfold set5 at z0 z1 z2 z3 z4 z5 hF1
    have HZ := Lib.hid (And.intro z0 (And.intro z1 (And.intro z2 (And.intro z3 (And.intro z4 z5)))))
    have HWx := Lib.hid hW
    clear z0 z1 z2 z3 z4 z5 hF hW FIN x0 x1 xc xh hrow5 ho5 hb5 s0 s1 sc sh hrow4 ho4 hb4 hok hl hok2 b1 b2 b3 b4 hn hnc hlt3 n0 n1 nc
    obtain rfl : k = 1 := by
      have hm : max (2 : Int) 1 = 2 := by decide
      omega
    go_wp2_with fail
    rw [← HWx.out]
    go_region
    all_goals
      go_wp2
      obtain ⟨z0, z1, z2, z3, z4, z5⟩ := HZ.out
      exact bodyPost_ret (v := .tuple #[.agg #[.slice a' hs.length c'], .agg #[.string hd.verb, .string hd.target, .string hd.host, .slice a2 hd.fs.length c2, .string hd.body]]) (by simp [results, Tryz.results17, go_sem, z0, z1, z2, z3, z4, z5]) rfl hF1.out.2.2.drew
end Go.Proofs.YtncegikmpapldaaGreatDoor

-- from XKyM
/- Walks: a row of fields appended to one of the call's own, nil or not; a request with one field more. -/
namespace Go.Proofs.YtncegikmpapldaaGreatDoor
open Go.RowKit

theorem wpList_append_opt {P : Program} {w : World} {ops : Array Oper} {rest : List Oper} {o : Oper} {a : Act} {Q : Exit → Act → World → Prop} (hgd : o.guard = none) (s x : Operand) (t : TypeId)
    (ho : o.op = .call { callee := .builtin .append, args := #[s, x], argTypes := #[t, t] })
    (base : Nat) (e : TypeId) (i : TypeInfo) (z : Value) (size bytes : Nat) (ht : P.underlying t = some (.slice e)) (hi : P.info? e = some i) (hz : i.zero = some z)
    (hsize : i.size = size) (hby : i.bytes = bytes) (hzs : z.cells.size = size) (hsz : 0 < size)
    (v : Value) (n : Nat) (xs : List Value) (hs : a.eval s = v) (hown : w.ownsRow base e size v n xs)
    (ao : Option Addr) (m c : Nat) (news : List Value) (hx : a.eval x = .slice ao m c) (hl : news.length = m * size) (hnone : ao = none → m = 0 ∧ c = 0)
    (hnews : ∀ ad, ao = some ad → ∀ j u, news[j]? = some u → w.cell? (ad.add j) = some u) (h1 : ∀ u ∈ news, u.oneCell' = true)
    (h63 : n + m ≤ maxLen) (hbytes : (n + m) * bytes ≤ 140737488355328) (hbase : base ≤ w.heap.size)
    (h : ∀ v' w', w'.ownsRow base e size v' (n + m) (xs ++ news) → w.grownBy w' v.ownBlock → wpList P ops Q rest (a.put o.dst v') w') : wpList P ops Q (o :: rest) a w := by
  cases ao with
  | some ad => exact wpList_append_own w hgd s x t ho base e i z size bytes ht hi hz hsize hby hzs hsz v n xs hs hown ad m c news hx hl (hnews ad rfl) h1 h63 hbytes hbase fun v' w' h2 h3 _ => h v' w' h2 h3
  | none =>
    obtain ⟨rfl, rfl⟩ := hnone rfl
    obtain rfl : news = [] := List.eq_nil_of_length_eq_zero (by simpa using hl)
    refine wpList_append_own_none hgd s x t ho base e i size ht hi v n xs hs hown hx (h v w ?_ (World.grownBy.refl _ _))
    simpa using hown
theorem fcells_oneM (fs : List Fd) : ∀ u ∈ fcells fs, u.oneCell' = true := by
  intro u hu
  obtain ⟨f, _, hf⟩ := List.mem_flatMap.1 hu
  simp at hf
  rcases hf with rfl | rfl <;> rfl
theorem frow_cells {w : World} {ad : Addr} {n c : Nat} {fs : List Fd} (h : FRow w (.slice (some ad) n c) fs) : ∀ j u, (fcells fs)[j]? = some u → w.cell? (ad.add j) = some u := by
  obtain ⟨a, c', he, _, _, h3⟩ := h
  cases he
  intro j u hu
  have hj : j < fs.length * 2 := by rw [← fcells_len]; exact (List.getElem?_eq_some_iff.1 hu).1
  obtain ⟨k, e⟩ : ∃ k, j = k * 2 ∨ j = k * 2 + 1 := ⟨j / 2, by omega⟩
  have hk : k < fs.length := by omega
  obtain ⟨f, hf⟩ : ∃ f, fs[k]? = some f := ⟨_, List.getElem?_eq_getElem hk⟩
  obtain ⟨b, o, he, _, c1, c2⟩ := h3 k f hf
  cases he
  obtain ⟨q1, q2⟩ := fcells_at hf
  rw [Addr.add_lit]
  rcases e with rfl | rfl
  · rw [q1] at hu
    cases hu
    simpa using c1
  · rw [q2] at hu
    cases hu
    simpa [Nat.add_assoc] using c2
def bXy : ByteArray := ⟨#[120, 45, 121]⟩
def bZ : ByteArray := ⟨#[122]⟩
theorem keyof_more (hs : List Hs) (h : Hd) (x y : ByteArray) (hx : x ≠ bAccept) (h0 : hedB h = true) (h1 : hedB ⟨h.verb, h.target, h.host, h.fs ++ [(x, y)], h.body⟩ = true) :
    keyOf hs ⟨h.verb, h.target, h.host, h.fs ++ [(x, y)], h.body⟩ = keyOf hs h := by
  have hb : askB hs ⟨h.verb, h.target, h.host, h.fs ++ [(x, y)], h.body⟩ bGet = askB hs h bGet := by unfold askB; rw [h0, h1]
  unfold keyOf
  rw [hb]
  dsimp only
  rw [cod_back _ _ _ hx]
theorem HdSz.more {h : Hd} (hz : HdSz h) {x y : ByteArray} (hx : x.size ≤ 40) (hy : y.size ≤ 40) (hl : h.fs.length ≤ 12) : HdSz ⟨h.verb, h.target, h.host, h.fs ++ [(x, y)], h.body⟩ :=
  ⟨hz.verb, hz.target, hz.host, hz.body, fun f hf => by
    rcases List.mem_append.1 hf with hf | hf
    · exact hz.fs f hf
    · obtain rfl := List.mem_singleton.1 hf
      exact ⟨Nat.le_trans hx (by decide), Nat.le_trans hy (by decide)⟩, by show (h.fs ++ [(x, y)]).length ≤ _; rw [List.length_append]; show h.fs.length + 1 ≤ _; omega⟩
end Go.Proofs.YtncegikmpapldaaGreatDoor

-- from XLaidN
/- What the rows' lists of the number functions' variables give. -/
namespace Go.Proofs.YtncegikmpapldaaGreatDoor
open Go.RowKit

theorem gTabNT : (Tryz.prog.globals[5]?).map (·.type) = some 204 := by kernel_rfl
theorem cells20 : Tryz.prog.cellsOf 204 = 20 := by kernel_rfl
theorem cells64 : Tryz.prog.cellsOf 174 = 1 := by kernel_rfl
theorem tab_of_head {W : World} {rest : List (String × DataW Unit)} (h : laidMet Tryz.prog (("internal/strconv.uint64pow10", Rows.laid_internal_strconv_uint64pow10) :: rest) W) : Tab W :=
  Lib.tabIs_of_head (rest := rest) gTabN gTabNT Tryz.underlying204 Tryz.underlying174 cells64 cells20 (by
    rw [show Lib.tabData .u64 Lib.pow10Tab = Rows.laid_internal_strconv_uint64pow10 from by kernel_rfl]; exact h)

theorem gErrST : (Tryz.prog.globals[2]?).map (·.type) = some 110 := by kernel_rfl
theorem gErrRT : (Tryz.prog.globals[3]?).map (·.type) = some 110 := by kernel_rfl
theorem cellsES : Tryz.prog.cellsOf 202 = 1 := by kernel_rfl
theorem cellsStr : Tryz.prog.cellsOf 9 = 1 := by kernel_rfl
theorem starES : "*" ++ "errors.errorString" = "*errors.errorString" := by decide
theorem rowES (u : TypeId) (h : Tryz.prog.typeName? 3 u = some "*errors.errorString") : u = 200 :=
  typeName_ptr_named (nm := "errors.errorString") (by rw [starES]; kernel_rfl) (by kernel_rfl) (by decide) u (by rw [starES]; exact h)
theorem errs_of_heads {W : World} {rest : List (String × DataW Unit)} (h : laidMet Tryz.prog (("strconv.ErrRange", Rows.laid_strconv_ErrRange) :: ("strconv.ErrSyntax", Rows.laid_strconv_ErrSyntax) :: rest) W) : Errs W := by
  obtain ⟨a0, s0, hv0, -, -, -⟩ := laid_sentinel h gErrR gErrRT Tryz.underlying110 rowES Tryz.underlying200 Tryz.underlying202 rfl rfl Tryz.underlying9 cellsES cellsStr
  obtain ⟨a1, s1, hv1, -, -, -⟩ := laid_sentinel h.tail gErrS gErrST Tryz.underlying110 rowES Tryz.underlying200 Tryz.underlying202 rfl rfl Tryz.underlying9 cellsES cellsStr
  exact ⟨_, _, _, _, hv1, hv0⟩

theorem i64_of_wf {n : Int} (h : (Lit.int .i64 n).wf = true) : -9223372036854775808 ≤ n ∧ n ≤ 9223372036854775807 := by
  simpa [Lit.wf, IntKind.min, IntKind.max, IntKind.signed, IntKind.bits] using h
namespace Lw
end Lw
end Go.Proofs.YtncegikmpapldaaGreatDoor

-- from XKyN
/- Pure laws on keys: the key of a request is ok; another name of its house and another field turn it not. -/
namespace Go.Proofs.YtncegikmpapldaaGreatDoor
open Go.RowKit

def bCookie : ByteArray := ⟨#[99, 111, 111, 107, 105, 101]⟩
theorem codOf_lt (fs : List Fd) : codOfF fs < 8 := by
  unfold codOfF
  split
  · split
    · exact maskL_lt _
    · decide
  · decide
theorem keyof_yes {hs : List Hs} {h : Hd} (ha : askB hs h bGet = true) : keyOf hs h = (⟨routeI hs h.host, h.target, codOfF h.fs⟩, true) := by unfold keyOf; rw [if_pos ha]
theorem keyof_no {hs : List Hs} {h : Hd} (ha : askB hs h bGet = false) : keyOf hs h = (noKy, false) := by unfold keyOf; rw [if_neg (by rw [ha]; decide)]
theorem keyof_ok {hs : List Hs} {h : Hd} (ha : askB hs h bGet = true) : keyB hs ⟨routeI hs h.host, h.target, codOfF h.fs⟩ = true := by
  obtain ⟨r0, hv, hh⟩ := get_iff.1 ha
  obtain ⟨hc, r1⟩ := route_lt r0
  have hl := codOf_lt h.fs
  unfold keyB placeB
  simp only [Bool.and_eq_true, decide_eq_true_eq]
  exact ⟨hc, ⟨r0, r1⟩, (hedB_iff.1 hh).target, by omega, by omega⟩
theorem keyof_name {hs : List Hs} {h : Hd} (ha : askB hs h bGet = true) {x : Hs} (hx : hs[(routeI hs h.host).toNat]? = some x) {s : ByteArray} (hs' : s ∈ x.names) (y : ByteArray) :
    keyOf hs ⟨h.verb, h.target, s, (bCookie, y) :: h.fs, h.body⟩ = if hedB ⟨h.verb, h.target, s, (bCookie, y) :: h.fs, h.body⟩ = true then (⟨routeI hs h.host, h.target, codOfF h.fs⟩, true) else (noKy, false) := by
  obtain ⟨r0, hv, hh⟩ := get_iff.1 ha
  obtain ⟨hc, r1⟩ := route_lt r0
  have hr : routeI hs s = routeI hs h.host := (route_at hc hx hs').trans (by omega)
  by_cases hq : hedB ⟨h.verb, h.target, s, (bCookie, y) :: h.fs, h.body⟩ = true
  · have ha2 : askB hs ⟨h.verb, h.target, s, (bCookie, y) :: h.fs, h.body⟩ bGet = true := get_iff.2 ⟨by show 0 ≤ routeI hs s; omega, hv, hq⟩
    rw [if_pos hq, keyof_yes ha2]
    show ((⟨routeI hs s, h.target, codOfF ((bCookie, y) :: h.fs)⟩ : Ky), true) = _
    rw [hr, cod_front _ _ _ (by decide)]
  · rw [if_neg hq]
    exact keyof_no (by rw [← Bool.not_eq_true]; exact fun h => hq (get_iff.1 h).2.2)
theorem HdSz.name {h : Hd} (hz : HdSz h) {s x y : ByteArray} (hs : s.size ≤ 1048576) (hx : x.size ≤ 40) (hy : y.size ≤ 40) (hl : h.fs.length ≤ 12) : HdSz ⟨h.verb, h.target, s, (x, y) :: h.fs, h.body⟩ :=
  ⟨hz.verb, hz.target, hs, hz.body, fun f hf => by
    rcases List.mem_cons.1 hf with rfl | hf
    · exact ⟨Nat.le_trans hx (by decide), Nat.le_trans hy (by decide)⟩
    · exact hz.fs f hf, by show h.fs.length + 1 ≤ _; omega⟩
end Go.Proofs.YtncegikmpapldaaGreatDoor

-- from XLKyO2
/- A law on keys, over drawn inputs: FnKeyOf. -/
namespace Go.Proofs.YtncegikmpapldaaGreatDoor
open Go.RowKit Go.Maps
theorem wrap64K {x : Int} (h0 : -9223372036854775808 ≤ x) (h1 : x ≤ 9223372036854775807) : IntKind.i64.wrap x = x := by
  simp [IntKind.wrap, IntKind.bits, IntKind.signed]; omega

set_option maxRecDepth 100000 in
set_option maxHeartbeats 12800000 in
theorem law_keyofd (a : Option Addr) (len cap : Nat) (zs : List Int) (w : World) (h0 : IsRow .u8 w a len cap zs) (hE : Env w) :
    Calls Tryz.prog 4 #[.slice a len cap] w fun e w' => e = .returned (.bool true) ∧ Below w.heap.size w w' := by
  have hl := isrow_len h0
  by_cases hbig : 1048576 < len
  · clear hE h0
    go_enter Tryz.func4, Tryz.ntmps4
    go_wp2_with fail
    go_ret
    exact ⟨rfl, Below.refl _ _⟩
  have d1 := draw_keyof a len cap zs w h0
  clear h0
  have HX : Hid (∀ W, Below w.heap.size w W → Env W) := Lib.hid fun W hW => hE.below hW (Nat.le_refl _)
  clear hE
  unfold DrawnCH at d1
  go_enter Tryz.func4, Tryz.ntmps4
  go_wp2_with fail
  refine d1.mono ?_
  rintro e w1 ⟨hs, h, a1, c1, a2, c2, rfl, hH, hsm, hl5, hF, hok, b1, b2, b3, b4, hn, hnc, hb1⟩
  clear d1
  have hN : HOks hs 1048576 := fun x hx s hs => Nat.le_trans ((hsm x hx).1 s hs) (by decide)
  have hdz : HdSz h := ⟨by omega, by omega, by omega, by omega, fun f hf => ⟨Nat.le_trans (hok f hf).1 (by decide), Nat.le_trans (hok f hf).2 (by decide)⟩, by omega⟩
  obtain ⟨hzA, hbA, hA0, hA1⟩ := box2_new w1 (.cells #[.slice a1 hs.length c1] 25) (.cells #[.string h.verb, .string h.target, .string h.host, .slice a2 h.fs.length c2, .string h.body] 40)
  obtain ⟨w2, hw2⟩ : ∃ x, x = (w1.alloc (.cells #[.slice a1 hs.length c1] 25)).alloc (.cells #[.string h.verb, .string h.target, .string h.host, .slice a2 h.fs.length c2, .string h.body] 40) := ⟨_, rfl⟩
  rw [← hw2] at hzA hbA hA0 hA1
  have HW2 := Lib.hid hw2
  have hH2 := hH.below (Nat.le_refl _) hbA
  have hF2 := hF.below (Nat.le_refl _) hbA
  have hb02 := hb1.trans (hbA.mono hb1.size)
  have HXA : Hid (∀ W, Below w2.heap.size w2 W → Env W ∧ HRow W (.slice a1 hs.length c1) hs ∧ FRow W (.slice a2 h.fs.length c2) h.fs ∧ W.heap[w1.heap.size]? = some (.cells #[.slice a1 hs.length c1] 25 (0, 0)) ∧ W.heap[w1.heap.size + 1]? = some (.cells #[.string h.verb, .string h.target, .string h.host, .slice a2 h.fs.length c2, .string h.body] 40 (0, 0)) ∧ Below w.heap.size w W) := Lib.hid fun W hW => by
    have hbW := hb02.trans (hW.mono hb02.size)
    exact ⟨HX.out _ hbW, hH2.below (Nat.le_refl _) hW, hF2.below (Nat.le_refl _) hW, heap_keep hW (Nat.le_refl _) _ _ hA0, heap_keep hW (Nat.le_refl _) _ _ hA1, hbW⟩
  have HI : Hid (∀ W, Below w2.heap.size w2 W → Calls Tryz.prog 18 #[.agg #[.slice a1 hs.length c1], .agg #[.string h.verb, .string h.target, .string h.host, .slice a2 h.fs.length c2, .string h.body]] W fun e w' => e = .returned (.tuple #[keyV (keyOf hs h).1, .bool (keyOf hs h).2]) ∧ Below W.heap.size W w') := Lib.hid fun W hW => by
    obtain ⟨k1, k2, k3, _⟩ := HXA.out _ hW
    exact impl_keyof hs _ h _ W k2 hN k3 hdz k1
  have HS : Hid (∀ W, Below w2.heap.size w2 W → Calls Tryz.prog 19 #[.agg #[.slice a1 hs.length c1], .agg #[.string h.verb, .string h.target, .string h.host, .slice a2 h.fs.length c2, .string h.body]] W fun e w' => e = .returned (.tuple #[keyV (keyOf hs h).1, .bool (keyOf hs h).2]) ∧ Below W.heap.size W w') := Lib.hid fun W hW => by
    obtain ⟨k1, k2, k3, _⟩ := HXA.out _ hW
    exact spec_keyof hs _ h _ W k2 hN k3 hdz
  have hao : a2 = none → h.fs.length = 0 ∧ c2 = 0 := fun e => by
    obtain ⟨_, _, e1, _, _, e3⟩ := hF
    cases e1
    refine ⟨?_, hnc e⟩
    cases hfs : h.fs with
    | nil => rfl
    | cons f fs =>
      obtain ⟨b, o, he, _⟩ := e3 0 f (by rw [hfs]; rfl)
      rw [e] at he
      cases he
  have HAO := Lib.hid hao
  have HOK := Lib.hid (fcells_oneM h.fs)
  have HNL := Lib.hid hn; have HDZ := Lib.hid hdz; have HN := Lib.hid hN
  obtain ⟨x0, _⟩ := one_fact hA0
  obtain ⟨x1, x2, x3, x4, x5, _⟩ := five_facts hA1
  have hI := HI.out w2 (Below.refl _ _)
  rw [hw2] at x0 x1 x2 x3 x4 x5
  clear hw2 hH hF hbA hA0 hA1 hH2 hF2 hb1 hb02 hsm hl5 hN hdz hok b1 b2 b3 b4 hn hnc hao HI
  cases hA : askB hs h bGet with
  | false =>
    rw [keyof_no hA] at hI HS
    unfold keyV noKy at hI HS
    dsimp only at hI HS
    clear hA
    go_wp2_with fail
    rw [← HW2.out]
    refine hI.mono ?_
    rintro e w3 ⟨rfl, hb3⟩
    obtain ⟨w3b, hw3b⟩ : ∃ x, x = w3.alloc (.cells #[.int .i64 0, .string ⟨#[]⟩, .int .i64 0] 27) := ⟨_, rfl⟩
    have hs3b : w3b.heap.size = w3.heap.size + 1 := by rw [hw3b]; simp
    have hb3b : Below w3.heap.size w3 w3b := by rw [hw3b]; exact (Below.refl _ _).alloc (Nat.le_refl _) _
    have hY3 : w3b.heap[w3.heap.size]? = some (.cells #[.int .i64 0, .string ⟨#[]⟩, .int .i64 0] 27 (0, 0)) := by rw [hw3b]; exact heap_alloc_new w3 _
    have hD3 := hb3.trans (hb3b.mono hb3.size)
    obtain ⟨_, _, _, k4, k5, _⟩ := HXA.out _ hD3
    clear x0 x1 x2 x3 x4 x5
    obtain ⟨x0, _⟩ := one_fact k4
    obtain ⟨x1, x2, x3, x4, x5, _⟩ := five_facts k5
    have hS := HS.out w3b hD3
    have hz3 := hb3.size
    have HW3 := Lib.hid hw3b
    rw [hw3b] at x0 x1 x2 x3 x4 x5
    clear hI HS hb3 hw3b hb3b k4 k5
    go_wp2_with fail
    rw [← HW3.out]
    refine hS.mono ?_
    rintro e w4 ⟨rfl, hb4⟩
    obtain ⟨w4b, hw4b⟩ : ∃ x, x = w4.alloc (.cells #[.int .i64 0, .string ⟨#[]⟩, .int .i64 0] 27) := ⟨_, rfl⟩
    have hs4b : w4b.heap.size = w4.heap.size + 1 := by rw [hw4b]; simp
    have hb4b : Below w4.heap.size w4 w4b := by rw [hw4b]; exact (Below.refl _ _).alloc (Nat.le_refl _) _
    have hY4 : w4b.heap[w4.heap.size]? = some (.cells #[.int .i64 0, .string ⟨#[]⟩, .int .i64 0] 27 (0, 0)) := by rw [hw4b]; exact heap_alloc_new w4 _
    have hE4 := hb4.trans (hb4b.mono hb4.size)
    have hD4 := hD3.trans (hE4.mono hD3.size)
    have hY34 := (hE4.block w3.heap.size (by omega)).trans hY3
    have HXC : Hid (∀ W, Below w4b.heap.size w4b W → (Env W ∧ Below w.heap.size w W ∧ Below w2.heap.size w2 W ∧ HRow W (.slice a1 hs.length c1) hs ∧ FRow W (.slice a2 h.fs.length c2) h.fs) ∧ W.heap[w1.heap.size]? = some (.cells #[.slice a1 hs.length c1] 25 (0, 0)) ∧ W.heap[w1.heap.size + 1]? = some (.cells #[.string h.verb, .string h.target, .string h.host, .slice a2 h.fs.length c2, .string h.body] 40 (0, 0)) ∧ W.heap[w3.heap.size]? = some (.cells #[.int .i64 0, .string ⟨#[]⟩, .int .i64 0] 27 (0, 0))) := Lib.hid fun W hW => by
      have hd := hD4.trans (hW.mono hD4.size)
      obtain ⟨k1, k2, k3, k4, k5, k6⟩ := HXA.out _ hd
      exact ⟨⟨k1, k6, hd, k2, k3⟩, k4, k5, heap_keep hW (Nat.le_refl _) _ _ hY34⟩
    obtain ⟨g0, g1, g2, _⟩ := three_facts hY34
    obtain ⟨z0, z1, z2, _⟩ := three_facts hY4
    have HW4 := Lib.hid hw4b
    rw [hw4b] at g0 g1 g2 z0 z1 z2
    clear hS hb4 hw4b hb4b hY3 hE4 hD3 hD4 hY34 hY4 x0 x1 x2 x3 x4 x5
    go_wp2_with fail
    rw [← HW4.out]
    refine (gd_ok _ (HXC.out _ (Below.refl _ _)).1.1.1).mono ?_
    rintro e w12 ⟨rfl, rfl⟩
    have HB := Lib.hid (HXC.out _ (Below.refl _ _)).1.2.1
    clear g0 g1 g2 z0 z1 z2
    go_wp2
    go_ret
    exact ⟨rfl, HB.out⟩
  | true =>
    have hko := keyof_ok hA
    obtain ⟨r0, _, _⟩ := get_iff.1 hA
    obtain ⟨hcf, r1⟩ := route_lt r0
    obtain ⟨p, hp⟩ : ∃ p : Nat, routeI hs h.host = (p : Int) := ⟨(routeI hs h.host).toNat, by omega⟩
    have hpl : p < hs.length := by omega
    obtain ⟨x, hx⟩ : ∃ x, hs[p]? = some x := ⟨_, List.getElem?_eq_getElem hpl⟩
    have hname := fun s (h1 : s ∈ x.names) => keyof_name hA (x := x) (by rw [hp]; exact hx) h1 bZ
    rw [keyof_yes hA] at hI HS
    rw [hp] at hI HS hko hname
    have HX1 := Lib.hid hx
    have HKO : Hid (∀ W, Cls W → HRow W (.slice a1 hs.length c1) hs → Calls Tryz.prog 14 #[.agg #[.slice a1 hs.length c1], .agg #[.int .i64 (p : Int), .string h.target, .int .i64 (codOfF h.fs : Int)]] W fun e w' => e = .returned (.bool true) ∧ Below W.heap.size W w') := Lib.hid fun W k1 k2 => by
      have := impl_keyok hs _ ⟨(p : Int), h.target, (codOfF h.fs : Int)⟩ W k2 HN.out HDZ.out.target k1
      rw [hko] at this
      exact this
    have HRO : Hid (∀ W, Cls W → HRow W (.slice a1 hs.length c1) hs → Calls Tryz.prog 20 #[.agg #[.slice a1 hs.length c1], .string h.host] W fun e w' => e = .returned (.int .i64 (p : Int)) ∧ Below W.heap.size W w') := Lib.hid fun W k1 k2 => by
      have := impl_route hs _ h.host W k2 HN.out (by have := HDZ.out.host; unfold maxLen; omega) k1
      rw [hp] at this
      exact this
    have HCO : Hid (∀ W, Env W → FRow W (.slice a2 h.fs.length c2) h.fs → Calls Tryz.prog 21 #[.slice a2 h.fs.length c2] W fun e w' => e = .returned (.int .i64 (codOfF h.fs : Int)) ∧ Below W.heap.size W w') := Lib.hid fun W k1 k2 => impl_codof _ h.fs W k2 HDZ.out.fs HDZ.out.len k1.2.2.1 k1.1 k1.2.2.2
    have HNM := Lib.hid hname
    clear hname hx hcf r1 r0 hko hA
    generalize codOfF h.fs = M at *
    unfold keyV at hI HS
    dsimp only at hI HS
    go_wp2_with fail
    rw [← HW2.out]
    refine hI.mono ?_
    rintro e w3 ⟨rfl, hb3⟩
    obtain ⟨w3b, hw3b⟩ : ∃ x, x = w3.alloc (.cells #[.int .i64 (p : Int), .string h.target, .int .i64 (M : Int)] 27) := ⟨_, rfl⟩
    have hs3b : w3b.heap.size = w3.heap.size + 1 := by rw [hw3b]; simp
    have hb3b : Below w3.heap.size w3 w3b := by rw [hw3b]; exact (Below.refl _ _).alloc (Nat.le_refl _) _
    have hY3 : w3b.heap[w3.heap.size]? = some (.cells #[.int .i64 (p : Int), .string h.target, .int .i64 (M : Int)] 27 (0, 0)) := by rw [hw3b]; exact heap_alloc_new w3 _
    have hD3 := hb3.trans (hb3b.mono hb3.size)
    obtain ⟨_, _, _, k4, k5, _⟩ := HXA.out _ hD3
    clear x0 x1 x2 x3 x4 x5
    obtain ⟨x0, _⟩ := one_fact k4
    obtain ⟨x1, x2, x3, x4, x5, _⟩ := five_facts k5
    have hS := HS.out w3b hD3
    have hz3 := hb3.size
    have HW3 := Lib.hid hw3b
    rw [hw3b] at x0 x1 x2 x3 x4 x5
    clear hI HS hb3 hw3b hb3b k4 k5
    go_wp2_with fail
    rw [← HW3.out]
    refine hS.mono ?_
    rintro e w4 ⟨rfl, hb4⟩
    obtain ⟨w4b, hw4b⟩ : ∃ x, x = w4.alloc (.cells #[.int .i64 (p : Int), .string h.target, .int .i64 (M : Int)] 27) := ⟨_, rfl⟩
    have hs4b : w4b.heap.size = w4.heap.size + 1 := by rw [hw4b]; simp
    have hb4b : Below w4.heap.size w4 w4b := by rw [hw4b]; exact (Below.refl _ _).alloc (Nat.le_refl _) _
    have hY4 : w4b.heap[w4.heap.size]? = some (.cells #[.int .i64 (p : Int), .string h.target, .int .i64 (M : Int)] 27 (0, 0)) := by rw [hw4b]; exact heap_alloc_new w4 _
    have hE4 := hb4.trans (hb4b.mono hb4.size)
    have hD4 := hD3.trans (hE4.mono hD3.size)
    have hY34 := (hE4.block w3.heap.size (by omega)).trans hY3
    have HXC : Hid (∀ W, Below w4b.heap.size w4b W → (Env W ∧ Below w.heap.size w W ∧ Below w2.heap.size w2 W ∧ HRow W (.slice a1 hs.length c1) hs ∧ FRow W (.slice a2 h.fs.length c2) h.fs) ∧ W.heap[w1.heap.size]? = some (.cells #[.slice a1 hs.length c1] 25 (0, 0)) ∧ W.heap[w1.heap.size + 1]? = some (.cells #[.string h.verb, .string h.target, .string h.host, .slice a2 h.fs.length c2, .string h.body] 40 (0, 0)) ∧ W.heap[w3.heap.size]? = some (.cells #[.int .i64 (p : Int), .string h.target, .int .i64 (M : Int)] 27 (0, 0))) := Lib.hid fun W hW => by
      have hd := hD4.trans (hW.mono hD4.size)
      obtain ⟨k1, k2, k3, k4, k5, k6⟩ := HXA.out _ hd
      exact ⟨⟨k1, k6, hd, k2, k3⟩, k4, k5, heap_keep hW (Nat.le_refl _) _ _ hY34⟩
    obtain ⟨g0, g1, g2, _⟩ := three_facts hY34
    obtain ⟨z0, z1, z2, _⟩ := three_facts hY4
    have HW4 := Lib.hid hw4b
    rw [hw4b] at g0 g1 g2 z0 z1 z2
    clear hS hb4 hw4b hb4b hY3 hE4 hD3 hD4 hY34 hY4 x0 x1 x2 x3 x4 x5
    go_wp2_with fail
    rw [← HW4.out]
    clear g0 g1 g2 z0 z1 z2
    obtain ⟨w5, hw5⟩ : ∃ x, x = w4b := ⟨_, rfl⟩
    rw [← hw5] at HXC ⊢
    clear hs4b HW4 hw5
    refine wp_region_last (by kernel_rfl) 27 (by kernel_rfl) (by kernel_rfl) (by kernel_rfl)
      (fun yz => { tmps := #[Value.slice a len cap, undef, Value.bool false, Value.pointer (some { block := w1.heap.size, off := 0 }), Value.pointer (some { block := w1.heap.size + 1, off := 0 }), Value.pointer (some { block := w3.heap.size, off := 0 }), Value.bool true, Value.pointer (some { block := w4.heap.size, off := 0 }), Value.bool true, undef, undef, undef, undef, Value.slice a len cap, Value.int IntKind.i64 (len : Int), Value.bool (decide ((1048576 : Int) < (len : Int))), Value.tuple #[Value.agg #[Value.slice a1 hs.length c1], Value.agg #[Value.string h.verb, Value.string h.target, Value.string h.host, Value.slice a2 h.fs.length c2, Value.string h.body]], Value.slice a len cap, Value.tuple #[Value.agg #[Value.slice a1 hs.length c1], Value.agg #[Value.string h.verb, Value.string h.target, Value.string h.host, Value.slice a2 h.fs.length c2, Value.string h.body]], Value.agg #[Value.slice a1 hs.length c1], Value.agg #[Value.string h.verb, Value.string h.target, Value.string h.host, Value.slice a2 h.fs.length c2, Value.string h.body], Value.tuple #[Value.agg #[Value.int IntKind.i64 (p : Int), Value.string h.target, Value.int IntKind.i64 (M : Int)], Value.bool true], Value.agg #[Value.slice a1 hs.length c1], Value.agg #[Value.string h.verb, Value.string h.target, Value.string h.host, Value.slice a2 h.fs.length c2, Value.string h.body], Value.tuple #[Value.agg #[Value.int IntKind.i64 (p : Int), Value.string h.target, Value.int IntKind.i64 (M : Int)], Value.bool true], Value.agg #[Value.int IntKind.i64 (p : Int), Value.string h.target, Value.int IntKind.i64 (M : Int)], Value.bool true, Value.tuple #[Value.agg #[Value.int IntKind.i64 (p : Int), Value.string h.target, Value.int IntKind.i64 (M : Int)], Value.bool true], Value.agg #[Value.slice a1 hs.length c1], Value.agg #[Value.string h.verb, Value.string h.target, Value.string h.host, Value.slice a2 h.fs.length c2, Value.string h.body], Value.tuple #[Value.agg #[Value.int IntKind.i64 (p : Int), Value.string h.target, Value.int IntKind.i64 (M : Int)], Value.bool true], Value.agg #[Value.int IntKind.i64 (p : Int), Value.string h.target, Value.int IntKind.i64 (M : Int)], Value.bool true, Value.agg #[Value.int IntKind.i64 (p : Int), Value.string h.target, Value.int IntKind.i64 (M : Int)], Value.agg #[Value.int IntKind.i64 (p : Int), Value.string h.target, Value.int IntKind.i64 (M : Int)], Value.bool false, Value.bool false, Value.bool true, Value.bool true, Value.bool false, Value.bool false, Value.bool true, Value.bool false, undef, undef, undef, undef, undef, undef, yz 0, yz 1, yz 2, yz 3, yz 4, yz 5, yz 6, yz 7, yz 8, yz 9, yz 10, yz 11, yz 12, yz 13, yz 14, yz 15, yz 16, yz 17, yz 18, yz 19, yz 20, yz 21, yz 22, yz 23, yz 24, yz 25, yz 26, undef, undef, undef, undef, undef, undef, undef, undef, undef, undef, undef, undef, undef, undef, undef, undef, undef, undef, undef, undef, undef, undef, undef, undef, undef, undef, undef, undef, undef, undef, undef, undef, undef, undef, undef, undef, undef, undef, undef, undef, undef, undef, undef, undef, undef, undef, undef, undef, undef, undef, undef, undef], defers := [] })
      (fun _ W => Below w5.heap.size w5 W)
      (fun i xv _ => xv = ([.agg #[.slice a1 hs.length c1], .agg #[.int .i64 (p : Int), .string h.target, .int .i64 (M : Int)], .bool true, .bool false, .bool false, .pointer (some ⟨w3.heap.size, 1, none⟩), .string h.target, .pointer (some ⟨w1.heap.size + 1, 1, none⟩), .string h.target, .bool false, .bool false, .bool false, .pointer (some ⟨w3.heap.size, 0, none⟩), .int .i64 (p : Int), .agg #[.slice a1 hs.length c1], .pointer (some ⟨w1.heap.size + 1, 2, none⟩), .string h.host, .int .i64 (p : Int), .bool false, .bool false, .bool false, .pointer (some ⟨w3.heap.size, 2, none⟩), .int .i64 (M : Int), .pointer (some ⟨w1.heap.size + 1, 3, none⟩), .slice a2 h.fs.length c2, .int .i64 (M : Int), .bool false] : List Value).getD i undef)
      (fun _ _ => True) (fun _ => undef) (Below.refl _ _).drew
      (fun _ _ _ _ _ h _ => h) ?_ ?_
    · intro i hi yz w7 kk hkk hC hdp
      match i, hi with
      | 0, _ =>
        obtain ⟨q0, _⟩ := one_fact (HXC.out w7 hC).2.1
        obtain ⟨t1, t2, t3, t4, t5, _⟩ := five_facts (HXC.out w7 hC).2.2.1
        obtain ⟨g0, g1, g2, _⟩ := three_facts (HXC.out w7 hC).2.2.2
        refine wpOp_step rfl (fun K hK => ?_)
        clear hdp
        go_simp
        exact hK _ _ ⟨.agg #[.slice a1 hs.length c1], rfl, rfl, trivial, hC⟩
      | 1, _ =>
        obtain ⟨q0, _⟩ := one_fact (HXC.out w7 hC).2.1
        obtain ⟨t1, t2, t3, t4, t5, _⟩ := five_facts (HXC.out w7 hC).2.2.1
        obtain ⟨g0, g1, g2, _⟩ := three_facts (HXC.out w7 hC).2.2.2
        refine wpOp_step rfl (fun K hK => ?_)
        clear hdp
        go_simp
        exact hK _ _ ⟨.agg #[.int .i64 (p : Int), .string h.target, .int .i64 (M : Int)], rfl, rfl, trivial, hC⟩
      | 2, _ =>
        have e0 : yz 0 = .agg #[.slice a1 hs.length c1] := hdp 0 (dep_of (by kernel_rfl))
        have e1 : yz 1 = .agg #[.int .i64 (p : Int), .string h.target, .int .i64 (M : Int)] := hdp 1 (dep_of (by kernel_rfl))
        have hT := HKO.out w7 (HXC.out w7 hC).1.1.1 (HXC.out w7 hC).1.2.2.2.1
        refine wpOp_step rfl (fun K hK => ?_)
        clear hdp
        go_simp
        refine hT.mono ?_
        rintro e w8 ⟨rfl, hb8⟩
        exact hK _ _ ⟨.bool true, by simp [upd, e0, e1], rfl, trivial, hC.trans (hb8.mono hC.size)⟩
      | 3, _ =>
        have e2 : yz 2 = .bool true := hdp 2 (dep_of (by kernel_rfl))
        refine wpOp_step rfl (fun K hK => ?_)
        clear hdp
        go_simp
        exact hK _ _ ⟨.bool false, by simp [upd, e2], rfl, trivial, hC⟩
      | 4, _ =>
        have e3 : yz 3 = .bool false := hdp 3 (dep_of (by kernel_rfl))
        refine wpOp_step rfl (fun K hK => ?_)
        clear hdp
        go_simp
        exact hK _ _ ⟨.bool false, by simp [upd, e3], rfl, trivial, hC⟩
      | 5, _ =>
        have e4 : yz 4 = .bool false := hdp 4 (dep_of (by kernel_rfl))
        refine wpOp_step rfl (fun K hK => ?_)
        clear hdp
        go_simp
        exact hK _ _ ⟨.pointer (some ⟨w3.heap.size, 1, none⟩), by simp [upd, e4], rfl, trivial, hC⟩
      | 6, _ =>
        obtain ⟨q0, _⟩ := one_fact (HXC.out w7 hC).2.1
        obtain ⟨t1, t2, t3, t4, t5, _⟩ := five_facts (HXC.out w7 hC).2.2.1
        obtain ⟨g0, g1, g2, _⟩ := three_facts (HXC.out w7 hC).2.2.2
        have e4 : yz 4 = .bool false := hdp 4 (dep_of (by kernel_rfl))
        have e5 : yz 5 = .pointer (some ⟨w3.heap.size, 1, none⟩) := hdp 5 (dep_of (by kernel_rfl))
        refine wpOp_step rfl (fun K hK => ?_)
        clear hdp
        go_simp
        exact hK _ _ ⟨.string h.target, by simp [upd, e4, e5], rfl, trivial, hC⟩
      | 7, _ =>
        have e4 : yz 4 = .bool false := hdp 4 (dep_of (by kernel_rfl))
        refine wpOp_step rfl (fun K hK => ?_)
        clear hdp
        go_simp
        exact hK _ _ ⟨.pointer (some ⟨w1.heap.size + 1, 1, none⟩), by simp [upd, e4], rfl, trivial, hC⟩
      | 8, _ =>
        obtain ⟨q0, _⟩ := one_fact (HXC.out w7 hC).2.1
        obtain ⟨t1, t2, t3, t4, t5, _⟩ := five_facts (HXC.out w7 hC).2.2.1
        obtain ⟨g0, g1, g2, _⟩ := three_facts (HXC.out w7 hC).2.2.2
        have e4 : yz 4 = .bool false := hdp 4 (dep_of (by kernel_rfl))
        have e7 : yz 7 = .pointer (some ⟨w1.heap.size + 1, 1, none⟩) := hdp 7 (dep_of (by kernel_rfl))
        refine wpOp_step rfl (fun K hK => ?_)
        clear hdp
        go_simp
        exact hK _ _ ⟨.string h.target, by simp [upd, e4, e7], rfl, trivial, hC⟩
      | 9, _ =>
        have er : (h.target.toList == h.target.toList) = true := by simp
        have e4 : yz 4 = .bool false := hdp 4 (dep_of (by kernel_rfl))
        have e6 : yz 6 = .string h.target := hdp 6 (dep_of (by kernel_rfl))
        have e8 : yz 8 = .string h.target := hdp 8 (dep_of (by kernel_rfl))
        refine wpOp_step rfl (fun K hK => ?_)
        clear hdp
        go_simp
        exact hK _ _ ⟨.bool false, by simp [upd, e4, e6, e8], rfl, trivial, hC⟩
      | 10, _ =>
        have e4 : yz 4 = .bool false := hdp 4 (dep_of (by kernel_rfl))
        have e9 : yz 9 = .bool false := hdp 9 (dep_of (by kernel_rfl))
        refine wpOp_step rfl (fun K hK => ?_)
        clear hdp
        go_simp
        exact hK _ _ ⟨.bool false, by simp [upd, e4, e9], rfl, trivial, hC⟩
      | 11, _ =>
        have e10 : yz 10 = .bool false := hdp 10 (dep_of (by kernel_rfl))
        refine wpOp_step rfl (fun K hK => ?_)
        clear hdp
        go_simp
        exact hK _ _ ⟨.bool false, by simp [upd, e10], rfl, trivial, hC⟩
      | 12, _ =>
        have e11 : yz 11 = .bool false := hdp 11 (dep_of (by kernel_rfl))
        refine wpOp_step rfl (fun K hK => ?_)
        clear hdp
        go_simp
        exact hK _ _ ⟨.pointer (some ⟨w3.heap.size, 0, none⟩), by simp [upd, e11], rfl, trivial, hC⟩
      | 13, _ =>
        obtain ⟨q0, _⟩ := one_fact (HXC.out w7 hC).2.1
        obtain ⟨t1, t2, t3, t4, t5, _⟩ := five_facts (HXC.out w7 hC).2.2.1
        obtain ⟨g0, g1, g2, _⟩ := three_facts (HXC.out w7 hC).2.2.2
        have e11 : yz 11 = .bool false := hdp 11 (dep_of (by kernel_rfl))
        have e12 : yz 12 = .pointer (some ⟨w3.heap.size, 0, none⟩) := hdp 12 (dep_of (by kernel_rfl))
        refine wpOp_step rfl (fun K hK => ?_)
        clear hdp
        go_simp
        exact hK _ _ ⟨.int .i64 (p : Int), by simp [upd, e11, e12], rfl, trivial, hC⟩
      | 14, _ =>
        obtain ⟨q0, _⟩ := one_fact (HXC.out w7 hC).2.1
        obtain ⟨t1, t2, t3, t4, t5, _⟩ := five_facts (HXC.out w7 hC).2.2.1
        obtain ⟨g0, g1, g2, _⟩ := three_facts (HXC.out w7 hC).2.2.2
        have e11 : yz 11 = .bool false := hdp 11 (dep_of (by kernel_rfl))
        refine wpOp_step rfl (fun K hK => ?_)
        clear hdp
        go_simp
        exact hK _ _ ⟨.agg #[.slice a1 hs.length c1], by simp [upd, e11], rfl, trivial, hC⟩
      | 15, _ =>
        have e11 : yz 11 = .bool false := hdp 11 (dep_of (by kernel_rfl))
        refine wpOp_step rfl (fun K hK => ?_)
        clear hdp
        go_simp
        exact hK _ _ ⟨.pointer (some ⟨w1.heap.size + 1, 2, none⟩), by simp [upd, e11], rfl, trivial, hC⟩
      | 16, _ =>
        obtain ⟨q0, _⟩ := one_fact (HXC.out w7 hC).2.1
        obtain ⟨t1, t2, t3, t4, t5, _⟩ := five_facts (HXC.out w7 hC).2.2.1
        obtain ⟨g0, g1, g2, _⟩ := three_facts (HXC.out w7 hC).2.2.2
        have e11 : yz 11 = .bool false := hdp 11 (dep_of (by kernel_rfl))
        have e15 : yz 15 = .pointer (some ⟨w1.heap.size + 1, 2, none⟩) := hdp 15 (dep_of (by kernel_rfl))
        refine wpOp_step rfl (fun K hK => ?_)
        clear hdp
        go_simp
        exact hK _ _ ⟨.string h.host, by simp [upd, e11, e15], rfl, trivial, hC⟩
      | 17, _ =>
        have e11 : yz 11 = .bool false := hdp 11 (dep_of (by kernel_rfl))
        have e14 : yz 14 = .agg #[.slice a1 hs.length c1] := hdp 14 (dep_of (by kernel_rfl))
        have e16 : yz 16 = .string h.host := hdp 16 (dep_of (by kernel_rfl))
        have hT := HRO.out w7 (HXC.out w7 hC).1.1.1 (HXC.out w7 hC).1.2.2.2.1
        refine wpOp_step rfl (fun K hK => ?_)
        clear hdp
        go_simp
        refine hT.mono ?_
        rintro e w8 ⟨rfl, hb8⟩
        exact hK _ _ ⟨.int .i64 (p : Int), by simp [upd, e11, e14, e16], rfl, trivial, hC.trans (hb8.mono hC.size)⟩
      | 18, _ =>
        have e11 : yz 11 = .bool false := hdp 11 (dep_of (by kernel_rfl))
        have e13 : yz 13 = .int .i64 (p : Int) := hdp 13 (dep_of (by kernel_rfl))
        have e17 : yz 17 = .int .i64 (p : Int) := hdp 17 (dep_of (by kernel_rfl))
        refine wpOp_step rfl (fun K hK => ?_)
        clear hdp
        go_simp
        exact hK _ _ ⟨.bool false, by simp [upd, e11, e13, e17], rfl, trivial, hC⟩
      | 19, _ =>
        have e11 : yz 11 = .bool false := hdp 11 (dep_of (by kernel_rfl))
        have e18 : yz 18 = .bool false := hdp 18 (dep_of (by kernel_rfl))
        refine wpOp_step rfl (fun K hK => ?_)
        clear hdp
        go_simp
        exact hK _ _ ⟨.bool false, by simp [upd, e11, e18], rfl, trivial, hC⟩
      | 20, _ =>
        have e19 : yz 19 = .bool false := hdp 19 (dep_of (by kernel_rfl))
        refine wpOp_step rfl (fun K hK => ?_)
        clear hdp
        go_simp
        exact hK _ _ ⟨.bool false, by simp [upd, e19], rfl, trivial, hC⟩
      | 21, _ =>
        have e20 : yz 20 = .bool false := hdp 20 (dep_of (by kernel_rfl))
        refine wpOp_step rfl (fun K hK => ?_)
        clear hdp
        go_simp
        exact hK _ _ ⟨.pointer (some ⟨w3.heap.size, 2, none⟩), by simp [upd, e20], rfl, trivial, hC⟩
      | 22, _ =>
        obtain ⟨q0, _⟩ := one_fact (HXC.out w7 hC).2.1
        obtain ⟨t1, t2, t3, t4, t5, _⟩ := five_facts (HXC.out w7 hC).2.2.1
        obtain ⟨g0, g1, g2, _⟩ := three_facts (HXC.out w7 hC).2.2.2
        have e20 : yz 20 = .bool false := hdp 20 (dep_of (by kernel_rfl))
        have e21 : yz 21 = .pointer (some ⟨w3.heap.size, 2, none⟩) := hdp 21 (dep_of (by kernel_rfl))
        refine wpOp_step rfl (fun K hK => ?_)
        clear hdp
        go_simp
        exact hK _ _ ⟨.int .i64 (M : Int), by simp [upd, e20, e21], rfl, trivial, hC⟩
      | 23, _ =>
        have e20 : yz 20 = .bool false := hdp 20 (dep_of (by kernel_rfl))
        refine wpOp_step rfl (fun K hK => ?_)
        clear hdp
        go_simp
        exact hK _ _ ⟨.pointer (some ⟨w1.heap.size + 1, 3, none⟩), by simp [upd, e20], rfl, trivial, hC⟩
      | 24, _ =>
        obtain ⟨q0, _⟩ := one_fact (HXC.out w7 hC).2.1
        obtain ⟨t1, t2, t3, t4, t5, _⟩ := five_facts (HXC.out w7 hC).2.2.1
        obtain ⟨g0, g1, g2, _⟩ := three_facts (HXC.out w7 hC).2.2.2
        have e20 : yz 20 = .bool false := hdp 20 (dep_of (by kernel_rfl))
        have e23 : yz 23 = .pointer (some ⟨w1.heap.size + 1, 3, none⟩) := hdp 23 (dep_of (by kernel_rfl))
        refine wpOp_step rfl (fun K hK => ?_)
        clear hdp
        go_simp
        exact hK _ _ ⟨.slice a2 h.fs.length c2, by simp [upd, e20, e23], rfl, trivial, hC⟩
      | 25, _ =>
        have e20 : yz 20 = .bool false := hdp 20 (dep_of (by kernel_rfl))
        have e24 : yz 24 = .slice a2 h.fs.length c2 := hdp 24 (dep_of (by kernel_rfl))
        have hT := HCO.out w7 (HXC.out w7 hC).1.1 (HXC.out w7 hC).1.2.2.2.2
        refine wpOp_step rfl (fun K hK => ?_)
        clear hdp
        go_simp
        refine hT.mono ?_
        rintro e w8 ⟨rfl, hb8⟩
        exact hK _ _ ⟨.int .i64 (M : Int), by simp [upd, e20, e24], rfl, trivial, hC.trans (hb8.mono hC.size)⟩
      | 26, _ =>
        have e20 : yz 20 = .bool false := hdp 20 (dep_of (by kernel_rfl))
        have e22 : yz 22 = .int .i64 (M : Int) := hdp 22 (dep_of (by kernel_rfl))
        have e25 : yz 25 = .int .i64 (M : Int) := hdp 25 (dep_of (by kernel_rfl))
        refine wpOp_step rfl (fun K hK => ?_)
        clear hdp
        go_simp
        exact hK _ _ ⟨.bool false, by simp [upd, e20, e22, e25], rfl, trivial, hC⟩
      | n + 27, hn => exact absurd hn (by omega)
    · intro yz w7 kk hkk hC hdp
      have e20 : yz 20 = .bool false := hdp 20 (by decide)
      have e26 : yz 26 = .bool false := hdp 26 (by decide)
      refine wpOp_step rfl (fun K hK => ?_)
      clear hdp
      go_simp
      refine hK _ _ ?_
      clear hK K e20 e26
      obtain ⟨w6, hw6⟩ : ∃ x, x = w7 := ⟨_, rfl⟩
      rw [← hw6] at hC ⊢
      obtain ⟨b0, o0, u0, ha1, hlb, cu, hNr⟩ : ∃ b o u, a1 = some ⟨b, o, none⟩ ∧ b < w6.heap.size ∧ w6.cell? ⟨b, o + p * 4, none⟩ = some u ∧ NRow w6 u x.names := by
        obtain ⟨_, _, e1, _, _, e3⟩ := (HXC.out _ hC).1.2.2.2.1
        cases e1
        obtain ⟨b, o, u, e, k1, k2, k3, _⟩ := e3 p x HX1.out
        exact ⟨b, o, u, e, k1, k2, k3⟩
      subst ha1
      obtain ⟨au, cu', rfl, hN1, hN2, hN3⟩ := hNr
      unfold maxLen at hN2
      have HXD : Hid (∀ W, Below w6.heap.size w6 W → (Env W ∧ Below w.heap.size w W ∧ HRow W (.slice (some ⟨b0, o0, none⟩) hs.length c1) hs ∧ FRow W (.slice a2 h.fs.length c2) h.fs) ∧ W.heap[w1.heap.size]? = some (.cells #[.slice (some ⟨b0, o0, none⟩) hs.length c1] 25 (0, 0)) ∧ W.heap[w1.heap.size + 1]? = some (.cells #[.string h.verb, .string h.target, .string h.host, .slice a2 h.fs.length c2, .string h.body] 40 (0, 0)) ∧ W.heap[w3.heap.size]? = some (.cells #[.int .i64 (p : Int), .string h.target, .int .i64 (M : Int)] 27 (0, 0)) ∧ W.cell? ⟨b0, o0 + p * 4, none⟩ = some (.slice au x.names.length cu')) := Lib.hid fun W hW => by
        obtain ⟨⟨k1, k2, _, k4, k5⟩, k6, k7, k8⟩ := HXC.out _ (hC.trans (hW.mono hC.size))
        exact ⟨⟨k1, k2, k4, k5⟩, k6, k7, k8, (hW.cell (p := ⟨b0, o0 + p * 4, none⟩) hlb).trans cu⟩
      have HNS : Hid (∀ j s, x.names[j]? = some s → ∃ b o, au = some ⟨b, o, none⟩ ∧ ∀ W, Below w6.heap.size w6 W → W.cell? ⟨b, o + j, none⟩ = some (.string s)) := Lib.hid fun j s hj => by
        obtain ⟨b, o, e, hl, hc⟩ := hN3 j s hj
        exact ⟨b, o, e, fun W hW => (hW.cell (p := ⟨b, o + j, none⟩) hl).trans hc⟩
      have HQ : Hid (∀ s, s ∈ x.names → ∃ B : Bool, (∀ W v, Env W → HRow W (.slice (some ⟨b0, o0, none⟩) hs.length c1) hs → FRow W v ((bCookie, bZ) :: h.fs) → Calls Tryz.prog 18 #[.agg #[.slice (some ⟨b0, o0, none⟩) hs.length c1], .agg #[.string h.verb, .string h.target, .string s, v, .string h.body]] W fun e w' => e = .returned (.tuple #[keyV (if B = true then ((⟨(p : Int), h.target, (M : Int)⟩ : Ky), true) else (noKy, false)).1, .bool (if B = true then ((⟨(p : Int), h.target, (M : Int)⟩ : Ky), true) else (noKy, false)).2]) ∧ Below W.heap.size W w') ∧ (∀ W v, Env W → FRow W v ((bCookie, bZ) :: h.fs) → Calls Tryz.prog 22 #[.agg #[.string h.verb, .string h.target, .string s, v, .string h.body]] W fun e w' => e = .returned (.bool B) ∧ Below W.heap.size W w')) := Lib.hid fun s h1 => by
        have hk := HNM.out s h1
        obtain ⟨q, hq⟩ : ∃ q : Hd, q = ⟨h.verb, h.target, s, (bCookie, bZ) :: h.fs, h.body⟩ := ⟨_, rfl⟩
        have hz : HdSz q := by rw [hq]; exact HdSz.name HDZ.out (HN.out _ (List.mem_of_getElem? HX1.out) _ h1) (by decide) (by decide) HNL.out
        rw [← hq] at hk
        have ev : q.verb = h.verb := by rw [hq]
        have et : q.target = h.target := by rw [hq]
        have eh : q.host = s := by rw [hq]
        have eb : q.body = h.body := by rw [hq]
        have ef : q.fs = (bCookie, bZ) :: h.fs := by rw [hq]
        clear hq
        have d1 : ∀ W v, Env W → HRow W (.slice (some ⟨b0, o0, none⟩) hs.length c1) hs → FRow W v q.fs → Calls Tryz.prog 18 #[.agg #[.slice (some ⟨b0, o0, none⟩) hs.length c1], .agg #[.string q.verb, .string q.target, .string q.host, v, .string q.body]] W fun e w' => e = .returned (.tuple #[keyV (keyOf hs q).1, .bool (keyOf hs q).2]) ∧ Below W.heap.size W w' := fun W v k1 k2 k3 => impl_keyof hs _ q v W k2 HN.out k3 hz k1
        have d2 : ∀ W v, Env W → FRow W v q.fs → Calls Tryz.prog 22 #[.agg #[.string q.verb, .string q.target, .string q.host, v, .string q.body]] W fun e w' => e = .returned (.bool (hedB q)) ∧ Below W.heap.size W w' := fun W v k1 k3 => impl_hedok q v W k3 (fun f hf => ⟨Nat.le_trans (hz.fs f hf).1 (by decide), Nat.le_trans (hz.fs f hf).2 (by decide)⟩) hz.verb hz.target hz.host hz.body k1.1 k1.2.1
        rw [ev, et, eh, eb, ef] at d1 d2
        rw [hk] at d1
        exact ⟨hedB q, d1, d2⟩
      obtain ⟨i0, hi, hy0, hy1, hy2⟩ := info_parts Tryz.infoFd
      have HIN := Lib.hid hi
      have HPL := Lib.hid hpl
      clear HXC HNM HKO HRO HCO HXA HX hC hw6 hN3 cu hlb hi
      obtain ⟨_, k2, k3, k4, k5⟩ := HXD.out _ (Below.refl _ _)
      obtain ⟨q0, _⟩ := one_fact k2
      obtain ⟨t1, t2, t3, t4, t5, _⟩ := five_facts k3
      obtain ⟨g0, g1, g2, _⟩ := three_facts k4
      have i1 : (p : Int) < (hs.length : Int) := by omega
      clear k2 k3 k4 k5 q0 t1 t2 t3 t4 t5 g0 g1 g2
      go_wp2
      go_loopw [9, 10, 11, 12] (fun i _ _ _ wr => ∃ j : Nat, j ≤ x.names.length ∧ i = .int .i64 j ∧ Below w6.heap.size w6 wr) (fun i _ _ _ _ => x.names.length - (intOf i).toNat)
      case atStart => exact ⟨0, Nat.zero_le _, rfl, Below.refl _ _⟩
      case round =>
        obtain ⟨j, hj, rfl, hb⟩ := hrel
        obtain ⟨_, k2, k3, k4, k5⟩ := HXD.out _ hb
        obtain ⟨q0, _⟩ := one_fact k2
        obtain ⟨t1, t2, t3, t4, t5, _⟩ := five_facts k3
        obtain ⟨g0, g1, g2, _⟩ := three_facts k4
        by_cases hjl : j < x.names.length
        · have hjm : (j : Int) + 1 ≤ 9223372036854775807 := by omega
          have hjm0 : (-9223372036854775808 : Int) ≤ (j : Int) + 1 := by omega
          have hjw := wrap64K hjm0 hjm
          obtain ⟨s, hsn⟩ : ∃ s, x.names[j]? = some s := ⟨_, List.getElem?_eq_getElem hjl⟩
          obtain ⟨nb, no, hau, hnc⟩ := HNS.out j s hsn
          subst hau
          obtain ⟨Bq, hKQ, hHQ⟩ := HQ.out s (List.mem_of_getElem? hsn)
          have HKQ := Lib.hid hKQ; have HHQ := Lib.hid hHQ
          obtain ⟨wa, hwa⟩ : ∃ y, y = wr.alloc (.cells #[.string h.verb, .string h.target, .string h.host, .slice a2 h.fs.length c2, .string h.body] 40) := ⟨_, rfl⟩
          have hba : Below w6.heap.size w6 wa := by rw [hwa]; exact hb.alloc hb.size _
          obtain ⟨_, ka2, _, ka4, ka5⟩ := HXD.out _ hba
          have na := hnc _ hba
          obtain ⟨p0, _⟩ := one_fact ka2
          obtain ⟨m0, m1, m2, _⟩ := three_facts ka4
          rw [hwa] at p0 m0 m1 m2 ka5 na
          obtain ⟨wc, hwc⟩ : ∃ y, y = wr.alloc (.cells #[.string h.verb, .string h.target, .string s, .slice a2 h.fs.length c2, .string h.body] 40) := ⟨_, rfl⟩
          obtain ⟨wb, hwb⟩ : ∃ y, y = wc.alloc (.cells #[.string ⟨#[99, 111, 111, 107, 105, 101]⟩, .string ⟨#[122]⟩] 50) := ⟨_, rfl⟩
          have hbc : Below w6.heap.size w6 wc := by rw [hwc]; exact hb.alloc hb.size _
          have hbb : Below w6.heap.size w6 wb := by rw [hwb]; exact hbc.alloc hbc.size _
          have hsc : wc.heap.size = wr.heap.size + 1 := by rw [hwc]; simp
          have hsb : wb.heap.size = wr.heap.size + 2 := by rw [hwb]; simp [hsc]
          have hw0 := hb.size
          have hxc : wc.heap[wr.heap.size]? = some (.cells #[.string h.verb, .string h.target, .string s, .slice a2 h.fs.length c2, .string h.body] 40 (0, 0)) := by rw [hwc]; exact heap_alloc_new wr _
          have hxb : wb.heap[wr.heap.size]? = some (.cells #[.string h.verb, .string h.target, .string s, .slice a2 h.fs.length c2, .string h.body] 40 (0, 0)) := by
            have hq : Below wc.heap.size wc wb := by rw [hwb]; exact (Below.refl _ _).alloc (Nat.le_refl _) _
            exact (hq.block _ (by omega)).trans hxc
          have hmb : wb.ownsRow (wr.heap.size + 1) 50 2 (.slice (some ⟨wr.heap.size + 1, 0, none⟩) 1 1) 1 [.string ⟨#[99, 111, 111, 107, 105, 101]⟩, .string ⟨#[122]⟩] := by
            have := World.ownsRow_lit (e := 50) (size := 2) wc #[.string ⟨#[99, 111, 111, 107, 105, 101]⟩, .string ⟨#[122]⟩] 1 (Nat.le_refl _) (by decide) rfl
            rw [← hwb, hsc] at this
            exact this
          have hcb : ∀ ad, a2 = some ad → ∀ j u, (fcells h.fs)[j]? = some u → wb.cell? (ad.add j) = some u := fun ad e => by
            have hf := (HXD.out wb hbb).1.2.2.2
            rw [e] at hf
            exact frow_cells hf
          have HG : Hid (∀ W, wb.grownBy W (Value.slice (some ⟨wr.heap.size + 1, 0, none⟩) 1 1).ownBlock → Below w6.heap.size w6 W ∧ W.heap[wr.heap.size]? = some (.cells #[.string h.verb, .string h.target, .string s, .slice a2 h.fs.length c2, .string h.body] 40 (0, 0)) ∧ wr.heap.size + 2 ≤ W.heap.size) := Lib.hid fun W hg => by
            have q1 := hbb.grown hg hbb.size (fun k hk => by cases hk; show w6.heap.size ≤ wr.heap.size + 1; omega)
            have q2 := (Below.refl (wr.heap.size + 1) wb).grown hg (by omega) (fun k hk => by cases hk; exact Nat.le_refl _)
            exact ⟨q1, (q2.block _ (by omega)).trans hxb, by have := hg.size; omega⟩
          have HT : Hid (∀ W v, Below w6.heap.size w6 W → W.heap[wr.heap.size]? = some (.cells #[.string h.verb, .string h.target, .string s, .slice a2 h.fs.length c2, .string h.body] 40 (0, 0)) → W.ownsRow (wr.heap.size + 1) 50 2 v ((bCookie, bZ) :: h.fs).length (fcells ((bCookie, bZ) :: h.fs)) → Below w6.heap.size w6 (W.setCell ⟨wr.heap.size, 3, none⟩ v) ∧ (W.setCell ⟨wr.heap.size, 3, none⟩ v).heap[wr.heap.size]? = some (.cells #[.string h.verb, .string h.target, .string s, v, .string h.body] 40 (0, 0)) ∧ FRow (W.setCell ⟨wr.heap.size, 3, none⟩ v) v ((bCookie, bZ) :: h.fs)) := Lib.hid fun W v hq hx ho =>
            ⟨hq.grown (grown_setk (World.grownBy.refl _ (some wr.heap.size))) hq.size (fun k hk => by cases hk; exact hw0), heap_setCell_same W wr.heap.size 3 _ _ v hx, frow_own' (own_setk ho (by omega) v)⟩
          obtain ⟨y0, y1, y2, y3, y4, _⟩ := five_facts (HXD.out wb hbb).2.2.1
          rw [hwb, hwc] at hmb hcb HG y0 y1 y2 y3 y4
          have HMB := Lib.hid hmb; have HCB := Lib.hid hcb
          have i2 : (j : Int) < (x.names.length : Int) := by omega
          clear hmb hcb hwa hba ka2 ka4 hwc hwb hbc hbb hsc hsb hxc hxb hKQ hHQ k2 k3 k4
          go_wp2_with (at_builtin; go_must (refine wpList_append_opt rfl _ _ 38 (by rfl) (wr.heap.size + 1) 50 i0 _ 2 32 Tryz.underlying38 HIN.out hy0 hy1 hy2 (by rfl) (by decide) _ 1 [.string ⟨#[99, 111, 111, 107, 105, 101]⟩, .string ⟨#[122]⟩] (by rfl) HMB.out a2 h.fs.length c2 (fcells h.fs) (by rfl) (fcells_len _) HAO.out HCB.out HOK.out (by have := HNL.out; unfold maxLen; omega) (by have := HNL.out; omega) (by simp) ?_); intro v5 w8 ho8 hg8; obtain ⟨hb8, hx8, hz8⟩ := HG.out w8 hg8; obtain ⟨a7, c7, hv7⟩ := own_len2 ho8; subst hv7; obtain ⟨_, _, _, _, _, f0, f1, f2, f3, f4⟩ := five_facts hx8; obtain ⟨hb9, hx9, hf9⟩ := HT.out _ _ hb8 hx8 (show w8.ownsRow (wr.heap.size + 1) 50 2 (.slice a7 (1 + h.fs.length) c7) ((bCookie, bZ) :: h.fs).length (fcells ((bCookie, bZ) :: h.fs)) by have := ho8; rw [show 1 + h.fs.length = ((bCookie, bZ) :: h.fs).length by simp [Nat.add_comm]] at this ⊢; exact this); clear hg8 hx8 hb8 y0 y1 y2 y3 y4 p0 m0 m1 m2 ka5 na q0 t1 t2 t3 t4 t5 g0 g1 g2 k5; obtain ⟨kE, k4, k5, k6, k7⟩ := HXD.out _ hb9; obtain ⟨q0, _⟩ := one_fact k4; obtain ⟨g0, g1, g2, _⟩ := three_facts k6; obtain ⟨t0, t1, t2, t3, t4, _⟩ := five_facts hx9; have hK := HKQ.out _ _ kE.1 kE.2.2.1 hf9)
          obtain ⟨W7, hW7⟩ : ∃ y, y = w8.setCell ⟨wr.heap.size, 3, none⟩ (.slice a7 (1 + h.fs.length) c7) := ⟨_, rfl⟩
          rw [← hW7] at hb9 hx9 hf9 hK ⊢
          have HXE : Hid (∀ W, Below W7.heap.size W7 W → Below w6.heap.size w6 W ∧ W.heap[w3.heap.size]? = some (.cells #[.int .i64 (p : Int), .string h.target, .int .i64 (M : Int)] 27 (0, 0)) ∧ W.heap[wr.heap.size]? = some (.cells #[.string h.verb, .string h.target, .string s, .slice a7 (1 + h.fs.length) c7, .string h.body] 40 (0, 0)) ∧ FRow W (.slice a7 (1 + h.fs.length) c7) ((bCookie, bZ) :: h.fs)) := Lib.hid fun W hW => by
            have hd := hb9.trans (hW.mono hb9.size)
            exact ⟨hd, (HXD.out _ hd).2.2.2.1, heap_keep hW (Nat.le_refl _) _ _ hx9, hf9.below (Nat.le_refl _) hW⟩
          clear hW7 hb9 hx9 hf9 k4 k5 k6 k7 kE ho8 hz8 f0 f1 f2 f3 f4 HG HT HMB HCB
          cases Bq with
          | true =>
            rw [if_pos rfl] at hK
            unfold keyV at hK
            dsimp only at hK
            refine hK.mono ?_
            rintro e w9 ⟨rfl, hb10⟩
            clear hK q0 g0 g1 g2 t0 t1 t2 t3 t4
            obtain ⟨w10, hw10⟩ : ∃ y, y = w9.alloc (.cells #[.int .i64 (p : Int), .string h.target, .int .i64 (M : Int)] 27) := ⟨_, rfl⟩
            have hb11 : Below W7.heap.size W7 w10 := by rw [hw10]; exact hb10.alloc hb10.size _
            obtain ⟨kB, k6, k7, k8⟩ := HXE.out _ hb11
            obtain ⟨g0, g1, g2, _⟩ := three_facts k6
            obtain ⟨t0, t1, t2, t3, t4, _⟩ := five_facts k7
            have hY := heap_alloc_new w9 (.cells #[.int .i64 (p : Int), .string h.target, .int .i64 (M : Int)] 27)
            obtain ⟨z0, z1, z2, _⟩ := three_facts hY
            have er : (h.target.toList == h.target.toList) = true := by simp
            have HB := Lib.hid kB
            rw [hw10] at g0 g1 g2 t0 t1 t2 t3 t4 HB
            clear k6 k7 k8 kB hb10 hb11 hw10 hY HKQ HHQ HQ HNS HXD
            go_wp2
            go_roundw
            case rel => exact ⟨j + 1, by omega, by go_num, HB.out⟩
            case measure => simp [intOf]; omega
          | false =>
            rw [if_neg (by decide)] at hK
            unfold keyV noKy at hK
            dsimp only at hK
            refine hK.mono ?_
            rintro e w9 ⟨rfl, hb10⟩
            clear hK q0 g0 g1 g2 t0 t1 t2 t3 t4
            obtain ⟨w10, hw10⟩ : ∃ y, y = w9.alloc (.cells #[.int .i64 0, .string ⟨#[]⟩, .int .i64 0] 27) := ⟨_, rfl⟩
            have hb11 : Below W7.heap.size W7 w10 := by rw [hw10]; exact hb10.alloc hb10.size _
            obtain ⟨kB, k6, k7, k8⟩ := HXE.out _ hb11
            obtain ⟨g0, g1, g2, _⟩ := three_facts k6
            obtain ⟨t0, t1, t2, t3, t4, _⟩ := five_facts k7
            have hY := heap_alloc_new w9 (.cells #[.int .i64 0, .string ⟨#[]⟩, .int .i64 0] 27)
            obtain ⟨z0, z1, z2, _⟩ := three_facts hY
            have hH := HHQ.out _ _ (HXD.out _ kB).1.1 k8
            rw [hw10] at g0 g1 g2 t0 t1 t2 t3 t4
            have HW10 := Lib.hid hw10
            clear k6 k7 k8 hb10 hw10 hY HKQ HHQ HQ HNS HXE
            go_wp2_with fail
            rw [← HW10.out]
            refine hH.mono ?_
            rintro e w12 ⟨rfl, hb12⟩
            have HB := Lib.hid (kB.trans (hb12.mono kB.size))
            clear hH kB hb11 hb12 g0 g1 g2 t0 t1 t2 t3 t4 z0 z1 z2 HXD
            go_wp2
            go_roundw
            case rel => exact ⟨j + 1, by omega, by go_num, HB.out⟩
            case measure => simp [intOf]; omega
        · have hje : j = x.names.length := by omega
          subst hje
          have HB := Lib.hid (HXD.out _ hb).1.2.1
          have HCL := Lib.hid (HXD.out _ hb).1.1.1
          clear hb hjl k2 k3 k4
          go_wp2_with fail
          refine (gd_ok _ HCL.out).mono ?_
          rintro e w12 ⟨rfl, rfl⟩
          clear q0 t1 t2 t3 t4 t5 g0 g1 g2 k5
          go_wp2
          go_ret
          exact ⟨rfl, HB.out⟩
namespace Lw
theorem fnKeyOf (w : World) (hL : laidMetH Tryz.prog Rows.fnKeyOfRow.laid w) (a : Option Addr) (len cap : Nat) (zs : List Int) (h : IsRow .u8 w a len cap zs) :
    Calls Tryz.prog 4 #[.slice a len cap] w fun e w' => e = .returned (.bool true) ∧ Below w.heap.size w w' := by
  have hL' : laidMet Tryz.prog Rows.fnKeyOfRow.laid w := hL
  exact law_keyofd a len cap zs w h ⟨cls_of_head hL'.tail.tail.tail.tail.tail.tail, tab_of_head hL'.tail.tail, cds_of_head hL'.tail.tail.tail.tail.tail.tail.tail, errs_of_heads hL'.tail.tail.tail.tail⟩
end Lw
end Go.Proofs.YtncegikmpapldaaGreatDoor

