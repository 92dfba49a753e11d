/- Pure laws on keys: their texts, and what is asked for them. -/
import Derived.Test.YtiepobifbkleaaaGreatDoorGKy
namespace Go.Proofs.YtiepobifbkleaaaGreatDoor
open Go.RowKit

theorem numT_ok {n : Int} (h0 : 0 ≤ n) (h1 : n ≤ 999999) : numT n = Lib.decDigits n.toNat := if_pos ⟨h0, h1⟩
theorem dec_no32 (n : Nat) : (32 : UInt8) ∉ Lib.decDigits n := fun h => by
  have := List.all_eq_true.1 (dec_digs n) 32 h
  exact absurd this (by decide)
theorem numR_yesK {l : List UInt8} (h : (numR l).2 = true) : Lib.decDigits (numR l).1 = l ∧ (numR l).1 ≤ 999999 := by
  unfold numR at h ⊢
  split
  · rename_i hc
    refine ⟨hc.2.2.2, ?_⟩
    have h1 := valF_lt l 0 hc.2.2.1
    have h2 : 10 ^ l.length ≤ 10 ^ 6 := Nat.pow_le_pow_right (by omega) hc.2.1
    simp only; omega
  · rename_i hc
    rw [if_neg hc] at h; cases h
theorem keyR_back {hs : List Hs} {k : Ky} (h : keyB hs k = true) : keyR hs (keyT k) = (k, true) := by
  obtain ⟨hc, ⟨h0, h1⟩, h2, h3, h4⟩ := keyB_iff.1 h
  have hl := (cfgB_iff.1 hc).1.2
  unfold keyR keyT
  rw [numT_ok h0 (by omega), numT_ok h3 (by omega), cutL_yes _ _ _ (dec_no32 _)]
  dsimp only
  rw [cutL_yes _ _ _ (dec_no32 _)]
  dsimp only
  rw [numR_dec _ (by omega), numR_dec _ (by omega)]
  dsimp only
  have e : (⟨((k.house.toNat : Nat) : Int), ⟨k.place.data.toList.toArray⟩, ((k.mask.toNat : Nat) : Int)⟩ : Ky) = k := by
    obtain ⟨a, b, c⟩ := k
    simp only [Ky.mk.injEq]
    exact ⟨Int.toNat_of_nonneg h0, by simp, Int.toNat_of_nonneg h3⟩
  rw [e, if_pos ⟨rfl, rfl, h⟩]
theorem keyR_is {hs : List Hs} {l : List UInt8} {x : Ky} (h : keyR hs l = (x, true)) : keyB hs x = true ∧ keyT x = l := by
  unfold keyR at h
  split at h
  · rename_i hc
    obtain ⟨c1, c2, c3⟩ := hc
    injection h with h _
    rw [h] at c3
    refine ⟨c3, ?_⟩
    have hp := (keyB_iff.1 c3).2.2.1
    obtain ⟨d1, n1⟩ := numR_yesK c1
    obtain ⟨d2, n2⟩ := numR_yesK c2
    subst h
    have f1 : (cutL l 32).2.2 = true := by
      rcases e : (cutL l 32).2.2 with _ | _
      · rw [(cut_false e).2] at c2; cases c2
      · rfl
    have f2 : (cutL (cutL l 32).2.1 32).2.2 = true := by
      rcases e : (cutL (cutL l 32).2.1 32).2.2 with _ | _
      · rw [(cut_false e).2] at hp; exact absurd hp canon_nil
      · rfl
    unfold keyT
    dsimp only
    rw [numT_ok (by omega) (by omega), numT_ok (by omega) (by omega), Int.toNat_natCast, Int.toNat_natCast, d1, d2]
    conv => rhs; rw [cut_join f1, cut_join f2]
  · cases h
theorem keyT_inj {hs : List Hs} {k j : Ky} (hk : keyB hs k = true) (hj : keyB hs j = true) (h : keyT k = keyT j) : k = j := by
  have h1 := keyR_back hk
  rw [h, keyR_back hj] at h1
  injection h1 with h1 _
  exact h1.symm

/-! ### What goes on -/
theorem get_iff {hs : List Hs} {h : Hd} {verb : List UInt8} : askB hs h verb = true ↔ 0 ≤ routeI hs h.host ∧ h.verb.data.toList = verb ∧ hedB h = true := by
  simp only [askB, Bool.and_eq_true, decide_eq_true_eq]
theorem name0_at {hs : List Hs} (hc : cfgB hs = true) {i : Int} (h0 : 0 ≤ i) (h1 : i < hs.length) :
    ∃ x, hs[i.toNat]? = some x ∧ x.names[0]? = some (name0 hs i) ∧ name0 hs i ∈ x.names ∧ hostB (name0 hs i).data.toList = true := by
  have hx : hs[i.toNat]? = some (hs[i.toNat]'(by omega)) := List.getElem?_eq_getElem _
  obtain ⟨a, _, _, _, b⟩ := houseB_iff.1 ((cfgB_iff.1 hc).2.1 _ (List.mem_of_getElem? hx))
  have hn : (hs[i.toNat]'(by omega)).names[0]? = some ((hs[i.toNat]'(by omega)).names[0]'(by omega)) := List.getElem?_eq_getElem _
  have e : name0 hs i = (hs[i.toNat]'(by omega)).names[0]'(by omega) := by unfold name0; rw [hx]; simp only [hn, Option.getD_some]
  rw [e]
  exact ⟨_, hx, hn, List.getElem_mem _, b _ (List.getElem_mem _)⟩
theorem route_lt {hs : List Hs} {s : ByteArray} (h : 0 ≤ routeI hs s) : cfgB hs = true ∧ routeI hs s < hs.length := by
  unfold routeI at h ⊢
  split at h
  · rename_i hc
    rw [if_pos hc]
    refine ⟨hc, ?_⟩
    cases hf : findI hs s with
    | none => rw [hf] at h; exact absurd h (by decide)
    | some k =>
      unfold findI at hf
      rw [List.findIdx?_eq_some_iff_getElem] at hf
      obtain ⟨hk, _⟩ := hf
      show (k : Int) < _
      omega
  · exact absurd h (by decide)
theorem route_no {hs : List Hs} {s : ByteArray} (h : cfgB hs = false) : routeI hs s = -1 := by
  unfold routeI; rw [h]; rfl
theorem canon_le {l : List UInt8} (h : canonL l = some l) : l.length ≤ 40 := (canon_iff h).1
theorem tok_val {l : List UInt8} (h : tokB l = true) : valB l = true ∧ l.length ≤ 12 := by
  have h' := h
  simp only [tokB, Bool.and_eq_true, decide_eq_true_eq] at h'
  refine ⟨?_, h'.1.2⟩
  have hs := h'.2
  simp only [valB, Bool.and_eq_true, decide_eq_true_eq]
  refine ⟨⟨by omega, ?_⟩, trim_none fun hb => ?_⟩
  · exact List.all_eq_true.2 fun b hb => small_print b (smalls_mem hs hb)
  · exact (hsmall_lt 32 (smalls_mem hs hb)).2.1 rfl
theorem ky_val : ∀ m : Fin 8, valB (codT (m.val : Int)) = true ∧ (codT (m.val : Int)).length ≤ 30 := by decide +kernel
theorem mask_fin {m : Int} (h : 0 ≤ m ∧ m < 8) : ∃ p : Fin 8, m = (p.val : Int) := ⟨⟨m.toNat, by omega⟩, by simp only; omega⟩
theorem acc_own : ownB bAcc.data.toList = false := by decide
theorem ifn_own : ownB bIfNone.data.toList = false := by decide
theorem acc_tok : tokB bAcc.data.toList = true := by decide
theorem ifn_tok : tokB bIfNone.data.toList = true := by decide
theorem get_verb : verbB sGet.data.toList = true := by decide
theorem put_verb : verbB sPut.data.toList = true := by decide
theorem nil_body : bodyB (⟨#[]⟩ : ByteArray).data.toList = true := by decide
theorem ask_fs {k : Ky} {tag : ByteArray} (hm : 0 ≤ k.mask ∧ k.mask < 8) (ht : tagB tag.data.toList = true) :
    ∀ f ∈ askFs k tag, fdB f = true ∧ ownB f.1.data.toList = false := by
  obtain ⟨p, hp⟩ := mask_fin hm
  intro f hf
  unfold askFs at hf
  rcases List.mem_cons.1 hf with rfl | hf
  · rw [hp]
    refine ⟨?_, acc_own⟩
    simp only [fdB, Bool.and_eq_true]
    exact ⟨acc_tok, by simpa using (ky_val p).1⟩
  · split at hf
    · cases hf
    · rename_i hne
      obtain rfl : f = (bIfNone, tag) := by simpa using hf
      refine ⟨?_, ifn_own⟩
      simp only [tagB, Bool.or_eq_true, decide_eq_true_eq] at ht
      simp only [fdB, Bool.and_eq_true]
      exact ⟨ifn_tok, (tok_val (ht.resolve_left hne)).1⟩
theorem fd_len {f : ByteArray × ByteArray} (h : fdB f = true) : (fdT f).data.toList.length ≤ 44 := by
  obtain ⟨a, b⟩ := f
  rw [fdT_list h]
  simp only [fdB, tokB, valB, Bool.and_eq_true, decide_eq_true_eq] at h
  simp only [List.length_append, List.length_cons]
  omega
theorem joinL_fs {fs : List (ByteArray × ByteArray)} (h : ∀ f ∈ fs, fdB f = true) : (joinL (fs.map fun f => (fdT f).data.toList)).length ≤ 45 * fs.length := by
  induction fs with
  | nil => simp [joinL]
  | cons f fs ih =>
    have h1 := fd_len (h f (by simp))
    have h2 := ih fun g hg => h g (by simp [hg])
    rw [List.map_cons, joinL_len, List.length_cons]
    omega
/-- A request of good parts, of few fields, is good. -/
theorem head_ok {h : Hd} (hv : verbB h.verb.data.toList = true) (ht : canonL h.target.data.toList = some h.target.data.toList) (hh : hostB h.host.data.toList = true) (hm : h.fs.length ≤ 2) (hb : bodyB h.body.data.toList = true)
    (hp : h.body.data.toList = [] ∨ h.verb.data.toList = bPut) (hf : ∀ f ∈ h.fs, fdB f = true ∧ ownB f.1.data.toList = false) : hedB h = true := by
  refine hedB_iff.2 ⟨hv, ht, hh, by omega, hb, hp, hf, ?_⟩
  have h1 : h.verb.data.toList.length ≤ 5 := by rcases verb_cases hv with e | e | e <;> rw [e] <;> decide
  have h2 := canon_le ht
  have h3 := host_len hh
  have h4 := joinL_fs (fun f hf' => (hf f hf').1)
  have h5 : (joinL (lenLines h.body.data.toList)).length ≤ 12 := by
    unfold lenLines
    split
    · simp [joinL]
    · have hl : h.body.data.toList.length ≤ 20 := by
        simp only [bodyB, Bool.and_eq_true, decide_eq_true_eq] at hb; exact hb.1
      have := dec_len_le 1 h.body.data.toList.length (by omega)
      rw [joinL_len]
      simp only [List.length_append, List.length_cons, joinL, List.flatMap_nil, List.length_nil]
      have : bLength.length = 6 := rfl
      omega
  unfold headT hedLines
  rw [joinL_cons, joinL_cons, joinL_app]
  have : bHost.length = 4 := rfl
  simp only [List.length_append, List.length_cons, List.length_nil]
  omega
theorem askFs_len (k : Ky) (tag : ByteArray) : (askFs k tag).length ≤ 2 := by
  unfold askFs; split <;> simp
theorem ask_hed {hs : List Hs} {k : Ky} {tag : ByteArray} (h : keyB hs k = true) (ht : tagB tag.data.toList = true) : hedB (keyAsk hs k tag) = true := by
  obtain ⟨hc, ⟨h0, h1⟩, h2, h3⟩ := keyB_iff.1 h
  obtain ⟨x, _, _, _, hn⟩ := name0_at hc h0 h1
  unfold keyAsk
  rw [if_pos ⟨h, ht⟩]
  exact head_ok get_verb h2 hn (askFs_len k tag) nil_body (.inl rfl) (ask_fs h3 ht)
theorem put_hed {hs : List Hs} {h : Hd} (ha : askB hs h bPut = true) : hedB (putAsk hs h).1 = true := by
  obtain ⟨h0, hv, hb⟩ := get_iff.1 ha
  obtain ⟨hc, h1⟩ := route_lt h0
  obtain ⟨x, _, _, _, hn⟩ := name0_at hc h0 h1
  have hk := hedB_iff.1 hb
  unfold putAsk
  rw [if_pos ha]
  exact head_ok put_verb hk.target hn (by simp) hk.body (.inr rfl) (by simp)
theorem route_name0 {hs : List Hs} (hc : cfgB hs = true) {i : Int} (h0 : 0 ≤ i) (h1 : i < hs.length) (hr : ∀ {x : Hs} {s : ByteArray}, hs[i.toNat]? = some x → s ∈ x.names → routeI hs s = (i.toNat : Int)) : routeI hs (name0 hs i) = i := by
  obtain ⟨x, hx, _, hm, _⟩ := name0_at hc h0 h1
  rw [hr hx hm]; omega
theorem all_acc (k : Ky) (tag : ByteArray) : allTo (askFs k tag) bAcc (askFs k tag).length = [⟨(codT k.mask).toArray⟩] := by
  rw [all_filter]
  unfold askFs
  split
  · rfl
  · have : ¬ (bIfNone = bAcc) := by decide
    simp [this]
theorem all_tag (k : Ky) (tag : ByteArray) : allTo (askFs k tag) bIfNone (askFs k tag).length = if tag.data.toList = [] then [] else [tag] := by
  rw [all_filter]
  have : ¬ (bAcc = bIfNone) := by decide
  unfold askFs
  split <;> simp [this]
theorem hedT_inj {h g : Hd} (hh : hedB h = true) (hg : hedB g = true) (e : hedT h = hedT g) : h = g := by
  have h1 := read_write hh []
  have h2 := read_write hg []
  rw [e, h2] at h1
  injection h1 with h1 _
  exact h1.symm
theorem hedT_ne (h : Hd) : hedT h ≠ [] := by
  unfold hedT headT
  intro e
  have := congrArg List.length e
  simp only [List.length_append, List.length_cons, List.length_nil] at this
  omega
end Go.Proofs.YtiepobifbkleaaaGreatDoor
