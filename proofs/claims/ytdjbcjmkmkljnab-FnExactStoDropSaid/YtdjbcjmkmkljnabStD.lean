/- Walks: links, by the program: a link goes. -/
import Derived.Test.YtdjbcjmkmkljnabStC
namespace Go.Proofs.Ytdjbcjmkmkljnab
open Go.RowKit Go.Maps

def cut1 (w : World) (c : Nat) (A R : List (Nat × En)) : World := match endB none A with
  | none => w.setCell ⟨c, 0, none⟩ (ptrO (hdB R))
  | some a => w.setCell ⟨a, 12, none⟩ (ptrO (hdB R))
def cut2 (w : World) (A R : List (Nat × En)) : World := match hdB R with
  | none => w
  | some x => w.setCell ⟨x, 11, none⟩ (ptrO (endB none A))
def ahF (ah : Nat → Option Nat) (A R : List (Nat × En)) : Nat → Option Nat := match hdB R with
  | none => ah
  | some x => fup ah x (endB none A)
def nxF (nx : Nat → Option Nat) (A R : List (Nat × En)) : Nat → Option Nat := match endB none A with
  | none => nx
  | some a => fup nx a (hdB R)
theorem endB_none : ∀ {A : List (Nat × En)}, endB none A = none ↔ A = []
  | [] => by simp [endB]
  | x :: r => by
    simp only [reduceCtorEq, iff_false]
    intro h
    have : ∀ (r : List (Nat × En)) (y : Nat), endB (some y) r ≠ none := fun r => by
      induction r with
      | nil => intro y h; cases h
      | cons z r ih => intro y h; exact ih _ h
    exact this r x.1 h

theorem nd_split {A R : List (Nat × En)} {b : Nat} {e : En} (h : ((A ++ (b, e) :: R).map (·.1)).Nodup) :
    b ∉ A.map (·.1) ∧ b ∉ R.map (·.1) ∧ (∀ x ∈ A.map (·.1), x ∉ R.map (·.1)) ∧ ((A ++ R).map (·.1)).Nodup := by
  rw [List.map_append, List.map_cons, List.nodup_append, List.nodup_cons] at h
  obtain ⟨h1, ⟨h2, h3⟩, h4⟩ := h
  refine ⟨fun hb => h4 b hb b (by simp) rfl, h2, fun x hx hr => h4 x hx x (List.mem_cons_of_mem _ hr) rfl, ?_⟩
  rw [List.map_append, List.nodup_append]
  exact ⟨h1, h3, fun x hx y hy => h4 x hx y (List.mem_cons_of_mem _ hy)⟩

theorem cut_facts {w : World} {c mb B N b : Nat} {A R : List (Nat × En)} {e : En} (h : Chn w c mb B N (A ++ (b, e) :: R)) :
    ∃ dom ah nx tw, Lk ah nx tw none (A ++ (b, e) :: R) ∧ (∀ x ∈ A ++ (b, e) :: R, dom x.1 = some x.2) ∧ Mem (cut2 (cut1 w c A R) A R) dom (ahF ah A R) (nxF nx A R) tw ∧
      (cut2 (cut1 w c A R) A R).heap[c]? = some (chO (hdB (A ++ R)) mb) ∧ Only (Cs c mb (A ++ (b, e) :: R)) w (cut2 (cut1 w c A R) A R) ∧ (cut2 (cut1 w c A R) A R).heap[b]? = w.heap[b]? ∧ (cut2 (cut1 w c A R) A R).heap[mb]? = w.heap[mb]? := by
  obtain ⟨dom0, ah, nx, tw, hM0, hL, hd0⟩ := h.links
  obtain ⟨n1, n2, n3, n4⟩ := nd_split h.nodup
  obtain ⟨fb1, fb2, fb3⟩ := h.far (b, e) (by simp)
  have hcm := h.low.2.2
  -- the head and the map are no links
  obtain ⟨dom, hM, hd, hdc⟩ : ∃ dom, Mem w dom ah nx tw ∧ (∀ x ∈ A ++ (b, e) :: R, dom x.1 = some x.2) ∧ dom c = none := by
    refine ⟨fun j => if j = c then none else dom0 j, fun j f hj => ?_, fun x hx => ?_, by simp⟩
    · dsimp only at hj
      split at hj
      · cases hj
      · exact hM0 j f hj
    · dsimp only
      rw [if_neg (h.far x hx).2.1]; exact hd0 x hx
  have farA : ∀ a, endB none A = some a → a ≠ c ∧ a ≠ mb ∧ a ≠ b ∧ a ∈ A.map (·.1) := fun a ha => by
    have hm := endB_mem ha
    obtain ⟨x, hx, rfl⟩ := List.mem_map.1 hm
    have := h.far x (List.mem_append_left _ hx)
    exact ⟨this.2.1, this.2.2, fun e => n1 (e ▸ hm), hm⟩
  have farR : ∀ a, hdB R = some a → a ≠ c ∧ a ≠ mb ∧ a ≠ b ∧ a ∈ R.map (·.1) := fun a ha => by
    have hm := hdB_mem ha
    obtain ⟨x, hx, rfl⟩ := List.mem_map.1 hm
    have := h.far x (List.mem_append_right _ (List.mem_cons_of_mem _ hx))
    exact ⟨this.2.1, this.2.2, fun e => n2 (e ▸ hm), hm⟩
  have hcA : ∀ x, x ∈ A.map (·.1) → Cs c mb (A ++ (b, e) :: R) x := fun x hx => .inr (.inr (by rw [List.map_append]; exact List.mem_append_left _ hx))
  have hcR : ∀ x, x ∈ R.map (·.1) → Cs c mb (A ++ (b, e) :: R) x := fun x hx => .inr (.inr (by rw [List.map_append]; exact List.mem_append_right _ (List.mem_cons_of_mem _ hx)))
  -- the first cut
  have s1 : Mem (cut1 w c A R) dom ah (nxF nx A R) tw ∧ (cut1 w c A R).heap[c]? = some (chO (hdB (A ++ R)) mb) ∧ Only (Cs c mb (A ++ (b, e) :: R)) w (cut1 w c A R) ∧ (cut1 w c A R).heap[b]? = w.heap[b]? ∧ (cut1 w c A R).heap[mb]? = w.heap[mb]? := by
    unfold cut1 nxF
    cases ha : endB none A with
    | none =>
      have hA := endB_none.1 ha
      subst hA
      refine ⟨?_, ?_, only_set _ _ _ _ (.inl rfl), set_other fb2, set_other (Ne.symm hcm)⟩
      · refine hM.keep fun j f hj => set_other fun ec => ?_
        rw [ec, hdc] at hj; cases hj
      · exact chO_set h.head _
    | some a =>
      obtain ⟨a1, a2, a3, a4⟩ := farA a ha
      refine ⟨hM.setN _ _, ?_, only_set _ _ _ _ (hcA a a4), set_other (Ne.symm a3), set_other (Ne.symm a2)⟩
      rw [set_other (Ne.symm a1)]
      have : hdB (A ++ R) = hdB (A ++ (b, e) :: R) := by
        cases A with
        | nil => cases ha
        | cons x r => rfl
      rw [this]; exact h.head
  obtain ⟨m1, m2, m3, m4, m5⟩ := s1
  refine ⟨dom, ah, nx, tw, hL, hd, ?_⟩
  generalize cut1 w c A R = w1 at *
  unfold cut2 ahF
  cases hr : hdB R with
  | none => exact ⟨m1, m2, m3, m4, m5⟩
  | some x =>
    obtain ⟨a1, a2, a3, a4⟩ := farR x hr
    exact ⟨m1.setA _ _, (set_other (Ne.symm a1)).trans m2, m3.trans (only_set _ _ _ _ (hcR x a4)), (set_other (Ne.symm a3)).trans m4, (set_other (Ne.symm a2)).trans m5⟩

theorem end_snoc (p : Option Nat) (A : List (Nat × En)) (x : Nat × En) : endB p (A ++ [x]) = some x.1 := by
  induction A generalizing p with
  | nil => rfl
  | cons y r ih => exact ih _
theorem end_split {A : List (Nat × En)} {a : Nat} (h : endB none A = some a) : ∃ A' f, A = A' ++ [(a, f)] := by
  rcases List.eq_nil_or_concat A with rfl | ⟨A', x, rfl⟩
  · cases h
  · rw [List.concat_eq_append, end_snoc] at h
    injection h with h
    exact ⟨A', x.2, by rw [List.concat_eq_append, ← h]⟩
def RmPost (c mb B N : Nat) (A : List (Nat × En)) (b : Nat) (e : En) (R : List (Nat × En)) (w : World) (e' : Ending) (w' : World) : Prop :=
  e' = .returned (.tuple #[]) ∧ Chn w' c mb B (N + 1) (A ++ R) ∧ w'.heap[b]? = w.heap[b]? ∧ Only (Cs c mb (A ++ (b, e) :: R)) w w'

theorem chn_removed {w wf w' : World} {c mb B N b : Nat} {A R : List (Nat × En)} {e : En} {e' : Ending} (h : Chn w c mb B N (A ++ (b, e) :: R)) (k : Nat) (hwf : wf = (cut2 (cut1 w c A R) A R).drewN k) (hp : FgPost mb N A e R wf e' w') : RmPost c mb B N A b e R w e' w' := by
  obtain ⟨dom, ah, nx, tw, hL, hd, hM, hc, hO, hb, hm⟩ := cut_facts h
  obtain ⟨n1, n2, n3, n4⟩ := nd_split h.nodup
  obtain ⟨rfl, hp⟩ := hp
  obtain ⟨D, hD, hK⟩ := h.map
  replace hM : Mem wf dom (ahF ah A R) (nxF nx A R) tw := by rw [hwf]; exact hM
  replace hc : wf.heap[c]? = some (chO (hdB (A ++ R)) mb) := by rw [hwf]; exact hc
  replace hO : Only (Cs c mb (A ++ (b, e) :: R)) w wf := by rw [hwf]; exact only_drewN hO k
  replace hb : wf.heap[b]? = w.heap[b]? := by rw [hwf]; exact hb
  replace hm : wf.heap[mb]? = w.heap[mb]? := by rw [hwf]; exact hm
  clear hwf
  have htb : tw b = firstK e.place e.mask R := tws_at hL.tws
  have hsub : ∀ x ∈ A ++ R, x ∈ A ++ (b, e) :: R := fun x hx => by simp only [List.mem_append, List.mem_cons] at hx ⊢; rcases hx with h | h <;> simp [h]
  have memA : ∀ x ∈ A.map (·.1), Cs c mb (A ++ (b, e) :: R) x := fun x hx => .inr (.inr (by rw [List.map_append]; exact List.mem_append_left _ hx))
  have lk : ∀ tw', (∀ x ∈ A.map (·.1), tw' x = if endK e.place e.mask A = some x then tw b else tw x) → (∀ x ∈ R.map (·.1), tw' x = tw x) → Lk (ahF ah A R) (nxF nx A R) tw' none (A ++ R) := fun tw' g1 g2 =>
    lk_remove h.nodup hL
      (fun x hx => by
        unfold ahF
        cases hr : hdB R with
        | none => rfl
        | some y =>
          show fup ah y _ x = ah x
          unfold fup
          rw [if_neg]; intro ec; subst ec; exact n3 x hx (hdB_mem hr))
      (fun x hx => by
        unfold ahF
        cases hr : hdB R with
        | none => simp
        | some y =>
          show fup ah y _ x = _
          unfold fup
          by_cases ec : x = y
          · subst ec; simp
          · rw [if_neg ec, if_neg (fun e => ec (by injection e with e; exact e.symm))])
      (fun x hx => by
        unfold nxF
        cases hr : endB none A with
        | none => simp
        | some y =>
          show fup nx y _ x = _
          unfold fup
          by_cases ec : x = y
          · subst ec; simp
          · rw [if_neg ec, if_neg (fun e => ec (by injection e with e; exact e.symm))])
      (fun x hx => by
        unfold nxF
        cases hr : endB none A with
        | none => rfl
        | some y =>
          show fup nx y _ x = nx x
          unfold fup
          rw [if_neg]; intro ec; subst ec; exact n3 x (endB_mem hr) hx)
      g1 g2
  rcases hp with ⟨x, n, hx, rfl⟩ | ⟨hx, hg, D', hD', hK'⟩
  · have hxA := endK_mem hx
    obtain ⟨y, hy, hyx⟩ := List.mem_map.1 hxA
    have hfx := h.far y (List.mem_append_left _ hy)
    rw [hyx] at hfx
    have hbx : b ≠ x := fun ec => n1 (ec ▸ hxA)
    have eT : ∀ j : Nat, ((wf.setCell ⟨x, 13, none⟩ (ptrO (firstK e.place e.mask R))).drewN n).heap[j]? = (wf.setCell ⟨x, 13, none⟩ (ptrO (firstK e.place e.mask R))).heap[j]? := fun _ => rfl
    refine ⟨rfl, ⟨?_, ⟨dom, ahF ah A R, nxF nx A R, fup tw x (firstK e.place e.mask R), hM.setT _ _, lk _ (fun z hz => ?_) (fun z hz => ?_), fun z hz => hd z (hsub z hz)⟩, n4, fun z hz => h.far z (hsub z hz), h.low, ⟨D, ?_, ?_⟩, fun z hz => h.ok z (hsub z hz)⟩, ?_, ?_⟩
    · rw [eT, set_other (Ne.symm hfx.2.1)]; exact hc
    · unfold fup
      by_cases ec : z = x
      · subst ec; rw [if_pos rfl, if_pos hx, htb]
      · rw [if_neg ec, if_neg (fun e => ec (by rw [hx] at e; injection e with e; exact e.symm))]
    · unfold fup
      rw [if_neg]; intro ec; subst ec; exact n3 z hxA hz
    · obtain ⟨es, clock, q, r⟩ := hD.mono (Nat.le_succ N)
      refine ⟨es, clock, ?_, r⟩
      rw [eT, set_other (Ne.symm hfx.2.2), hm]; exact q
    · refine mapk_same hK fun q j => ?_
      by_cases ek : isK q j e = true
      · rw [firstK_append, firstK_append, firstK_cons, if_pos ek]
        have : firstK q j A ≠ none := by
          obtain ⟨i1, i2⟩ := isK_iff.1 ek
          subst i1 i2
          intro h0
          rw [first_end.2 h0] at hx; cases hx
        cases hq : firstK q j A with
        | none => exact absurd hq this
        | some y => rfl
      · exact firstK_without (by rw [Bool.eq_false_iff]; exact ek)
    · rw [eT, set_other hbx]; exact hb
    · exact only_drewN (hO.trans (only_set _ _ _ _ (memA x hxA))) n
  · refine ⟨rfl, ⟨?_, ⟨dom, ahF ah A R, nxF nx A R, tw, ?_, lk _ (fun z hz => ?_) (fun z hz => rfl), fun z hz => hd z (hsub z hz)⟩, n4, fun z hz => h.far z (hsub z hz), h.low, ⟨D', hD', hK'⟩, fun z hz => h.ok z (hsub z hz)⟩, ?_, ?_⟩
    · rw [hg.block c (by have := hO.size; have := (h.cs (j := c) (.inl rfl)).2; omega) (fun e => h.low.2.2 (by injection e))]; exact hc
    · obtain ⟨es0, cl0, hmb0, _⟩ := hD
      intro j f hj
      have hj1 := hM j f hj
      rw [hg.block j (Array.getElem?_eq_some_iff.1 hj1).1 (fun e => ?_)]
      · exact hj1
      · injection e with e
        subst e
        rw [hm, hmb0] at hj1
        cases hj1
    · rw [if_neg]; rw [hx]; intro e; cases e
    · rw [hg.block b (by have := hO.size; have := (h.cs (j := b) (.inr (.inr (by simp)))).2; omega) (fun ec => (h.far (b, e) (by simp)).2.2 (by injection ec))]; exact hb
    · exact hO.trans (only_of_grown hg fun j hj => by injection hj with hj; subst hj; exact .inr (.inl rfl))

theorem forget_any (c mb B N b : Nat) (A R : List (Nat × En)) (e : En) (w wf : World) (h : Chn w c mb B N (A ++ (b, e) :: R)) (hN : N < maxLen) (k : Nat) (hwf : wf = (cut2 (cut1 w c A R) A R).drewN k) :
    Calls Try.prog 40 #[.pointer (some ⟨c, 0, none⟩), .pointer (some ⟨b, 0, none⟩)] wf (RmPost c mb B N A b e R w) := by
  obtain ⟨dom, ah, nx, tw, hL, hd, hM, hc, hO, hb, hm⟩ := cut_facts h
  obtain ⟨D, hD, hK⟩ := h.map
  have he := h.ok (b, e) (by simp)
  obtain ⟨es, clock, q, r⟩ := hD
  have hD' : wf.ownsMap Try.prog 51 lkElem mb N D := ⟨es, clock, by rw [hwf]; exact hm.trans q, r⟩
  cases hA : endK e.place e.mask A with
  | none => exact (forget_none c mb N b A R e _ wf dom _ _ tw (by rw [hwf]; exact hc) (by rw [hwf]; exact hM) hL.tws (hd (b, e) (by simp)) D hD' hK he hN hA).mono fun e' w' hp => chn_removed h k hwf hp
  | some xl => exact (forget_some c mb N b xl A R e _ wf dom _ _ tw (by rw [hwf]; exact hc) (by rw [hwf]; exact hM) hL.tws hd h.nodup D hD' hK he hA).mono fun e' w' hp => chn_removed h k hwf hp

set_option maxRecDepth 100000 in
set_option maxHeartbeats 1600000 in
theorem remove_any (c mb B N b : Nat) (A R : List (Nat × En)) (e : En) (w : World) (h : Chn w c mb B N (A ++ (b, e) :: R)) (hN : N < maxLen) :
    Calls Try.prog 22 #[.pointer (some ⟨c, 0, none⟩), .pointer (some ⟨b, 0, none⟩)] w (RmPost c mb B N A b e R w) := by
  have hfg := fun wf k hwf => forget_any c mb B N b A R e w wf h hN k hwf
  have hlk := h.link
  obtain ⟨-, -, l11, l12, -⟩ := lk_facts hlk
  obtain ⟨n1, n2, n3, n4⟩ := nd_split h.nodup
  cases ha : endB none A with
  | none =>
    rw [ha] at l11
    replace l11 : _ = some (Value.pointer none) := l11
    have f0 := (ch_facts h.head).2.2
    have c0 := (ch_facts h.head).1
    unfold ptrO at c0
    have hbc : c ≠ b := fun ec => (h.far (b, e) (by simp)).2.1 ec.symm
    cases hr : hdB R with
    | none =>
      rw [hr] at l12
      replace l12 : _ = some (Value.pointer none) := l12
      have hcut : cut2 (cut1 w c A R) A R = w.setCell ⟨c, 0, none⟩ (.pointer none) := by unfold cut2 cut1; rw [ha, hr]; rfl
      rw [hcut] at hfg
      have HF := Lib.hid hfg
      clear hfg hcut hlk h ha hr n1 n2 n3 n4
      go_enter Try.func22, Try.ntmps22
      go_wp2_with fail
      refine (HF.out _ 0 rfl).mono ?_
      rintro e' w1 hp
      have HP := Lib.hid hp
      obtain rfl := hp.1
      clear hp
      go_wp2
      go_end0
      exact HP.out
    | some x =>
      rw [hr] at l12
      replace l12 : _ = some (Value.pointer (some ⟨x, 0, none⟩)) := l12
      have hcut : cut2 (cut1 w c A R) A R = (w.setCell ⟨c, 0, none⟩ (.pointer (some ⟨x, 0, none⟩))).setCell ⟨x, 11, none⟩ (.pointer none) := by unfold cut2 cut1; rw [ha, hr]; rfl
      rw [hcut] at hfg
      have HF := Lib.hid hfg
      have hxm := hdB_mem hr
      have hxb : x ≠ b := fun ec => n2 (ec ▸ hxm)
      obtain ⟨fx, nx, tx, hx⟩ : ∃ f n t, w.heap[x]? = some (lkO f (some b) n t) := by
        cases R with
        | nil => cases hr
        | cons y r =>
          obtain ⟨y1, y2⟩ := y
          cases hr
          have := Chn.link (A := A ++ [(b, e)]) (R := r) (b := y1) (e := y2) (by simpa using h)
          rw [end_snoc] at this
          exact ⟨_, _, _, this⟩
      obtain ⟨-, -, y11, -, -⟩ := lk_facts hx
      have yf := lk_frozen hx 11
      replace y11 : _ = some (Value.pointer (some ⟨b, 0, none⟩)) := y11
      have hxc : x ≠ c := fun ec => by
        rw [ec, h.head] at hx; cases hx
      have hcx := Ne.symm hxc
      clear hfg hcut hlk h ha hr n1 n2 n3 n4 hx hxm
      go_enter Try.func22, Try.ntmps22
      go_wp2_with fail
      go_region
      go_wp2_with fail
      refine (HF.out _ 1 rfl).mono ?_
      rintro e' w1 hp
      have HP := Lib.hid hp
      obtain rfl := hp.1
      clear hp
      go_wp2
      go_end0
      exact HP.out
  | some a =>
    rw [ha] at l11
    replace l11 : _ = some (Value.pointer (some ⟨a, 0, none⟩)) := l11
    have ham := endB_mem ha
    have hab : a ≠ b := fun ec => n1 (ec ▸ ham)
    obtain ⟨fa, aa, ta, hx2⟩ : ∃ f p t, w.heap[a]? = some (lkO f p (some b) t) := by
      obtain ⟨A', f, rfl⟩ := end_split ha
      have := Chn.link (A := A') (R := (b, e) :: R) (b := a) (e := f) (by simpa using h)
      exact ⟨_, _, _, this⟩
    obtain ⟨-, -, -, z12, -⟩ := lk_facts hx2
    have zf := lk_frozen hx2 12
    replace z12 : _ = some (Value.pointer (some ⟨b, 0, none⟩)) := z12
    cases hr : hdB R with
    | none =>
      rw [hr] at l12
      replace l12 : _ = some (Value.pointer none) := l12
      have hcut : cut2 (cut1 w c A R) A R = w.setCell ⟨a, 12, none⟩ (.pointer none) := by unfold cut2 cut1; rw [ha, hr]; rfl
      rw [hcut] at hfg
      have HF := Lib.hid hfg
      clear hfg hcut hlk h ha hr n1 n2 n3 n4 hx2 ham
      go_enter Try.func22, Try.ntmps22
      go_wp2_with fail
      go_region
      go_wp2_with fail
      refine (HF.out _ 1 rfl).mono ?_
      rintro e' w1 hp
      have HP := Lib.hid hp
      obtain rfl := hp.1
      clear hp
      go_wp2
      go_end0
      exact HP.out
    | some x =>
      rw [hr] at l12
      replace l12 : _ = some (Value.pointer (some ⟨x, 0, none⟩)) := l12
      have hcut : cut2 (cut1 w c A R) A R = (w.setCell ⟨a, 12, none⟩ (.pointer (some ⟨x, 0, none⟩))).setCell ⟨x, 11, none⟩ (.pointer (some ⟨a, 0, none⟩)) := by unfold cut2 cut1; rw [ha, hr]; rfl
      rw [hcut] at hfg
      have HF := Lib.hid hfg
      have hxm := hdB_mem hr
      have hxb : x ≠ b := fun ec => n2 (ec ▸ hxm)
      obtain ⟨fx, nx, tx, hx⟩ : ∃ f n t, w.heap[x]? = some (lkO f (some b) n t) := by
        cases R with
        | nil => cases hr
        | cons y r =>
          obtain ⟨y1, y2⟩ := y
          cases hr
          have := Chn.link (A := A ++ [(b, e)]) (R := r) (b := y1) (e := y2) (by simpa using h)
          rw [end_snoc] at this
          exact ⟨_, _, _, this⟩
      obtain ⟨-, -, y11, -, -⟩ := lk_facts hx
      have yf := lk_frozen hx 11
      replace y11 : _ = some (Value.pointer (some ⟨b, 0, none⟩)) := y11
      have hax : a ≠ x := fun ec => n3 a ham (ec ▸ hxm)
      have hxa := Ne.symm hax
      clear hfg hcut hlk h ha hr n1 n2 n3 n4 hx hx2 hxm ham
      go_enter Try.func22, Try.ntmps22
      go_wp2_with fail
      go_region
      go_wp2_with fail
      go_region
      go_wp2_with fail
      refine (HF.out _ 2 rfl).mono ?_
      rintro e' w1 hp
      have HP := Lib.hid hp
      obtain rfl := hp.1
      clear hp
      go_wp2
      go_end0
      exact HP.out
end Go.Proofs.Ytdjbcjmkmkljnab
