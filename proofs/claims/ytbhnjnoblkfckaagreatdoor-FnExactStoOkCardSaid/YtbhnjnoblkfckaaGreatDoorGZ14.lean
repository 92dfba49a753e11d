import Derived.Test.YtbhnjnoblkfckaaGreatDoorGZ13
import Derived.RangeFuncBound
import Derived.RangeFuncCalls
import Derived.RangeFuncLeaves
import Derived.Shelf.Abstract
import Derived.Shelf.RegionOpen
import Derived.OwnWalkIn
import Derived.TacticsInMore
import Derived.LoopNIn
import Derived.LoopIn
import Derived.Test.YtbhnjnoblkfckaaGreatDoorGZ09
import Derived.WalkKit
import Derived.Test.YtbhnjnoblkfckaaGreatDoorGZ12
import Derived.Test.YtbhnjnoblkfckaaGreatDoorGZ10
import Derived.Test.YtbhnjnoblkfckaaGreatDoorGZ00
import Derived.OrdersIn
import Derived.TacticsIn
-- from XStD
/- Walks: links, by the program: a link goes. -/
namespace Go.Proofs.YtbhnjnoblkfckaaGreatDoor
open Go.RowKit Go.Maps

def cut1 (w : World) (c : Nat) (A R : List (Nat × En)) : World := match endB none A with
  | none => w.setCell ⟨c, 0, none⟩ (ptrO (hdB R))
  | some a => w.setCell ⟨a, 12, none⟩ (ptrO (hdB R))
def cut2 (w : World) (A R : List (Nat × En)) : World := match hdB R with
  | none => w
  | some x => w.setCell ⟨x, 11, none⟩ (ptrO (endB none A))
def ahF (ah : Nat → Option Nat) (A R : List (Nat × En)) : Nat → Option Nat := match hdB R with
  | none => ah
  | some x => fup ah x (endB none A)
def nxF (nx : Nat → Option Nat) (A R : List (Nat × En)) : Nat → Option Nat := match endB none A with
  | none => nx
  | some a => fup nx a (hdB R)
theorem endB_none : ∀ {A : List (Nat × En)}, endB none A = none ↔ A = []
  | [] => by simp [endB]
  | x :: r => by
    simp only [reduceCtorEq, iff_false]
    intro h
    have : ∀ (r : List (Nat × En)) (y : Nat), endB (some y) r ≠ none := fun r => by
      induction r with
      | nil => intro y h; cases h
      | cons z r ih => intro y h; exact ih _ h
    exact this r x.1 h

theorem nd_split {A R : List (Nat × En)} {b : Nat} {e : En} (h : ((A ++ (b, e) :: R).map (·.1)).Nodup) :
    b ∉ A.map (·.1) ∧ b ∉ R.map (·.1) ∧ (∀ x ∈ A.map (·.1), x ∉ R.map (·.1)) ∧ ((A ++ R).map (·.1)).Nodup := by
  rw [List.map_append, List.map_cons, List.nodup_append, List.nodup_cons] at h
  obtain ⟨h1, ⟨h2, h3⟩, h4⟩ := h
  refine ⟨fun hb => h4 b hb b (by simp) rfl, h2, fun x hx hr => h4 x hx x (List.mem_cons_of_mem _ hr) rfl, ?_⟩
  rw [List.map_append, List.nodup_append]
  exact ⟨h1, h3, fun x hx y hy => h4 x hx y (List.mem_cons_of_mem _ hy)⟩

theorem cut_facts {w : World} {c mb B N b : Nat} {A R : List (Nat × En)} {e : En} (h : Chn w c mb B N (A ++ (b, e) :: R)) :
    ∃ dom ah nx tw, Lk ah nx tw none (A ++ (b, e) :: R) ∧ (∀ x ∈ A ++ (b, e) :: R, dom x.1 = some x.2) ∧ Mem (cut2 (cut1 w c A R) A R) dom (ahF ah A R) (nxF nx A R) tw ∧
      (cut2 (cut1 w c A R) A R).heap[c]? = some (chO (hdB (A ++ R)) mb) ∧ Only (Cs c mb (A ++ (b, e) :: R)) w (cut2 (cut1 w c A R) A R) ∧ (cut2 (cut1 w c A R) A R).heap[b]? = w.heap[b]? ∧ (cut2 (cut1 w c A R) A R).heap[mb]? = w.heap[mb]? := by
  obtain ⟨dom0, ah, nx, tw, hM0, hL, hd0⟩ := h.links
  obtain ⟨n1, n2, n3, n4⟩ := nd_split h.nodup
  obtain ⟨fb1, fb2, fb3⟩ := h.far (b, e) (by simp)
  have hcm := h.low.2.2
  -- the head and the map are no links
  obtain ⟨dom, hM, hd, hdc⟩ : ∃ dom, Mem w dom ah nx tw ∧ (∀ x ∈ A ++ (b, e) :: R, dom x.1 = some x.2) ∧ dom c = none := by
    refine ⟨fun j => if j = c then none else dom0 j, fun j f hj => ?_, fun x hx => ?_, by simp⟩
    · dsimp only at hj
      split at hj
      · cases hj
      · exact hM0 j f hj
    · dsimp only
      rw [if_neg (h.far x hx).2.1]; exact hd0 x hx
  have farA : ∀ a, endB none A = some a → a ≠ c ∧ a ≠ mb ∧ a ≠ b ∧ a ∈ A.map (·.1) := fun a ha => by
    have hm := endB_mem ha
    obtain ⟨x, hx, rfl⟩ := List.mem_map.1 hm
    have := h.far x (List.mem_append_left _ hx)
    exact ⟨this.2.1, this.2.2, fun e => n1 (e ▸ hm), hm⟩
  have farR : ∀ a, hdB R = some a → a ≠ c ∧ a ≠ mb ∧ a ≠ b ∧ a ∈ R.map (·.1) := fun a ha => by
    have hm := hdB_mem ha
    obtain ⟨x, hx, rfl⟩ := List.mem_map.1 hm
    have := h.far x (List.mem_append_right _ (List.mem_cons_of_mem _ hx))
    exact ⟨this.2.1, this.2.2, fun e => n2 (e ▸ hm), hm⟩
  have hcA : ∀ x, x ∈ A.map (·.1) → Cs c mb (A ++ (b, e) :: R) x := fun x hx => .inr (.inr (by rw [List.map_append]; exact List.mem_append_left _ hx))
  have hcR : ∀ x, x ∈ R.map (·.1) → Cs c mb (A ++ (b, e) :: R) x := fun x hx => .inr (.inr (by rw [List.map_append]; exact List.mem_append_right _ (List.mem_cons_of_mem _ hx)))
  -- the first cut
  have s1 : Mem (cut1 w c A R) dom ah (nxF nx A R) tw ∧ (cut1 w c A R).heap[c]? = some (chO (hdB (A ++ R)) mb) ∧ Only (Cs c mb (A ++ (b, e) :: R)) w (cut1 w c A R) ∧ (cut1 w c A R).heap[b]? = w.heap[b]? ∧ (cut1 w c A R).heap[mb]? = w.heap[mb]? := by
    unfold cut1 nxF
    cases ha : endB none A with
    | none =>
      have hA := endB_none.1 ha
      subst hA
      refine ⟨?_, ?_, only_set _ _ _ _ (.inl rfl), set_other fb2, set_other (Ne.symm hcm)⟩
      · refine hM.keep fun j f hj => set_other fun ec => ?_
        rw [ec, hdc] at hj; cases hj
      · exact chO_set h.head _
    | some a =>
      obtain ⟨a1, a2, a3, a4⟩ := farA a ha
      refine ⟨hM.setN _ _, ?_, only_set _ _ _ _ (hcA a a4), set_other (Ne.symm a3), set_other (Ne.symm a2)⟩
      rw [set_other (Ne.symm a1)]
      have : hdB (A ++ R) = hdB (A ++ (b, e) :: R) := by
        cases A with
        | nil => cases ha
        | cons x r => rfl
      rw [this]; exact h.head
  obtain ⟨m1, m2, m3, m4, m5⟩ := s1
  refine ⟨dom, ah, nx, tw, hL, hd, ?_⟩
  generalize cut1 w c A R = w1 at *
  unfold cut2 ahF
  cases hr : hdB R with
  | none => exact ⟨m1, m2, m3, m4, m5⟩
  | some x =>
    obtain ⟨a1, a2, a3, a4⟩ := farR x hr
    exact ⟨m1.setA _ _, (set_other (Ne.symm a1)).trans m2, m3.trans (only_set _ _ _ _ (hcR x a4)), (set_other (Ne.symm a3)).trans m4, (set_other (Ne.symm a2)).trans m5⟩

theorem end_snoc (p : Option Nat) (A : List (Nat × En)) (x : Nat × En) : endB p (A ++ [x]) = some x.1 := by
  induction A generalizing p with
  | nil => rfl
  | cons y r ih => exact ih _
theorem end_split {A : List (Nat × En)} {a : Nat} (h : endB none A = some a) : ∃ A' f, A = A' ++ [(a, f)] := by
  rcases List.eq_nil_or_concat A with rfl | ⟨A', x, rfl⟩
  · cases h
  · rw [List.concat_eq_append, end_snoc] at h
    injection h with h
    exact ⟨A', x.2, by rw [List.concat_eq_append, ← h]⟩
def RmPost (c mb B N : Nat) (A : List (Nat × En)) (b : Nat) (e : En) (R : List (Nat × En)) (w : World) (e' : Ending) (w' : World) : Prop :=
  e' = .returned (.tuple #[]) ∧ Chn w' c mb B (N + 1) (A ++ R) ∧ w'.heap[b]? = w.heap[b]? ∧ Only (Cs c mb (A ++ (b, e) :: R)) w w'

theorem chn_removed {w wf w' : World} {c mb B N b : Nat} {A R : List (Nat × En)} {e : En} {e' : Ending} (h : Chn w c mb B N (A ++ (b, e) :: R)) (k : Nat) (hwf : wf = (cut2 (cut1 w c A R) A R).drewN k) (hp : FgPost mb N A e R wf e' w') : RmPost c mb B N A b e R w e' w' := by
  obtain ⟨dom, ah, nx, tw, hL, hd, hM, hc, hO, hb, hm⟩ := cut_facts h
  obtain ⟨n1, n2, n3, n4⟩ := nd_split h.nodup
  obtain ⟨rfl, hp⟩ := hp
  obtain ⟨D, hD, hK⟩ := h.map
  replace hM : Mem wf dom (ahF ah A R) (nxF nx A R) tw := by rw [hwf]; exact hM
  replace hc : wf.heap[c]? = some (chO (hdB (A ++ R)) mb) := by rw [hwf]; exact hc
  replace hO : Only (Cs c mb (A ++ (b, e) :: R)) w wf := by rw [hwf]; exact only_drewN hO k
  replace hb : wf.heap[b]? = w.heap[b]? := by rw [hwf]; exact hb
  replace hm : wf.heap[mb]? = w.heap[mb]? := by rw [hwf]; exact hm
  clear hwf
  have htb : tw b = firstK e.place e.mask R := tws_at hL.tws
  have hsub : ∀ x ∈ A ++ R, x ∈ A ++ (b, e) :: R := fun x hx => by simp only [List.mem_append, List.mem_cons] at hx ⊢; rcases hx with h | h <;> simp [h]
  have memA : ∀ x ∈ A.map (·.1), Cs c mb (A ++ (b, e) :: R) x := fun x hx => .inr (.inr (by rw [List.map_append]; exact List.mem_append_left _ hx))
  have lk : ∀ tw', (∀ x ∈ A.map (·.1), tw' x = if endK e.place e.mask A = some x then tw b else tw x) → (∀ x ∈ R.map (·.1), tw' x = tw x) → Lk (ahF ah A R) (nxF nx A R) tw' none (A ++ R) := fun tw' g1 g2 =>
    lk_remove h.nodup hL
      (fun x hx => by
        unfold ahF
        cases hr : hdB R with
        | none => rfl
        | some y =>
          show fup ah y _ x = ah x
          unfold fup
          rw [if_neg]; intro ec; subst ec; exact n3 x hx (hdB_mem hr))
      (fun x hx => by
        unfold ahF
        cases hr : hdB R with
        | none => simp
        | some y =>
          show fup ah y _ x = _
          unfold fup
          by_cases ec : x = y
          · subst ec; simp
          · rw [if_neg ec, if_neg (fun e => ec (by injection e with e; exact e.symm))])
      (fun x hx => by
        unfold nxF
        cases hr : endB none A with
        | none => simp
        | some y =>
          show fup nx y _ x = _
          unfold fup
          by_cases ec : x = y
          · subst ec; simp
          · rw [if_neg ec, if_neg (fun e => ec (by injection e with e; exact e.symm))])
      (fun x hx => by
        unfold nxF
        cases hr : endB none A with
        | none => rfl
        | some y =>
          show fup nx y _ x = nx x
          unfold fup
          rw [if_neg]; intro ec; subst ec; exact n3 x (endB_mem hr) hx)
      g1 g2
  rcases hp with ⟨x, n, hx, rfl⟩ | ⟨hx, hg, D', hD', hK'⟩
  · have hxA := endK_mem hx
    obtain ⟨y, hy, hyx⟩ := List.mem_map.1 hxA
    have hfx := h.far y (List.mem_append_left _ hy)
    rw [hyx] at hfx
    have hbx : b ≠ x := fun ec => n1 (ec ▸ hxA)
    have eT : ∀ j : Nat, ((wf.setCell ⟨x, 13, none⟩ (ptrO (firstK e.place e.mask R))).drewN n).heap[j]? = (wf.setCell ⟨x, 13, none⟩ (ptrO (firstK e.place e.mask R))).heap[j]? := fun _ => rfl
    refine ⟨rfl, ⟨?_, ⟨dom, ahF ah A R, nxF nx A R, fup tw x (firstK e.place e.mask R), hM.setT _ _, lk _ (fun z hz => ?_) (fun z hz => ?_), fun z hz => hd z (hsub z hz)⟩, n4, fun z hz => h.far z (hsub z hz), h.low, ⟨D, ?_, ?_⟩, fun z hz => h.ok z (hsub z hz)⟩, ?_, ?_⟩
    · rw [eT, set_other (Ne.symm hfx.2.1)]; exact hc
    · unfold fup
      by_cases ec : z = x
      · subst ec; rw [if_pos rfl, if_pos hx, htb]
      · rw [if_neg ec, if_neg (fun e => ec (by rw [hx] at e; injection e with e; exact e.symm))]
    · unfold fup
      rw [if_neg]; intro ec; subst ec; exact n3 z hxA hz
    · obtain ⟨es, clock, q, r⟩ := hD.mono (Nat.le_succ N)
      refine ⟨es, clock, ?_, r⟩
      rw [eT, set_other (Ne.symm hfx.2.2), hm]; exact q
    · refine mapk_same hK fun q j => ?_
      by_cases ek : isK q j e = true
      · rw [firstK_append, firstK_append, firstK_cons, if_pos ek]
        have : firstK q j A ≠ none := by
          obtain ⟨i1, i2⟩ := isK_iff.1 ek
          subst i1 i2
          intro h0
          rw [first_end.2 h0] at hx; cases hx
        cases hq : firstK q j A with
        | none => exact absurd hq this
        | some y => rfl
      · exact firstK_without (by rw [Bool.eq_false_iff]; exact ek)
    · rw [eT, set_other hbx]; exact hb
    · exact only_drewN (hO.trans (only_set _ _ _ _ (memA x hxA))) n
  · refine ⟨rfl, ⟨?_, ⟨dom, ahF ah A R, nxF nx A R, tw, ?_, lk _ (fun z hz => ?_) (fun z hz => rfl), fun z hz => hd z (hsub z hz)⟩, n4, fun z hz => h.far z (hsub z hz), h.low, ⟨D', hD', hK'⟩, fun z hz => h.ok z (hsub z hz)⟩, ?_, ?_⟩
    · rw [hg.block c (by have := hO.size; have := (h.cs (j := c) (.inl rfl)).2; omega) (fun e => h.low.2.2 (by injection e))]; exact hc
    · obtain ⟨es0, cl0, hmb0, _⟩ := hD
      intro j f hj
      have hj1 := hM j f hj
      rw [hg.block j (Array.getElem?_eq_some_iff.1 hj1).1 (fun e => ?_)]
      · exact hj1
      · injection e with e
        subst e
        rw [hm, hmb0] at hj1
        cases hj1
    · rw [if_neg]; rw [hx]; intro e; cases e
    · rw [hg.block b (by have := hO.size; have := (h.cs (j := b) (.inr (.inr (by simp)))).2; omega) (fun ec => (h.far (b, e) (by simp)).2.2 (by injection ec))]; exact hb
    · exact hO.trans (only_of_grown hg fun j hj => by injection hj with hj; subst hj; exact .inr (.inl rfl))

theorem forget_any (c mb B N b : Nat) (A R : List (Nat × En)) (e : En) (w wf : World) (h : Chn w c mb B N (A ++ (b, e) :: R)) (hN : N < maxLen) (k : Nat) (hwf : wf = (cut2 (cut1 w c A R) A R).drewN k) :
    Calls Tryz.prog 97 #[.pointer (some ⟨c, 0, none⟩), .pointer (some ⟨b, 0, none⟩)] wf (RmPost c mb B N A b e R w) := by
  obtain ⟨dom, ah, nx, tw, hL, hd, hM, hc, hO, hb, hm⟩ := cut_facts h
  obtain ⟨D, hD, hK⟩ := h.map
  have he := h.ok (b, e) (by simp)
  obtain ⟨es, clock, q, r⟩ := hD
  have hD' : wf.ownsMap Tryz.prog 86 lkElem mb N D := ⟨es, clock, by rw [hwf]; exact hm.trans q, r⟩
  cases hA : endK e.place e.mask A with
  | none => exact (forget_none c mb N b A R e _ wf dom _ _ tw (by rw [hwf]; exact hc) (by rw [hwf]; exact hM) hL.tws (hd (b, e) (by simp)) D hD' hK he hN hA).mono fun e' w' hp => chn_removed h k hwf hp
  | some xl => exact (forget_some c mb N b xl A R e _ wf dom _ _ tw (by rw [hwf]; exact hc) (by rw [hwf]; exact hM) hL.tws hd h.nodup D hD' hK he hA).mono fun e' w' hp => chn_removed h k hwf hp

set_option maxRecDepth 100000 in
set_option maxHeartbeats 1600000 in
theorem remove_any (c mb B N b : Nat) (A R : List (Nat × En)) (e : En) (w : World) (h : Chn w c mb B N (A ++ (b, e) :: R)) (hN : N < maxLen) :
    Calls Tryz.prog 70 #[.pointer (some ⟨c, 0, none⟩), .pointer (some ⟨b, 0, none⟩)] w (RmPost c mb B N A b e R w) := by
  have hfg := fun wf k hwf => forget_any c mb B N b A R e w wf h hN k hwf
  have hlk := h.link
  obtain ⟨-, -, l11, l12, -⟩ := lk_facts hlk
  obtain ⟨n1, n2, n3, n4⟩ := nd_split h.nodup
  cases ha : endB none A with
  | none =>
    rw [ha] at l11
    replace l11 : _ = some (Value.pointer none) := l11
    have f0 := (ch_facts h.head).2.2
    have c0 := (ch_facts h.head).1
    unfold ptrO at c0
    have hbc : c ≠ b := fun ec => (h.far (b, e) (by simp)).2.1 ec.symm
    cases hr : hdB R with
    | none =>
      rw [hr] at l12
      replace l12 : _ = some (Value.pointer none) := l12
      have hcut : cut2 (cut1 w c A R) A R = w.setCell ⟨c, 0, none⟩ (.pointer none) := by unfold cut2 cut1; rw [ha, hr]; rfl
      rw [hcut] at hfg
      have HF := Lib.hid hfg
      clear hfg hcut hlk h ha hr n1 n2 n3 n4
      go_enter Tryz.func70, Tryz.ntmps70
      go_wp2_with fail
      refine (HF.out _ 0 rfl).mono ?_
      rintro e' w1 hp
      have HP := Lib.hid hp
      obtain rfl := hp.1
      clear hp
      go_wp2
      go_end0
      exact HP.out
    | some x =>
      rw [hr] at l12
      replace l12 : _ = some (Value.pointer (some ⟨x, 0, none⟩)) := l12
      have hcut : cut2 (cut1 w c A R) A R = (w.setCell ⟨c, 0, none⟩ (.pointer (some ⟨x, 0, none⟩))).setCell ⟨x, 11, none⟩ (.pointer none) := by unfold cut2 cut1; rw [ha, hr]; rfl
      rw [hcut] at hfg
      have HF := Lib.hid hfg
      have hxm := hdB_mem hr
      have hxb : x ≠ b := fun ec => n2 (ec ▸ hxm)
      obtain ⟨fx, nx, tx, hx⟩ : ∃ f n t, w.heap[x]? = some (lkO f (some b) n t) := by
        cases R with
        | nil => cases hr
        | cons y r =>
          obtain ⟨y1, y2⟩ := y
          cases hr
          have := Chn.link (A := A ++ [(b, e)]) (R := r) (b := y1) (e := y2) (by simpa using h)
          rw [end_snoc] at this
          exact ⟨_, _, _, this⟩
      obtain ⟨-, -, y11, -, -⟩ := lk_facts hx
      have yf := lk_frozen hx 11
      replace y11 : _ = some (Value.pointer (some ⟨b, 0, none⟩)) := y11
      have hxc : x ≠ c := fun ec => by
        rw [ec, h.head] at hx; cases hx
      have hcx := Ne.symm hxc
      clear hfg hcut hlk h ha hr n1 n2 n3 n4 hx hxm
      go_enter Tryz.func70, Tryz.ntmps70
      go_wp2_with fail
      go_region
      go_wp2_with fail
      refine (HF.out _ 1 rfl).mono ?_
      rintro e' w1 hp
      have HP := Lib.hid hp
      obtain rfl := hp.1
      clear hp
      go_wp2
      go_end0
      exact HP.out
  | some a =>
    rw [ha] at l11
    replace l11 : _ = some (Value.pointer (some ⟨a, 0, none⟩)) := l11
    have ham := endB_mem ha
    have hab : a ≠ b := fun ec => n1 (ec ▸ ham)
    obtain ⟨fa, aa, ta, hx2⟩ : ∃ f p t, w.heap[a]? = some (lkO f p (some b) t) := by
      obtain ⟨A', f, rfl⟩ := end_split ha
      have := Chn.link (A := A') (R := (b, e) :: R) (b := a) (e := f) (by simpa using h)
      exact ⟨_, _, _, this⟩
    obtain ⟨-, -, -, z12, -⟩ := lk_facts hx2
    have zf := lk_frozen hx2 12
    replace z12 : _ = some (Value.pointer (some ⟨b, 0, none⟩)) := z12
    cases hr : hdB R with
    | none =>
      rw [hr] at l12
      replace l12 : _ = some (Value.pointer none) := l12
      have hcut : cut2 (cut1 w c A R) A R = w.setCell ⟨a, 12, none⟩ (.pointer none) := by unfold cut2 cut1; rw [ha, hr]; rfl
      rw [hcut] at hfg
      have HF := Lib.hid hfg
      clear hfg hcut hlk h ha hr n1 n2 n3 n4 hx2 ham
      go_enter Tryz.func70, Tryz.ntmps70
      go_wp2_with fail
      go_region
      go_wp2_with fail
      refine (HF.out _ 1 rfl).mono ?_
      rintro e' w1 hp
      have HP := Lib.hid hp
      obtain rfl := hp.1
      clear hp
      go_wp2
      go_end0
      exact HP.out
    | some x =>
      rw [hr] at l12
      replace l12 : _ = some (Value.pointer (some ⟨x, 0, none⟩)) := l12
      have hcut : cut2 (cut1 w c A R) A R = (w.setCell ⟨a, 12, none⟩ (.pointer (some ⟨x, 0, none⟩))).setCell ⟨x, 11, none⟩ (.pointer (some ⟨a, 0, none⟩)) := by unfold cut2 cut1; rw [ha, hr]; rfl
      rw [hcut] at hfg
      have HF := Lib.hid hfg
      have hxm := hdB_mem hr
      have hxb : x ≠ b := fun ec => n2 (ec ▸ hxm)
      obtain ⟨fx, nx, tx, hx⟩ : ∃ f n t, w.heap[x]? = some (lkO f (some b) n t) := by
        cases R with
        | nil => cases hr
        | cons y r =>
          obtain ⟨y1, y2⟩ := y
          cases hr
          have := Chn.link (A := A ++ [(b, e)]) (R := r) (b := y1) (e := y2) (by simpa using h)
          rw [end_snoc] at this
          exact ⟨_, _, _, this⟩
      obtain ⟨-, -, y11, -, -⟩ := lk_facts hx
      have yf := lk_frozen hx 11
      replace y11 : _ = some (Value.pointer (some ⟨b, 0, none⟩)) := y11
      have hax : a ≠ x := fun ec => n3 a ham (ec ▸ hxm)
      have hxa := Ne.symm hax
      clear hfg hcut hlk h ha hr n1 n2 n3 n4 hx hx2 hxm ham
      go_enter Tryz.func70, Tryz.ntmps70
      go_wp2_with fail
      go_region
      go_wp2_with fail
      go_region
      go_wp2_with fail
      refine (HF.out _ 2 rfl).mono ?_
      rintro e' w1 hp
      have HP := Lib.hid hp
      obtain rfl := hp.1
      clear hp
      go_wp2
      go_end0
      exact HP.out
end Go.Proofs.YtbhnjnoblkfckaaGreatDoor

-- from XStE
/- Walks: links, by the program: the first of a key goes; the iterator over all. -/
namespace Go.Proofs.YtbhnjnoblkfckaaGreatDoor
open Go.RowKit Go.Maps Go.Shelf
attribute [local go_sem] Oper.semAt_some

def outL (L : List (Nat × En)) (p : ByteArray) (m : Int) : List (Nat × En) := L.eraseP fun x => isK p m x.2
theorem outL_map (L : List (Nat × En)) (p : ByteArray) (m : Int) : (outL L p m).map (·.2) = outE (L.map (·.2)) p m := by
  unfold outL outE
  induction L with
  | nil => rfl
  | cons x r ih =>
    rw [List.eraseP_cons, List.map_cons, List.eraseP_cons]
    cases isK p m x.2 with
    | true => rfl
    | false => simpa using ih
theorem outL_none {L : List (Nat × En)} {p : ByteArray} {m : Int} (h : firstK p m L = none) : outL L p m = L := by
  unfold outL
  exact List.eraseP_of_forall_not fun x hx => by rw [firstK_none.1 h x hx]; simp
theorem outL_some {L : List (Nat × En)} {p : ByteArray} {m : Int} {b : Nat} (h : firstK p m L = some b) : ∃ A e R, L = A ++ (b, e) :: R ∧ outL L p m = A ++ R := by
  induction L with
  | nil => cases h
  | cons x r ih =>
    rw [firstK_cons] at h
    unfold outL
    rw [List.eraseP_cons]
    split at h
    · rename_i hk
      cases h
      exact ⟨[], x.2, r, rfl, by rw [hk]; rfl⟩
    · rename_i hk
      obtain ⟨A, e, R, rfl, he⟩ := ih h
      refine ⟨x :: A, e, R, rfl, ?_⟩
      rw [Bool.not_eq_true] at hk
      rw [hk]
      exact congrArg (x :: ·) he

def RfPost (c mb B N : Nat) (L : List (Nat × En)) (p : ByteArray) (m : Int) (w : World) (e' : Ending) (w' : World) : Prop :=
  e' = .returned (.tuple #[]) ∧ Chn w' c mb B (N + 1) (outL L p m) ∧ Only (Cs c mb L) w w'

set_option maxRecDepth 100000 in
set_option maxHeartbeats 1600000 in
theorem remove_first (c mb B N : Nat) (L : List (Nat × En)) (p : ByteArray) (m : Int) (w : World) (h : Chn w c mb B N L) (hp : p.size ≤ maxLen) (hm : (Lit.int .i64 m).wf = true) (hN : N < maxLen) :
    Calls Tryz.prog 52 #[.pointer (some ⟨c, 0, none⟩), .agg #[.string p, .int .i64 m]] w (RfPost c mb B N L p m w) := by
  have hkey := keyOf_ke hp hm
  have hmt := Tryz.underlying75
  obtain ⟨wA, hwA⟩ : ∃ wA, wA = w.alloc (.cells #[.string p, .int .i64 m] 86) := ⟨_, rfl⟩
  have hbA : Below w.heap.size w wA := by rw [hwA]; exact (Below.refl _ _).alloc (Nat.le_refl _) _
  have hA : Chn wA c mb B N L := h.below hbA
  obtain ⟨q0, q1, f0⟩ := ch_facts hA.head
  obtain ⟨D, hD, hK⟩ := hA.map
  obtain ⟨v, ps, hrun, hR⟩ := hD.drew.look_ok lawKe hmt (z := .pointer none) (by kernel_rfl) (zd := .nil) (zp := []) rfl hkey
  obtain ⟨k1, k2⟩ := hK.2 p m hp hm
  rw [k2] at hR
  rw [k1] at hrun
  obtain rfl := lkElem_inv hR
  cases hf : firstK p m L with
  | none =>
    rw [hf] at hrun
    replace hrun : _ = Result.ok (Value.tuple #[.pointer none, .bool false]) _ := hrun
    have HF : Hid (RfPost c mb B N L p m w (.returned (.tuple #[])) wA.drew) := Lib.hid ⟨rfl, by rw [outL_none hf]; exact (hA.mono (Nat.le_succ _)).keep (S := fun _ => False) ⟨rfl, rfl, rfl, Nat.le_refl _, fun _ _ _ => rfl⟩ (fun _ h => h.elim), only_drewN (only_of_below hbA) 1⟩
    rw [hwA] at q1 hrun HF
    clear hR k1 k2 hf hkey hK hD hA hbA hwA q0 f0 h
    go_enter Tryz.func52, Tryz.ntmps52
    go_wp2_with fail
    go_region
    go_wp2
    go_end0
    exact HF.out
  | some b =>
    rw [hf] at hrun
    replace hrun : _ = Result.ok (Value.tuple #[.pointer (some ⟨b, 0, none⟩), .bool true]) _ := hrun
    obtain ⟨A, e, R, hL, hout⟩ := outL_some hf
    have hC := remove_any c mb B N b A R e wA.drew (by rw [← hL]; exact hA.keep (S := fun _ => False) ⟨rfl, rfl, rfl, Nat.le_refl _, fun _ _ _ => rfl⟩ (fun _ h => h.elim)) hN
    have HF : Hid (∀ e' w', RmPost c mb B N A b e R wA.drew e' w' → RfPost c mb B N L p m w e' w') := Lib.hid fun e' w' hp => by
      obtain ⟨g1, g2, g3, g4⟩ := hp
      rw [← hL] at g4
      exact ⟨g1, by rw [hout]; exact g2, (only_of_below hbA).trans ⟨g4.os, g4.tape, g4.output, g4.size, g4.block⟩⟩
    rw [hwA] at q1 hrun hC HF
    clear hR k1 k2 hf hkey hK hD hA hbA hwA q0 f0 h hL hout
    go_enter Tryz.func52, Tryz.ntmps52
    go_wp2_with fail
    go_region
    go_wp2_with fail
    refine hC.mono ?_
    rintro e' w1 hp
    have HP := Lib.hid (HF.out _ _ hp)
    obtain rfl := hp.1
    clear hp hC
    go_wp2
    go_end0
    exact HP.out

end Go.Proofs.YtbhnjnoblkfckaaGreatDoor

-- from XRsW
/- Boxes of six cells. -/
namespace Go.Proofs.YtbhnjnoblkfckaaGreatDoor
open Go.RowKit

def set6 (w : World) (q : Nat) (a b c d e f : Value) : World := (((((w.setCell ⟨q, 0, none⟩ a).setCell ⟨q, 1, none⟩ b).setCell ⟨q, 2, none⟩ c).setCell ⟨q, 3, none⟩ d).setCell ⟨q, 4, none⟩ e).setCell ⟨q, 5, none⟩ f
theorem six_set {w : World} {q : Nat} {x0 x1 x2 x3 x4 x5 : Value} {T : TypeId} (h : w.heap[q]? = some (.cells #[x0, x1, x2, x3, x4, x5] T (0, 0))) (a b c d e f : Value) :
    (set6 w q a b c d e f).heap[q]? = some (.cells #[a, b, c, d, e, f] T (0, 0)) := by
  have h1 := heap_setCell_same w q 0 _ _ a h
  have h2 := heap_setCell_same _ q 1 _ _ b h1
  have h3 := heap_setCell_same _ q 2 _ _ c h2
  have h4 := heap_setCell_same _ q 3 _ _ d h3
  have h5 := heap_setCell_same _ q 4 _ _ e h4
  have h6 := heap_setCell_same _ q 5 _ _ f h5
  unfold set6
  rw [h6]; rfl
theorem six_frozen {w : World} {q : Nat} {x0 x1 x2 x3 x4 x5 : Value} {T : TypeId} (h : w.heap[q]? = some (.cells #[x0, x1, x2, x3, x4, x5] T (0, 0))) :
    w.frozen? ⟨q, 0, none⟩ = false ∧ w.frozen? ⟨q, 1, none⟩ = false ∧ w.frozen? ⟨q, 2, none⟩ = false ∧ w.frozen? ⟨q, 3, none⟩ = false ∧ w.frozen? ⟨q, 4, none⟩ = false ∧ w.frozen? ⟨q, 5, none⟩ = false := by
  refine ⟨?_, ?_, ?_, ?_, ?_, ?_⟩ <;> simp [World.frozen?, h]
theorem grown_setr {w w3 : World} {b k : Nat} {x : Value} (h : w.grownBy w3 (some b)) : w.grownBy (w3.setCell ⟨b, k, none⟩ x) (some b) :=
  ⟨h.os, h.tape, h.output, by simpa using h.size, fun j hj hn => (heap_setCell_other w3 ⟨b, k, none⟩ j _ (fun e => hn (by rw [e]))).trans (h.block j hj hn)⟩
theorem grown_set6 (w : World) (q : Nat) (a b c d e f : Value) : w.grownBy (set6 w q a b c d e f) (some q) := grown_setr (grown_setr (grown_setr (grown_setr (grown_setr (grown_setr (World.grownBy.refl _ _))))))
/-- A box is told what it holds: nothing has turned. -/
theorem setCell_id {w : World} {b k : Nat} {zs : Array Value} {T : TypeId} {x : Value} (h : w.heap[b]? = some (.cells zs T (0, 0))) (hx : zs[k]? = some x) : w.setCell ⟨b, k, none⟩ x = w := by
  have hb : b < w.heap.size := (Array.getElem?_eq_some_iff.1 h).1
  have hs := heap_setCell_same w b k _ _ x h
  have he : zs.setIfInBounds k x = zs := by
    apply Array.ext (by simp)
    intro i h1 h2
    by_cases e : k = i
    · subst e
      simp only [Array.getElem_setIfInBounds_self]
      rw [Array.getElem?_eq_some_iff] at hx
      exact hx.2.symm
    · exact Array.getElem_setIfInBounds_ne _ e
  have hh : (w.setCell ⟨b, k, none⟩ x).heap = w.heap := by
    apply Array.ext_getElem?
    intro j
    by_cases e : j = b
    · subst e
      rw [hs, h]
      first | rw [he] | (simp only [he])
    · exact heap_setCell_other w ⟨b, k, none⟩ j _ (by simpa using e)
  cases w
  first
    | (simp only [World.setCell] at hh ⊢; first | rw [hh] | simp_all)
    | simp_all [World.setCell]
theorem rbox2 (w : World) (o1 o2 : Obj) : ((w.alloc o1).alloc o2).heap.size = w.heap.size + 2 ∧ Below w.heap.size w ((w.alloc o1).alloc o2) ∧ ((w.alloc o1).alloc o2).heap[w.heap.size]? = some o1 ∧ ((w.alloc o1).alloc o2).heap[w.heap.size + 1]? = some o2 := by
  refine ⟨by simp, ((Below.refl _ _).alloc (Nat.le_refl _) _).alloc (by simp) _, ?_, ?_⟩
  · rw [Below.heap_alloc _ _ _ (by simp)]; exact heap_alloc_new w _
  · have := heap_alloc_new (w.alloc o1) o2
    simpa using this
theorem rbox3 (w : World) (o1 o2 o3 : Obj) : (((w.alloc o1).alloc o2).alloc o3).heap.size = w.heap.size + 3 ∧ Below w.heap.size w (((w.alloc o1).alloc o2).alloc o3) ∧ (((w.alloc o1).alloc o2).alloc o3).heap[w.heap.size]? = some o1 ∧ (((w.alloc o1).alloc o2).alloc o3).heap[w.heap.size + 1]? = some o2 ∧ (((w.alloc o1).alloc o2).alloc o3).heap[w.heap.size + 2]? = some o3 := by
  obtain ⟨h1, h2, h3, h4⟩ := rbox2 w o1 o2
  refine ⟨by simp, h2.alloc (by simp; omega) _, ?_, ?_, ?_⟩
  · rw [Below.heap_alloc _ _ _ (by omega)]; exact h3
  · rw [Below.heap_alloc _ _ _ (by omega)]; exact h4
  · have := heap_alloc_new ((w.alloc o1).alloc o2) o3
    simpa using this
end Go.Proofs.YtbhnjnoblkfckaaGreatDoor

-- from XStW
/- Boxes of nine cells: an entry. -/
namespace Go.Proofs.YtbhnjnoblkfckaaGreatDoor
open Go.RowKit

def enC (e : En) : Array Value := #[.string e.place, .int .i64 e.mask, .int .i64 e.rsp.code, .int .i64 e.rsp.mx, .bool e.rsp.hide, .string e.rsp.tag, .int .i64 e.rsp.cod, .string e.rsp.body, .int .i64 e.tm]
theorem nine_facts {w : World} {b : Nat} {x0 x1 x2 x3 x4 x5 x6 x7 x8 : Value} {T : TypeId} (h : w.heap[b]? = some (.cells #[x0, x1, x2, x3, x4, x5, x6, x7, x8] T (0, 0))) :
    w.cell? ⟨b, 0, none⟩ = some x0 ∧ w.cell? ⟨b, 1, none⟩ = some x1 ∧ w.cell? ⟨b, 2, none⟩ = some x2 ∧ w.cell? ⟨b, 3, none⟩ = some x3 ∧ w.cell? ⟨b, 4, none⟩ = some x4 ∧ w.cell? ⟨b, 5, none⟩ = some x5 ∧ w.cell? ⟨b, 6, none⟩ = some x6 ∧ w.cell? ⟨b, 7, none⟩ = some x7 ∧ w.cell? ⟨b, 8, none⟩ = some x8 := by
  simp [World.cell?, h]
theorem nine_frozen {w : World} {b : Nat} {x0 x1 x2 x3 x4 x5 x6 x7 x8 : Value} {T : TypeId} (h : w.heap[b]? = some (.cells #[x0, x1, x2, x3, x4, x5, x6, x7, x8] T (0, 0))) :
    w.frozen? ⟨b, 0, none⟩ = false ∧ w.frozen? ⟨b, 1, none⟩ = false ∧ w.frozen? ⟨b, 2, none⟩ = false ∧ w.frozen? ⟨b, 3, none⟩ = false ∧ w.frozen? ⟨b, 4, none⟩ = false ∧ w.frozen? ⟨b, 5, none⟩ = false ∧ w.frozen? ⟨b, 6, none⟩ = false ∧ w.frozen? ⟨b, 7, none⟩ = false ∧ w.frozen? ⟨b, 8, none⟩ = false := by
  refine ⟨?_, ?_, ?_, ?_, ?_, ?_, ?_, ?_, ?_⟩ <;> simp [World.frozen?, h]
def set9 (w : World) (q : Nat) (a b c d e f g h i : Value) : World :=
  ((((((((w.setCell ⟨q, 0, none⟩ a).setCell ⟨q, 1, none⟩ b).setCell ⟨q, 2, none⟩ c).setCell ⟨q, 3, none⟩ d).setCell ⟨q, 4, none⟩ e).setCell ⟨q, 5, none⟩ f).setCell ⟨q, 6, none⟩ g).setCell ⟨q, 7, none⟩ h).setCell ⟨q, 8, none⟩ i
theorem nine_set {w : World} {q : Nat} {x0 x1 x2 x3 x4 x5 x6 x7 x8 : Value} {T : TypeId} (h : w.heap[q]? = some (.cells #[x0, x1, x2, x3, x4, x5, x6, x7, x8] T (0, 0))) (a b c d e f g k i : Value) :
    (set9 w q a b c d e f g k i).heap[q]? = some (.cells #[a, b, c, d, e, f, g, k, i] T (0, 0)) := by
  have h1 : (w.setCell ⟨q, 0, none⟩ a).heap[q]? = some (.cells #[a, x1, x2, x3, x4, x5, x6, x7, x8] T (0, 0)) := heap_setCell_same _ q 0 _ _ a h
  have h2 : ((w.setCell ⟨q, 0, none⟩ a).setCell ⟨q, 1, none⟩ b).heap[q]? = some (.cells #[a, b, x2, x3, x4, x5, x6, x7, x8] T (0, 0)) := heap_setCell_same _ q 1 _ _ b h1
  have h3 : (((w.setCell ⟨q, 0, none⟩ a).setCell ⟨q, 1, none⟩ b).setCell ⟨q, 2, none⟩ c).heap[q]? = some (.cells #[a, b, c, x3, x4, x5, x6, x7, x8] T (0, 0)) := heap_setCell_same _ q 2 _ _ c h2
  have h4 : ((((w.setCell ⟨q, 0, none⟩ a).setCell ⟨q, 1, none⟩ b).setCell ⟨q, 2, none⟩ c).setCell ⟨q, 3, none⟩ d).heap[q]? = some (.cells #[a, b, c, d, x4, x5, x6, x7, x8] T (0, 0)) := heap_setCell_same _ q 3 _ _ d h3
  have h5 : (((((w.setCell ⟨q, 0, none⟩ a).setCell ⟨q, 1, none⟩ b).setCell ⟨q, 2, none⟩ c).setCell ⟨q, 3, none⟩ d).setCell ⟨q, 4, none⟩ e).heap[q]? = some (.cells #[a, b, c, d, e, x5, x6, x7, x8] T (0, 0)) := heap_setCell_same _ q 4 _ _ e h4
  have h6 : ((((((w.setCell ⟨q, 0, none⟩ a).setCell ⟨q, 1, none⟩ b).setCell ⟨q, 2, none⟩ c).setCell ⟨q, 3, none⟩ d).setCell ⟨q, 4, none⟩ e).setCell ⟨q, 5, none⟩ f).heap[q]? = some (.cells #[a, b, c, d, e, f, x6, x7, x8] T (0, 0)) := heap_setCell_same _ q 5 _ _ f h5
  have h7 : (((((((w.setCell ⟨q, 0, none⟩ a).setCell ⟨q, 1, none⟩ b).setCell ⟨q, 2, none⟩ c).setCell ⟨q, 3, none⟩ d).setCell ⟨q, 4, none⟩ e).setCell ⟨q, 5, none⟩ f).setCell ⟨q, 6, none⟩ g).heap[q]? = some (.cells #[a, b, c, d, e, f, g, x7, x8] T (0, 0)) := heap_setCell_same _ q 6 _ _ g h6
  have h8 : ((((((((w.setCell ⟨q, 0, none⟩ a).setCell ⟨q, 1, none⟩ b).setCell ⟨q, 2, none⟩ c).setCell ⟨q, 3, none⟩ d).setCell ⟨q, 4, none⟩ e).setCell ⟨q, 5, none⟩ f).setCell ⟨q, 6, none⟩ g).setCell ⟨q, 7, none⟩ k).heap[q]? = some (.cells #[a, b, c, d, e, f, g, k, x8] T (0, 0)) := heap_setCell_same _ q 7 _ _ k h7
  have h9 : (((((((((w.setCell ⟨q, 0, none⟩ a).setCell ⟨q, 1, none⟩ b).setCell ⟨q, 2, none⟩ c).setCell ⟨q, 3, none⟩ d).setCell ⟨q, 4, none⟩ e).setCell ⟨q, 5, none⟩ f).setCell ⟨q, 6, none⟩ g).setCell ⟨q, 7, none⟩ k).setCell ⟨q, 8, none⟩ i).heap[q]? = some (.cells #[a, b, c, d, e, f, g, k, i] T (0, 0)) := heap_setCell_same _ q 8 _ _ i h8
  exact h9
theorem grown_set9 (w : World) (q : Nat) (a b c d e f g h i : Value) : w.grownBy (set9 w q a b c d e f g h i) (some q) :=
  grown_setr (grown_setr (grown_setr (grown_setr (grown_setr (grown_setr (grown_setr (grown_setr (grown_setr (World.grownBy.refl _ _)))))))))
end Go.Proofs.YtbhnjnoblkfckaaGreatDoor

-- from XRsM
/- Walks: an answer made anew. -/
namespace Go.Proofs.YtbhnjnoblkfckaaGreatDoor
open Go.RowKit

set_option maxRecDepth 100000 in
set_option maxHeartbeats 3200000 in
theorem fresh_rsp (r : Rp) (w : World) (ht : r.tag.size ≤ 1048576) (hb : r.body.size ≤ 1048576) :
    Calls Tryz.prog 107 #[rspV r] w fun e w' => e = .returned (rspV r) ∧ Below w.heap.size w w' := by
  obtain ⟨c, m, hd, t, k, b⟩ := r
  unfold rspV
  dsimp only at ht hb ⊢
  have HT : Hid (∀ W, Calls Tryz.prog 106 #[.string t] W fun e w' => e = .returned (.string t) ∧ Below W.heap.size W w') := Lib.hid fun W => fresh t W (by omega)
  have HB : Hid (∀ W, Calls Tryz.prog 106 #[.string b] W fun e w' => e = .returned (.string b) ∧ Below W.heap.size W w') := Lib.hid fun W => fresh b W (by omega)
  obtain ⟨hz, hbA, h0, h1⟩ := rbox2 w (.cells #[.int .i64 c, .int .i64 m, .bool hd, .string t, .int .i64 k, .string b] 46) (.cells #[.int .i64 0, .int .i64 0, .bool false, .string ⟨#[]⟩, .int .i64 0, .string ⟨#[]⟩] 46)
  obtain ⟨wA, hwA⟩ : ∃ wA, wA = (w.alloc (.cells #[.int .i64 c, .int .i64 m, .bool hd, .string t, .int .i64 k, .string b] 46)).alloc (.cells #[.int .i64 0, .int .i64 0, .bool false, .string ⟨#[]⟩, .int .i64 0, .string ⟨#[]⟩] 46) := ⟨_, rfl⟩
  rw [← hwA] at hz hbA h0 h1
  have HX : Hid (∀ W, Below wA.heap.size wA W → Below w.heap.size w W ∧ W.heap[w.heap.size]? = some (.cells #[.int .i64 c, .int .i64 m, .bool hd, .string t, .int .i64 k, .string b] 46 (0, 0)) ∧ W.heap[w.heap.size + 1]? = some (.cells #[.int .i64 0, .int .i64 0, .bool false, .string ⟨#[]⟩, .int .i64 0, .string ⟨#[]⟩] 46 (0, 0))) := Lib.hid fun W hW =>
    ⟨hbA.trans (hW.mono (by omega)), (hW.block _ (by omega)).trans h0, (hW.block _ (by omega)).trans h1⟩
  have HW := Lib.hid hwA
  clear ht hb hbA h0 h1 hwA
  go_enter Tryz.func107, Tryz.ntmps107
  go_wp2_with fail
  rw [← HW.out]
  refine wp_region_all (by kernel_rfl) 10 (by kernel_rfl) (by kernel_rfl)
    (fun z => { tmps := #[.agg #[.int .i64 c, .int .i64 m, .bool hd, .string t, .int .i64 k, .string b], .pointer (some ⟨w.heap.size, 0, none⟩), .pointer (some ⟨w.heap.size + 1, 0, none⟩), z 0, z 1, z 2, z 3, z 4, z 5, z 6, z 8, undef], defers := [] })
    (fun _ W => Below wA.heap.size wA W)
    (fun i x _ => x = ([.pointer (some ⟨w.heap.size, 3, none⟩), .string t, .string t, .pointer (some ⟨w.heap.size, 5, none⟩), .string b, .string b, .pointer (some ⟨w.heap.size, 3, none⟩), undef, .pointer (some ⟨w.heap.size, 5, none⟩), undef] : List Value).getD i undef)
    (fun _ _ => True) (fun _ => undef) (Below.refl _ _).drew
    (fun _ _ _ _ _ h _ => h) ?_ ?_
  · intro i hi z w7 kk hkk hC hdp
    match i, hi with
    | 0, _ =>
      refine wpOp_step rfl (fun K hK => ?_)
      clear hdp
      go_simp
      exact hK _ _ ⟨.pointer (some ⟨w.heap.size, 3, none⟩), rfl, rfl, trivial, hC⟩
    | 1, _ =>
      have k0 := (HX.out w7 hC).2.1
      obtain ⟨q0, q1, q2, q3, q4, q5⟩ := six_facts k0
      have e0 : z 0 = .pointer (some ⟨w.heap.size, 3, none⟩) := hdp 0 (dep_of (by kernel_rfl))
      refine wpOp_step rfl (fun K hK => ?_)
      clear hdp
      go_simp
      exact hK _ _ ⟨.string t, by simp [upd, e0], rfl, trivial, hC⟩
    | 2, _ =>
      have e1 : z 1 = .string t := hdp 1 (dep_of (by kernel_rfl))
      have hT := HT.out w7
      refine wpOp_step rfl (fun K hK => ?_)
      clear hdp
      go_simp
      refine hT.mono ?_
      rintro e w8 ⟨rfl, hb8⟩
      exact hK _ _ ⟨.string t, by simp [upd, e1], rfl, trivial, hC.trans (hb8.mono hC.size)⟩
    | 3, _ =>
      refine wpOp_step rfl (fun K hK => ?_)
      clear hdp
      go_simp
      exact hK _ _ ⟨.pointer (some ⟨w.heap.size, 5, none⟩), rfl, rfl, trivial, hC⟩
    | 4, _ =>
      have k0 := (HX.out w7 hC).2.1
      obtain ⟨q0, q1, q2, q3, q4, q5⟩ := six_facts k0
      have e3 : z 3 = .pointer (some ⟨w.heap.size, 5, none⟩) := hdp 3 (dep_of (by kernel_rfl))
      refine wpOp_step rfl (fun K hK => ?_)
      clear hdp
      go_simp
      exact hK _ _ ⟨.string b, by simp [upd, e3], rfl, trivial, hC⟩
    | 5, _ =>
      have e4 : z 4 = .string b := hdp 4 (dep_of (by kernel_rfl))
      have hT := HB.out w7
      refine wpOp_step rfl (fun K hK => ?_)
      clear hdp
      go_simp
      refine hT.mono ?_
      rintro e w8 ⟨rfl, hb8⟩
      exact hK _ _ ⟨.string b, by simp [upd, e4], rfl, trivial, hC.trans (hb8.mono hC.size)⟩
    | 6, _ =>
      refine wpOp_step rfl (fun K hK => ?_)
      clear hdp
      go_simp
      exact hK _ _ ⟨.pointer (some ⟨w.heap.size, 3, none⟩), rfl, rfl, trivial, hC⟩
    | 7, _ =>
      have k0 := (HX.out w7 hC).2.1
      obtain ⟨y0, y1, y2, y3, y4, y5⟩ := six_frozen k0
      obtain ⟨q0, q1, q2, q3, q4, q5⟩ := six_facts k0
      have e2 : z 2 = .string t := hdp 2 (dep_of (by kernel_rfl))
      have e6 : z 6 = .pointer (some ⟨w.heap.size, 3, none⟩) := hdp 6 (dep_of (by kernel_rfl))
      refine wpOp_step rfl (fun K hK => ?_)
      clear hdp
      go_simp
      rw [setCell_id k0 rfl]
      refine hK _ _ ?_
      exact ⟨undef, by simp [upd, e2, e6], rfl, trivial, hC⟩
    | 8, _ =>
      refine wpOp_step rfl (fun K hK => ?_)
      clear hdp
      go_simp
      exact hK _ _ ⟨.pointer (some ⟨w.heap.size, 5, none⟩), rfl, rfl, trivial, hC⟩
    | 9, _ =>
      have k0 := (HX.out w7 hC).2.1
      obtain ⟨y0, y1, y2, y3, y4, y5⟩ := six_frozen k0
      obtain ⟨q0, q1, q2, q3, q4, q5⟩ := six_facts k0
      have e5 : z 5 = .string b := hdp 5 (dep_of (by kernel_rfl))
      have e8 : z 8 = .pointer (some ⟨w.heap.size, 5, none⟩) := hdp 8 (dep_of (by kernel_rfl))
      refine wpOp_step rfl (fun K hK => ?_)
      clear hdp
      go_simp
      rw [setCell_id k0 rfl]
      refine hK _ _ ?_
      exact ⟨undef, by simp [upd, e5, e8], rfl, trivial, hC⟩
    | n + 10, hn => exact absurd hn (by omega)
  · intro z w7 kk hkk hC hdp
    obtain ⟨k1, k2, k3⟩ := HX.out w7 hC
    obtain ⟨q0, q1, q2, q3, q4, q5⟩ := six_facts k2
    obtain ⟨y0, y1, y2, y3, y4, y5⟩ := six_frozen k3
    obtain ⟨x0, x1, x2, x3, x4, x5⟩ := six_facts k3
    have z := six_set k3 (.int .i64 c) (.int .i64 m) (.bool hd) (.string t) (.int .i64 k) (.string b)
    have HF : Hid (Below w.heap.size w (set6 w7 (w.heap.size + 1) (.int .i64 c) (.int .i64 m) (.bool hd) (.string t) (.int .i64 k) (.string b))) := Lib.hid (k1.grown (grown_set6 _ _ _ _ _ _ _ _) k1.size (fun k hk => by cases hk; omega))
    unfold set6 at z HF
    obtain ⟨z0, z1, z2, z3, z4, z5⟩ := six_facts z
    have HZ := Lib.hid (And.intro z0 (And.intro z1 (And.intro z2 (And.intro z3 (And.intro z4 z5)))))
    clear hC hdp k1 k2 k3 z z0 z1 z2 z3 z4 z5
    go_wp2
    obtain ⟨z0, z1, z2, z3, z4, z5⟩ := HZ.out
    refine bodyPost_ret (v := .agg #[.int .i64 c, .int .i64 m, .bool hd, .string t, .int .i64 k, .string b]) (by simp [results, Tryz.results107, go_sem, z0, z1, z2, z3, z4, z5]) rfl ?_
    exact ⟨rfl, HF.out⟩

end Go.Proofs.YtbhnjnoblkfckaaGreatDoor

-- from XStG
/- Walks: an entry made anew. -/
namespace Go.Proofs.YtbhnjnoblkfckaaGreatDoor
open Go.RowKit

set_option maxRecDepth 100000 in
set_option maxHeartbeats 3200000 in
theorem fresh_entry (e : En) (w : World) (he : EnOk 1048576 e) :
    Calls Tryz.prog 82 #[enV e] w fun e' w' => e' = .returned (enV e) ∧ Below w.heap.size w w' := by
  have hp := he.place
  have ht := he.tag
  have hb := he.body
  obtain ⟨p, m, ⟨c, x, hd, t, k, b⟩, a⟩ := e
  unfold enV
  dsimp only at hp ht hb ⊢
  have HP : Hid (∀ W, Calls Tryz.prog 106 #[.string p] W fun e w' => e = .returned (.string p) ∧ Below W.heap.size W w') := Lib.hid fun W => fresh p W (by omega)
  have HR : Hid (∀ W, Calls Tryz.prog 107 #[.agg #[.int .i64 c, .int .i64 x, .bool hd, .string t, .int .i64 k, .string b]] W fun e w' => e = .returned (.agg #[.int .i64 c, .int .i64 x, .bool hd, .string t, .int .i64 k, .string b]) ∧ Below W.heap.size W w') := Lib.hid fun W => fresh_rsp ⟨c, x, hd, t, k, b⟩ W ht hb
  obtain ⟨hz, hbA, h0, h1⟩ := rbox2 w (.cells #[.string p, .int .i64 m, .int .i64 c, .int .i64 x, .bool hd, .string t, .int .i64 k, .string b, .int .i64 a] 48) (.cells #[.string ⟨#[]⟩, .int .i64 0, .int .i64 0, .int .i64 0, .bool false, .string ⟨#[]⟩, .int .i64 0, .string ⟨#[]⟩, .int .i64 0] 48)
  obtain ⟨wA, hwA⟩ : ∃ wA, wA = (w.alloc (.cells #[.string p, .int .i64 m, .int .i64 c, .int .i64 x, .bool hd, .string t, .int .i64 k, .string b, .int .i64 a] 48)).alloc (.cells #[.string ⟨#[]⟩, .int .i64 0, .int .i64 0, .int .i64 0, .bool false, .string ⟨#[]⟩, .int .i64 0, .string ⟨#[]⟩, .int .i64 0] 48) := ⟨_, rfl⟩
  rw [← hwA] at hz hbA h0 h1
  have HX : Hid (∀ W, Below wA.heap.size wA W → Below w.heap.size w W ∧ W.heap[w.heap.size]? = some (.cells #[.string p, .int .i64 m, .int .i64 c, .int .i64 x, .bool hd, .string t, .int .i64 k, .string b, .int .i64 a] 48 (0, 0)) ∧ W.heap[w.heap.size + 1]? = some (.cells #[.string ⟨#[]⟩, .int .i64 0, .int .i64 0, .int .i64 0, .bool false, .string ⟨#[]⟩, .int .i64 0, .string ⟨#[]⟩, .int .i64 0] 48 (0, 0))) := Lib.hid fun W hW =>
    ⟨hbA.trans (hW.mono (by omega)), (hW.block _ (by omega)).trans h0, (hW.block _ (by omega)).trans h1⟩
  have HW := Lib.hid hwA
  clear ht hb hp hbA h0 h1 hwA he
  go_enter Tryz.func82, Tryz.ntmps82
  go_wp2_with fail
  rw [← HW.out]
  refine wp_region_all (by kernel_rfl) 10 (by kernel_rfl) (by kernel_rfl)
    (fun z => { tmps := #[.agg #[.string p, .int .i64 m, .int .i64 c, .int .i64 x, .bool hd, .string t, .int .i64 k, .string b, .int .i64 a], .pointer (some ⟨w.heap.size, 0, none⟩), .pointer (some ⟨w.heap.size + 1, 0, none⟩), z 0, z 1, z 2, z 3, z 4, z 5, z 6, z 8, undef], defers := [] })
    (fun _ W => Below wA.heap.size wA W)
    (fun i xv _ => xv = ([.pointer (some ⟨w.heap.size, 0, none⟩), .string p, .string p, .pointer (some ⟨w.heap.size, 2, none⟩), .agg #[.int .i64 c, .int .i64 x, .bool hd, .string t, .int .i64 k, .string b], .agg #[.int .i64 c, .int .i64 x, .bool hd, .string t, .int .i64 k, .string b], .pointer (some ⟨w.heap.size, 0, none⟩), undef, .pointer (some ⟨w.heap.size, 2, none⟩), undef] : List Value).getD i undef)
    (fun _ _ => True) (fun _ => undef) (Below.refl _ _).drew
    (fun _ _ _ _ _ h _ => h) ?_ ?_
  · intro i hi z w7 kk hkk hC hdp
    match i, hi with
    | 0, _ =>
      refine wpOp_step rfl (fun K hK => ?_)
      clear hdp
      go_simp
      exact hK _ _ ⟨.pointer (some ⟨w.heap.size, 0, none⟩), rfl, rfl, trivial, hC⟩
    | 1, _ =>
      have k0 := (HX.out w7 hC).2.1
      obtain ⟨q0, q1, q2, q3, q4, q5, q6, q7, q8⟩ := nine_facts k0
      have e0 : z 0 = .pointer (some ⟨w.heap.size, 0, none⟩) := hdp 0 (dep_of (by kernel_rfl))
      refine wpOp_step rfl (fun K hK => ?_)
      clear hdp
      go_simp
      exact hK _ _ ⟨.string p, by simp [upd, e0], rfl, trivial, hC⟩
    | 2, _ =>
      have e1 : z 1 = .string p := hdp 1 (dep_of (by kernel_rfl))
      have hT := HP.out w7
      refine wpOp_step rfl (fun K hK => ?_)
      clear hdp
      go_simp
      refine hT.mono ?_
      rintro e w8 ⟨rfl, hb8⟩
      exact hK _ _ ⟨.string p, by simp [upd, e1], rfl, trivial, hC.trans (hb8.mono hC.size)⟩
    | 3, _ =>
      refine wpOp_step rfl (fun K hK => ?_)
      clear hdp
      go_simp
      exact hK _ _ ⟨.pointer (some ⟨w.heap.size, 2, none⟩), rfl, rfl, trivial, hC⟩
    | 4, _ =>
      have k0 := (HX.out w7 hC).2.1
      obtain ⟨q0, q1, q2, q3, q4, q5, q6, q7, q8⟩ := nine_facts k0
      have e3 : z 3 = .pointer (some ⟨w.heap.size, 2, none⟩) := hdp 3 (dep_of (by kernel_rfl))
      refine wpOp_step rfl (fun K hK => ?_)
      clear hdp
      go_simp
      exact hK _ _ ⟨.agg #[.int .i64 c, .int .i64 x, .bool hd, .string t, .int .i64 k, .string b], by simp [upd, e3], rfl, trivial, hC⟩
    | 5, _ =>
      have e4 : z 4 = .agg #[.int .i64 c, .int .i64 x, .bool hd, .string t, .int .i64 k, .string b] := hdp 4 (dep_of (by kernel_rfl))
      have hT := HR.out w7
      refine wpOp_step rfl (fun K hK => ?_)
      clear hdp
      go_simp
      refine hT.mono ?_
      rintro e w8 ⟨rfl, hb8⟩
      exact hK _ _ ⟨.agg #[.int .i64 c, .int .i64 x, .bool hd, .string t, .int .i64 k, .string b], by simp [upd, e4], rfl, trivial, hC.trans (hb8.mono hC.size)⟩
    | 6, _ =>
      refine wpOp_step rfl (fun K hK => ?_)
      clear hdp
      go_simp
      exact hK _ _ ⟨.pointer (some ⟨w.heap.size, 0, none⟩), rfl, rfl, trivial, hC⟩
    | 7, _ =>
      have k0 := (HX.out w7 hC).2.1
      obtain ⟨q0, q1, q2, q3, q4, q5, q6, q7, q8⟩ := nine_facts k0
      obtain ⟨y0, y1, y2, y3, y4, y5, y6, y7, y8⟩ := nine_frozen k0
      have e2 : z 2 = .string p := hdp 2 (dep_of (by kernel_rfl))
      have e6 : z 6 = .pointer (some ⟨w.heap.size, 0, none⟩) := hdp 6 (dep_of (by kernel_rfl))
      refine wpOp_step rfl (fun K hK => ?_)
      clear hdp
      go_simp
      rw [setCell_id k0 rfl]
      refine hK _ _ ?_
      exact ⟨undef, by simp [upd, e2, e6], rfl, trivial, hC⟩
    | 8, _ =>
      refine wpOp_step rfl (fun K hK => ?_)
      clear hdp
      go_simp
      exact hK _ _ ⟨.pointer (some ⟨w.heap.size, 2, none⟩), rfl, rfl, trivial, hC⟩
    | 9, _ =>
      have k0 := (HX.out w7 hC).2.1
      obtain ⟨q0, q1, q2, q3, q4, q5, q6, q7, q8⟩ := nine_facts k0
      obtain ⟨y0, y1, y2, y3, y4, y5, y6, y7, y8⟩ := nine_frozen k0
      have e5 : z 5 = .agg #[.int .i64 c, .int .i64 x, .bool hd, .string t, .int .i64 k, .string b] := hdp 5 (dep_of (by kernel_rfl))
      have e8 : z 8 = .pointer (some ⟨w.heap.size, 2, none⟩) := hdp 8 (dep_of (by kernel_rfl))
      refine wpOp_step rfl (fun K hK => ?_)
      clear hdp
      go_simp
      rw [setCell_id k0 rfl, setCell_id k0 rfl, setCell_id k0 rfl, setCell_id k0 rfl, setCell_id k0 rfl, setCell_id k0 rfl]
      refine hK _ _ ?_
      exact ⟨undef, by simp [upd, e5, e8], rfl, trivial, hC⟩
    | n + 10, hn => exact absurd hn (by omega)
  · intro z w7 kk hkk hC hdp
    obtain ⟨k1, k2, k3⟩ := HX.out w7 hC
    obtain ⟨q0, q1, q2, q3, q4, q5, q6, q7, q8⟩ := nine_facts k2
    obtain ⟨y0, y1, y2, y3, y4, y5, y6, y7, y8⟩ := nine_frozen k3
    obtain ⟨x0, x1, x2, x3, x4, x5, x6, x7, x8⟩ := nine_facts k3
    have z := nine_set k3 (.string p) (.int .i64 m) (.int .i64 c) (.int .i64 x) (.bool hd) (.string t) (.int .i64 k) (.string b) (.int .i64 a)
    have HF : Hid (Below w.heap.size w (set9 w7 (w.heap.size + 1) (.string p) (.int .i64 m) (.int .i64 c) (.int .i64 x) (.bool hd) (.string t) (.int .i64 k) (.string b) (.int .i64 a))) := Lib.hid (k1.grown (grown_set9 _ _ _ _ _ _ _ _ _ _ _) k1.size (fun k hk => by cases hk; omega))
    unfold set9 at z HF
    obtain ⟨z0, z1, z2, z3, z4, z5, z6, z7, z8⟩ := nine_facts z
    have HZ := Lib.hid (And.intro z0 (And.intro z1 (And.intro z2 (And.intro z3 (And.intro z4 (And.intro z5 (And.intro z6 (And.intro z7 z8))))))))
    clear hC hdp k1 k2 k3 z z0 z1 z2 z3 z4 z5 z6 z7 z8
    go_wp2
    obtain ⟨z0, z1, z2, z3, z4, z5, z6, z7, z8⟩ := HZ.out
    refine bodyPost_ret (v := .agg #[.string p, .int .i64 m, .int .i64 c, .int .i64 x, .bool hd, .string t, .int .i64 k, .string b, .int .i64 a]) (by simp [results, Tryz.results82, go_sem, z0, z1, z2, z3, z4, z5, z6, z7, z8]) rfl ?_
    exact ⟨rfl, HF.out⟩
end Go.Proofs.YtbhnjnoblkfckaaGreatDoor

-- from XRegI
/- A region that draws its order, inside a fence: by what each operation leaves for the others; no function of the program. -/
namespace Go.Proofs.YtbhnjnoblkfckaaGreatDoor

theorem wpAnyIn_inv {F : Fence} {nF : Nat} {P : Program} {ops : Array Oper} {Q : Exit → Act → World → Prop} {md : Region.Mode} (Inv : Array Bool → Act → World → Prop)
    (hstep : ∀ (listed : Array Bool) a w, listed.size = ops.size → Inv listed a w → ∀ i ∈ Region.ready md ops listed, wpOpIn F nF P ops Q i (fun a' w' => Inv (listed.setIfInBounds i true) a' w') a w)
    (hend : ∀ (listed : Array Bool) a w, listed.size = ops.size → Inv listed a w → Region.ready md ops listed = [] → Q .normal a w) :
    ∀ (fuel : Nat) (listed : Array Bool) (a : Act) (w : World), listed.size = ops.size → listed.toList.count false ≤ fuel → Inv listed a w → wpAnyIn F nF P md ops Q fuel listed a w := by
  intro fuel
  induction fuel with
  | zero =>
    intro listed a w hs hc h
    have hall : ∀ b ∈ listed.toList, b = true := fun b hb => by
      cases b with
      | true => rfl
      | false => exact absurd (List.count_pos_iff.2 hb) (by omega)
    have hr : Region.ready md ops listed = [] := by
      unfold Region.ready
      rw [List.filter_eq_nil_iff]
      intro i hi
      have hi' : i < listed.size := by rw [hs]; exact List.mem_range.1 hi
      have : listed.getD i true = true := by
        rw [Array.getD_eq_getD_getElem?, Array.getElem?_eq_getElem hi']
        exact hall _ (by simp)
      simp [this]
    exact ⟨hr, hend _ _ _ hs h hr⟩
  | succ fuel ih =>
    intro listed a w hs hc h
    refine ⟨fun hr => hend _ _ _ hs h hr, fun i hi => ?_⟩
    have hready := hi
    unfold Region.ready at hready
    rw [List.mem_filter] at hready
    have hi' : i < listed.size := by rw [hs]; exact List.mem_range.1 hready.1
    have hf : listed[i] = false := by
      have := hready.2
      rw [Bool.and_eq_true] at this
      have h1 := this.1
      rw [Array.getD_eq_getD_getElem?, Array.getElem?_eq_getElem hi'] at h1
      simpa using h1
    refine wpOpIn_mono (fun a' w' h' => ih _ a' w' (by simpa using hs) ?_ h') (hstep listed a w hs h i hi)
    have hset : (listed.setIfInBounds i true).toList = listed.toList.set i true := by simp
    rw [hset, List.count_set (by simpa using hi')]
    have hm : 0 < listed.toList.count false := List.count_pos_iff.2 (by rw [← hf]; simp)
    have hg : listed.toList[i]'(by simpa using hi') = false := by simpa using hf
    rw [hg]
    simp only [beq_self_eq_true, if_true, show ((true == false) = true) = False from by simp, if_false]
    omega

theorem wpIn_region_inv {F : Fence} {nF : Nat} {P : Program} {ops : Array Oper} {Q : Exit → Act → World → Prop} {id : Nat} {a : Act} {w : World} (hm : P.follows .mixedOrders = true) (Inv : Array Bool → Act → World → Prop)
    (h0 : Inv (Array.replicate ops.size false) a w.drew)
    (hstep : ∀ (listed : Array Bool) a w, listed.size = ops.size → Inv listed a w → ∀ i ∈ Region.ready .any ops listed, wpOpIn F nF P ops Q i (fun a' w' => Inv (listed.setIfInBounds i true) a' w') a w)
    (hend : ∀ (listed : Array Bool) a w, listed.size = ops.size → Inv listed a w → Region.ready .any ops listed = [] → Q .normal a w) : (Code.region id ops true).wpIn F nF P Q a w :=
  wpIn_region_any hm (wpAnyIn_inv Inv hstep hend ops.size _ _ _ (by simp) (by simp) h0)

theorem wpIn_region_last {F : Fence} {nF : Nat} {P : Program} {ops : Array Oper} {Q : Exit → Act → World → Prop} {id : Nat} {w : World} (hm : P.follows .mixedOrders = true) (n : Nat) (hn : ops.size = n + 1) (ho : ordB ops = true) (hl : lastB ops n = true)
    (mk : (Nat → Value) → Act) (C : Nat → World → Prop) (R : Nat → Value → World → Prop) (le : World → World → Prop) (u0 : Nat → Value)
    (h0 : C 0 w.drew) (hst : ∀ i v w w', i < n → R i v w → le w w' → R i v w')
    (hstep : ∀ i, i < n → ∀ (u : Nat → Value) (w : World) (k : Nat), k ≤ n → C k w → (∀ j ∈ deps ops i, R j (u j) w) → wpOpIn F nF P ops Q i (fun a' w' => ∃ v, a' = mk (upd u i v) ∧ R i v w' ∧ le w w' ∧ C (k + 1) w') (mk u) w)
    (hlast : ∀ (u : Nat → Value) (w : World) (k : Nat), k ≤ n → C k w → (∀ j, j < n → R j (u j) w) → wpOpIn F nF P ops Q n (fun a' w' => Q .normal a' w') (mk u) w) :
    (Code.region id ops true).wpIn F nF P Q (mk u0) w := by
  have hord : ∀ i, i < ops.size → ∀ j ∈ deps ops i, j < i := fun i hi j hj => by
    unfold ordB at ho
    rw [List.all_eq_true] at ho
    have h1 := ho i (List.mem_range.2 hi)
    rw [List.all_eq_true] at h1
    simpa using h1 j hj
  refine wpIn_region_inv hm (fun listed a w => (∀ i, On listed i → ∀ j ∈ deps ops i, On listed j) ∧ (On listed n → Q .normal a w) ∧ (¬ On listed n → ∃ u, a = mk u ∧ C (listed.toList.count true) w ∧ ∀ i, i < n → On listed i → R i (u i) w)) ?_ ?_ ?_
  · refine ⟨fun i hi => ?_, fun h => ?_, fun _ => ⟨u0, rfl, ?_, fun i _ hi => ?_⟩⟩
    · unfold On at hi; rw [Array.getD_eq_getD_getElem?, Array.getElem?_replicate] at hi; split at hi <;> simp at hi
    · unfold On at h; rw [Array.getD_eq_getD_getElem?, Array.getElem?_replicate] at h; split at h <;> simp at h
    · rw [show (Array.replicate ops.size false).toList.count true = 0 from by rw [Array.toList_replicate, List.count_replicate]; simp]; exact h0
    · unfold On at hi; rw [Array.getD_eq_getD_getElem?, Array.getElem?_replicate] at hi; split at hi <;> simp at hi
  · intro listed a w hs ⟨hc, hA, hB⟩ i hi
    obtain ⟨hi1, hi2, hi3⟩ := ready_at hs hi
    have hcov : (∀ j ∈ deps ops n, On listed j) → ∀ j, j < n → On listed j := fun hd j hj => by
      unfold lastB at hl
      rw [List.all_eq_true] at hl
      have h1 := hl j (List.mem_range.2 hj)
      exact ancs_on hc _ _ hd j (by simpa using h1)
    have hnn : ¬ On listed n := fun h => by
      rcases Nat.lt_or_ge i n with hin | hin
      · exact hi2 (hcov (hc n h) i hin)
      · have : i = n := by omega
        subst this; exact hi2 h
    obtain ⟨u, rfl, hC, hR⟩ := hB hnn
    have hi' : i < listed.size := by omega
    have hcl : ∀ i', On (listed.setIfInBounds i true) i' → ∀ j ∈ deps ops i', On (listed.setIfInBounds i true) j := fun i' h j hj => by
      rw [on_set hi'] at h ⊢
      rcases h with rfl | h
      · exact .inr (hi3 j hj)
      · exact .inr (hc i' h j hj)
    have hk : listed.toList.count true ≤ n := by have := count_le hi' hi2; omega
    rcases Nat.lt_or_ge i n with hin | hin
    · refine wpOpIn_mono ?_ (hstep i hin u w _ hk hC (fun j hj => hR j (by have := hord i hi1 j hj; omega) (hi3 j hj)))
      rintro a' w' ⟨v, rfl, hRi, hle, hC'⟩
      refine ⟨hcl, fun h => ?_, fun _ => ⟨_, rfl, by rw [count_set hi' hi2]; exact hC', fun j hj hon => ?_⟩⟩
      · rw [on_set hi'] at h
        rcases h with h | h
        · omega
        · exact absurd h hnn
      · unfold upd
        by_cases e : j = i
        · subst e; rw [if_pos rfl]; exact hRi
        · rw [if_neg e]
          rw [on_set hi'] at hon
          rcases hon with h | h
          · exact absurd h e
          · exact hst j _ _ _ hj (hR j hj h) hle
    · have hin : i = n := by omega
      subst hin
      have hall := hcov hi3
      refine wpOpIn_mono ?_ (hlast u w _ hk hC (fun j hj => hR j hj (hall j hj)))
      intro a' w' hQ
      exact ⟨hcl, fun _ => hQ, fun h => absurd ((on_set hi').2 (.inl rfl)) h⟩
  · intro listed a w hs ⟨_, hA, _⟩ hr
    exact hA (all_on hs ho hr n (by omega))

theorem wpIn_region_all {F : Fence} {nF : Nat} {P : Program} {ops : Array Oper} {Q : Exit → Act → World → Prop} {id : Nat} {w : World} (hm : P.follows .mixedOrders = true) (n : Nat) (hn : ops.size = n) (ho : ordB ops = true)
    (mk : (Nat → Value) → Act) (C : Nat → World → Prop) (R : Nat → Value → World → Prop) (le : World → World → Prop) (u0 : Nat → Value)
    (h0 : C 0 w.drew) (hst : ∀ i v w w', i < n → R i v w → le w w' → R i v w')
    (hstep : ∀ i, i < n → ∀ (u : Nat → Value) (w : World) (k : Nat), k < n → C k w → (∀ j ∈ deps ops i, R j (u j) w) → wpOpIn F nF P ops Q i (fun a' w' => ∃ v, a' = mk (upd u i v) ∧ R i v w' ∧ le w w' ∧ C (k + 1) w') (mk u) w)
    (hend : ∀ (u : Nat → Value) (w : World) (k : Nat), k ≤ n → C k w → (∀ j, j < n → R j (u j) w) → Q .normal (mk u) w) :
    (Code.region id ops true).wpIn F nF P Q (mk u0) w := by
  refine wpIn_region_inv hm (fun listed a w => ∃ u, a = mk u ∧ C (listed.toList.count true) w ∧ ∀ i, i < n → On listed i → R i (u i) w) ?_ ?_ ?_
  · refine ⟨u0, rfl, ?_, fun i _ hi => ?_⟩
    · rw [show (Array.replicate ops.size false).toList.count true = 0 from by rw [Array.toList_replicate, List.count_replicate]; simp]; exact h0
    · unfold On at hi; rw [Array.getD_eq_getD_getElem?, Array.getElem?_replicate] at hi; split at hi <;> simp at hi
  · rintro listed a w hs ⟨u, rfl, hC, hR⟩ i hi
    obtain ⟨hi1, hi2, hi3⟩ := ready_at hs hi
    have hi' : i < listed.size := by omega
    have hk : listed.toList.count true < n := by have := count_le hi' hi2; omega
    have hord : ∀ j ∈ deps ops i, j < i := fun j hj => by
      unfold ordB at ho
      rw [List.all_eq_true] at ho
      have h1 := ho i (List.mem_range.2 hi1)
      rw [List.all_eq_true] at h1
      simpa using h1 j hj
    refine wpOpIn_mono ?_ (hstep i (by omega) u w _ hk hC (fun j hj => hR j (by have := hord j hj; omega) (hi3 j hj)))
    rintro a' w' ⟨v, rfl, hRi, hle, hC'⟩
    refine ⟨_, rfl, by rw [count_set hi' hi2]; exact hC', fun j hj hon => ?_⟩
    unfold upd
    by_cases e : j = i
    · subst e; rw [if_pos rfl]; exact hRi
    · rw [if_neg e]
      rw [on_set hi'] at hon
      rcases hon with h | h
      · exact absurd h e
      · exact hst j _ _ _ hj (hR j hj h) hle
  · rintro listed a w hs ⟨u, rfl, hC, hR⟩ hr
    have hall := all_on hs ho hr
    have hk : listed.toList.count true ≤ n := by
      have h1 := List.count_le_length (a := true) (l := listed.toList)
      have h3 : listed.toList.length = listed.size := by simp
      omega
    exact hend u w _ hk hC fun j hj => hR j hj (hall j (by omega))

/-- A region whose last operation waits for all others; what is told of the world may look at which operations have run. -/
theorem wpIn_region_lastL {F : Fence} {nF : Nat} {P : Program} {ops : Array Oper} {Q : Exit → Act → World → Prop} {id : Nat} {w : World} (hm : P.follows .mixedOrders = true) (n : Nat) (hn : ops.size = n + 1) (ho : ordB ops = true) (hl : lastB ops n = true)
    (mk : (Nat → Value) → Act) (C : (Nat → Prop) → Nat → World → Prop) (R : Nat → Value → World → Prop) (le : Nat → World → World → Prop) (u0 : Nat → Value)
    (h0 : C (fun _ => False) 0 w.drew) (hst : ∀ i j v w w', i < n → j < n → i ≠ j → R i v w → le j w w' → R i v w')
    (hstep : ∀ i, i < n → ∀ (L : Nat → Prop) (u : Nat → Value) (w : World) (k : Nat), k ≤ n → ¬ L i → C L k w → (∀ j ∈ deps ops i, R j (u j) w) → wpOpIn F nF P ops Q i (fun a' w' => ∃ v, a' = mk (upd u i v) ∧ R i v w' ∧ le i w w' ∧ C (fun j => j = i ∨ L j) (k + 1) w') (mk u) w)
    (hlast : ∀ (L : Nat → Prop) (u : Nat → Value) (w : World) (k : Nat), k ≤ n → C L k w → (∀ j, j < n → R j (u j) w) → wpOpIn F nF P ops Q n (fun a' w' => Q .normal a' w') (mk u) w) :
    (Code.region id ops true).wpIn F nF P Q (mk u0) w := by
  have hord : ∀ i, i < ops.size → ∀ j ∈ deps ops i, j < i := fun i hi j hj => by
    unfold ordB at ho
    rw [List.all_eq_true] at ho
    have h1 := ho i (List.mem_range.2 hi)
    rw [List.all_eq_true] at h1
    simpa using h1 j hj
  refine wpIn_region_inv hm (fun listed a w => (∀ i, On listed i → ∀ j ∈ deps ops i, On listed j) ∧ (On listed n → Q .normal a w) ∧ (¬ On listed n → ∃ u, a = mk u ∧ C (On listed) (listed.toList.count true) w ∧ ∀ i, i < n → On listed i → R i (u i) w)) ?_ ?_ ?_
  · refine ⟨fun i hi => ?_, fun h => ?_, fun _ => ⟨u0, rfl, ?_, fun i _ hi => ?_⟩⟩
    · unfold On at hi; rw [Array.getD_eq_getD_getElem?, Array.getElem?_replicate] at hi; split at hi <;> simp at hi
    · unfold On at h; rw [Array.getD_eq_getD_getElem?, Array.getElem?_replicate] at h; split at h <;> simp at h
    · rw [show (Array.replicate ops.size false).toList.count true = 0 from by rw [Array.toList_replicate, List.count_replicate]; simp]; rw [show On (Array.replicate ops.size false) = fun _ => False from funext fun j => by unfold On; rw [Array.getD_eq_getD_getElem?, Array.getElem?_replicate]; split <;> simp]; exact h0
    · unfold On at hi; rw [Array.getD_eq_getD_getElem?, Array.getElem?_replicate] at hi; split at hi <;> simp at hi
  · intro listed a w hs ⟨hc, hA, hB⟩ i hi
    obtain ⟨hi1, hi2, hi3⟩ := ready_at hs hi
    have hcov : (∀ j ∈ deps ops n, On listed j) → ∀ j, j < n → On listed j := fun hd j hj => by
      unfold lastB at hl
      rw [List.all_eq_true] at hl
      have h1 := hl j (List.mem_range.2 hj)
      exact ancs_on hc _ _ hd j (by simpa using h1)
    have hnn : ¬ On listed n := fun h => by
      rcases Nat.lt_or_ge i n with hin | hin
      · exact hi2 (hcov (hc n h) i hin)
      · have : i = n := by omega
        subst this; exact hi2 h
    obtain ⟨u, rfl, hC, hR⟩ := hB hnn
    have hi' : i < listed.size := by omega
    have hcl : ∀ i', On (listed.setIfInBounds i true) i' → ∀ j ∈ deps ops i', On (listed.setIfInBounds i true) j := fun i' h j hj => by
      rw [on_set hi'] at h ⊢
      rcases h with rfl | h
      · exact .inr (hi3 j hj)
      · exact .inr (hc i' h j hj)
    have hk : listed.toList.count true ≤ n := by have := count_le hi' hi2; omega
    rcases Nat.lt_or_ge i n with hin | hin
    · refine wpOpIn_mono ?_ (hstep i hin _ u w _ hk hi2 hC (fun j hj => hR j (by have := hord i hi1 j hj; omega) (hi3 j hj)))
      rintro a' w' ⟨v, rfl, hRi, hle, hC'⟩
      refine ⟨hcl, fun h => ?_, fun _ => ⟨_, rfl, by rw [count_set hi' hi2, show On (listed.setIfInBounds i true) = fun j => j = i ∨ On listed j from funext fun j => propext (on_set hi')]; exact hC', fun j hj hon => ?_⟩⟩
      · rw [on_set hi'] at h
        rcases h with h | h
        · omega
        · exact absurd h hnn
      · unfold upd
        by_cases e : j = i
        · subst e; rw [if_pos rfl]; exact hRi
        · rw [if_neg e]
          rw [on_set hi'] at hon
          rcases hon with h | h
          · exact absurd h e
          · exact hst j i _ _ _ hj hin e (hR j hj h) hle
    · have hin : i = n := by omega
      subst hin
      have hall := hcov hi3
      refine wpOpIn_mono ?_ (hlast _ u w _ hk hC (fun j hj => hR j hj (hall j hj)))
      intro a' w' hQ
      exact ⟨hcl, fun _ => hQ, fun h => absurd ((on_set hi').2 (.inl rfl)) h⟩
  · intro listed a w hs ⟨_, hA, _⟩ hr
    exact hA (all_on hs ho hr n (by omega))

end Go.Proofs.YtbhnjnoblkfckaaGreatDoor

