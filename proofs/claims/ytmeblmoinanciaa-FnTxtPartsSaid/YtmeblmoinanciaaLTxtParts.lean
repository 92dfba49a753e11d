/- The law on the parts of a text, over drawn inputs. -/
import Derived.Test.YtmeblmoinanciaaGd
import Derived.Test.YtmeblmoinanciaaLParts
namespace Go.Proofs.Ytmeblmoinanciaa
open Go.RowKit

def joinL : List (List UInt8) → UInt8 → List UInt8
  | [], _ => []
  | p :: ps, c => p ++ (if ps = [] then [] else c :: joinL ps c)

theorem join_parts (l : List UInt8) (c : UInt8) : joinL (partsL l c) c = l := by
  induction l with
  | nil => simp [partsL, joinL]
  | cons b l ih =>
    have e1 : partsL (b :: l) c = if b = c then [] :: partsL l c else match partsL l c with
      | [] => [[b]]
      | p :: ps => (b :: p) :: ps := rfl
    rw [e1]
    by_cases h : b = c
    · rw [if_pos h, joinL, if_neg (partsL_ne l c), ih, h]; rfl
    · rw [if_neg h]
      cases hp : partsL l c with
      | nil => exact absurd hp (partsL_ne l c)
      | cons p ps =>
        rw [hp] at ih
        simp only [joinL, List.cons_append] at ih ⊢
        rw [ih]

theorem parts_no (l : List UInt8) (c : UInt8) : ∀ p ∈ partsL l c, c ∉ p := by
  induction l with
  | nil => simp [partsL]
  | cons b l ih =>
    have e1 : partsL (b :: l) c = if b = c then [] :: partsL l c else match partsL l c with
      | [] => [[b]]
      | p :: ps => (b :: p) :: ps := rfl
    rw [e1]
    by_cases h : b = c
    · rw [if_pos h]; intro p hp
      rcases List.mem_cons.1 hp with rfl | hp
      · simp
      · exact ih p hp
    · rw [if_neg h]
      cases hq : partsL l c with
      | nil => exact absurd hq (partsL_ne l c)
      | cons p ps =>
        rw [hq] at ih
        intro q hq
        rcases List.mem_cons.1 hq with rfl | hq
        · have := ih p (List.mem_cons_self ..)
          simp only [List.mem_cons, not_or]
          exact ⟨fun e => h e.symm, this⟩
        · exact ih q (List.mem_cons_of_mem _ hq)

theorem cut_has (l : List UInt8) (c : UInt8) : (cutL l c).2.2 = hasB l c := by
  induction l with
  | nil => simp [cutL, hasB]
  | cons b l ih =>
    have e2 : cutL (b :: l) c = if b = c then ([], l, true) else (b :: (cutL l c).1, (cutL l c).2.1, (cutL l c).2.2) := rfl
    rw [e2]
    by_cases h : b = c
    · rw [if_pos h, h, hasB_yes (List.mem_cons_self ..)]
    · rw [if_neg h, ih]
      unfold hasB
      simp [List.mem_cons, Ne.symm h]

theorem join_snoc (ps : List (List UInt8)) (q : List UInt8) (c : UInt8) (h : ps ≠ []) : joinL (ps ++ [q]) c = joinL ps c ++ c :: q := by
  induction ps with
  | nil => exact absurd rfl h
  | cons p ps ih =>
    cases ps with
    | nil => simp [joinL]
    | cons p' ps' =>
      have e1 : joinL (p :: p' :: ps') c = p ++ c :: joinL (p' :: ps') c := by rw [joinL, if_neg (by simp)]
      have e2 : joinL (p :: (p' :: ps' ++ [q])) c = p ++ c :: joinL (p' :: ps' ++ [q]) c := by rw [joinL, if_neg (by simp)]
      rw [List.cons_append, e2, ih (by simp), e1]
      simp

theorem cat_mk1 (a : List UInt8) (c : UInt8) : (⟨a.toArray⟩ ++ ⟨#[c]⟩ : ByteArray) = ⟨(a ++ [c]).toArray⟩ := cat_mk a [c]

theorem own_form {w : World} {B n : Nat} {e : TypeId} {v : Value} {xs : List Value} (h : w.ownsRow B e 1 v n xs) (hn : 0 < n) : ∃ g cap, v = .slice (some ⟨g, 0, none⟩) n cap ∧ g < w.heap.size := by
  rcases hv : v.ownBlock with _ | k
  · rcases h.2 with ⟨rfl, h0⟩ | ⟨g, cap, cur, rfl, _⟩
    · omega
    · simp [Value.ownBlock] at hv
  · have hl := (h.lt k hv).2
    rcases h.2 with ⟨rfl, h0⟩ | ⟨g, cap, cur, rfl, _⟩
    · omega
    · simp [Value.ownBlock] at hv; subst hv; exact ⟨g, cap, rfl, hl⟩

theorem parts_more (l : List UInt8) (c : UInt8) : decide (1 < (partsL l c).length) = hasB l c := by
  rw [← cut_has, partsL_cut]
  cases h : (cutL l c).2.2
  · simp
  · have := partsL_ne (cutL l c).2.1 c
    have h2 : 0 < (partsL (cutL l c).2.1 c).length := List.length_pos_iff.2 this
    simp; exact h2

theorem join_part_le (ps : List (List UInt8)) (c : UInt8) : ∀ p ∈ ps, p.length ≤ (joinL ps c).length := by
  induction ps with
  | nil => simp
  | cons q ps ih =>
    intro p hp
    have e : joinL (q :: ps) c = q ++ (if ps = [] then [] else c :: joinL ps c) := rfl
    rw [e, List.length_append]
    rcases List.mem_cons.1 hp with rfl | hp
    · omega
    · have := ih p hp
      have hne : ps ≠ [] := fun e => by rw [e] at hp; cases hp
      rw [if_neg hne, List.length_cons]; omega

theorem join_take_le (ps : List (List UInt8)) (c : UInt8) : ∀ k, (joinL (ps.take k) c).length ≤ (joinL ps c).length := by
  induction ps with
  | nil => intro k; simp [joinL]
  | cons q ps ih =>
    intro k
    cases k with
    | zero => simp [joinL]
    | succ k =>
      have e : joinL (q :: ps) c = q ++ (if ps = [] then [] else c :: joinL ps c) := rfl
      have e2 : joinL (q :: ps.take k) c = q ++ (if ps.take k = [] then [] else c :: joinL (ps.take k) c) := rfl
      rw [List.take_succ_cons, e, e2, List.length_append, List.length_append]
      have := ih k
      by_cases h1 : ps.take k = []
      · rw [if_pos h1]; simp
      · have h2 : ps ≠ [] := fun e => h1 (by rw [e]; simp)
        rw [if_neg h1, if_neg h2, List.length_cons, List.length_cons]; omega

theorem join_take_succ (ps : List (List UInt8)) (c : UInt8) (k : Nat) (p : List UInt8) (hk : 0 < k) (hp : ps[k]? = some p) : joinL (ps.take (k + 1)) c = joinL (ps.take k) c ++ c :: p := by
  rw [List.take_add_one, hp]
  refine join_snoc _ _ _ (fun e => ?_)
  have h1 := congrArg List.length e
  rw [List.length_take] at h1
  have h2 : k < ps.length := by
    rcases Nat.lt_or_ge k ps.length with h | h
    · exact h
    · rw [List.getElem?_eq_none h] at hp; cases hp
  simp only [List.length_nil] at h1; omega

set_option maxRecDepth 100000 in
set_option maxHeartbeats 1600000 in
theorem law_txtparts (a : Option Addr) (len cap : Nat) (zs : List Int) (w : World) (h : IsRow .u8 w a len cap zs) :
    Calls Try.prog 3 #[.slice a len cap] w fun e w' => e = .returned (.bool true) ∧ Below w.heap.size w w' := by
  have hlm : len ≤ 9223372036854775807 := by
    rcases h with ⟨_, rfl, _⟩ | ⟨x, _, h1, h2, _⟩
    · omega
    · unfold maxLen at h2; omega
  by_cases hbig : 1048576 < len
  · clear h
    go_enter Try.func3, Try.ntmps3
    go_wp2_with fail
    go_ret
    exact ⟨rfl, Below.refl _ _⟩
  · go_enter Try.func3, Try.ntmps3
    go_wp2_with fail
    refine (draw_parts _ _ _ _ _ h).mono ?_
    rintro e w1 ⟨s, c, rfl, hs, hb1⟩
    clear h
    go_wp2_with fail
    refine (impl_parts s c _ (by omega)).mono ?_
    rintro e w2 ⟨v, rfl, ho, hb2⟩
    have hbel2 := hb1.trans (hb2.mono hb1.size)
    go_wp2_with fail
    refine (impl_cut s c _ (by omega)).mono ?_
    rintro e w3 ⟨rfl, hb3⟩
    have hbel3 := hbel2.trans (hb3.mono hbel2.size)
    have ho3 := own_below ho hb3
    go_wp2_with fail
    refine (spec_cut s c _ (by unfold maxLen; omega)).mono ?_
    rintro e w4 ⟨rfl, n4, rfl⟩
    have hbel4 : Below w.heap.size w (w3.drewN n4) := below_drewN hbel3
    have ho4 := own_drewN ho3 n4
    clear ho3 hb3 hb2 hbel2 hbel3 ho
    go_wp2_with fail
    refine (spec_parts s c _ (by omega)).mono ?_
    rintro e w5 ⟨v5, rfl, ho5, hb5⟩
    have hbel5 := hbel4.trans (hb5.mono hbel4.size)
    have hov := own_below ho4 hb5
    have hN : 0 < (partsL s.data.toList c).length := List.length_pos_iff.2 (partsL_ne _ _)
    obtain ⟨g, cap', rfl, hg⟩ := own_form hov hN
    go_wp2_with fail
    refine (gd_texts _ v5 (partsL s.data.toList c) _ (Rd1.of_own hov) (Rd1.of_own ho5)).mono ?_
    rintro e w6 ⟨rfl, n6, rfl⟩
    have hcutp := partsL_cut s.data.toList c
    have hp0 : (partsL s.data.toList c)[0]? = some (cutL s.data.toList c).1 := by rw [hcutp]; rfl
    have hjoin := join_parts s.data.toList c
    have hno := parts_no s.data.toList c
    have hmore := parts_more s.data.toList c
    have hcuth := cut_has s.data.toList c
    have hlen := partsL_len s.data.toList c
    have hls : s.data.toList.length ≤ 60 := by rw [← size_len]; exact hs
    generalize hPs : partsL s.data.toList c = ps at *
    clear hPs hcutp
    have hcell : ∀ j p, ps[j]? = some p → w5.cell? ⟨g, j, none⟩ = some (strV p) := fun j p hp => by
      have hjl : j < ps.length := by
        rcases Nat.lt_or_ge j ps.length with h | h
        · exact h
        · rw [List.getElem?_eq_none h] at hp; cases hp
      rw [hov.cellAt j (by rw [Nat.mul_one]; exact hjl), List.getElem?_map, hp]; rfl
    have hc0 := hcell 0 _ hp0
    have HC := Lib.hid hcell; clear hcell
    have HJ := Lib.hid hjoin; have HNo := Lib.hid hno; have HM := Lib.hid hmore; have HH := Lib.hid hcuth; have HP := Lib.hid hp0
    clear hjoin hno hmore hcuth hp0 ho5 hb5 hov ho4
    generalize hq : cutL s.data.toList c = q at *
    obtain ⟨q1, q2, q3⟩ := q
    clear hq
    simp only at hc0
    have hne : ((ps.length : Int) == 0) = false := beq_eq_false_iff_ne.2 (by omega)
    have hsz1 : ∀ k, (ByteArray.mk (joinL (ps.take k) c).toArray).size ≤ 60 := fun k => by
      have := join_take_le ps c k
      rw [HJ.out] at this
      rw [size_len]; simp only [List.toList_toArray]; omega
    have hsz2 : ∀ p ∈ ps, (ByteArray.mk p.toArray).size ≤ 60 := fun p hp => by
      have := join_part_le ps c p hp
      rw [HJ.out] at this
      rw [size_len]; simp only [List.toList_toArray]; omega
    have HS1 := Lib.hid hsz1; have HS2 := Lib.hid hsz2; clear hsz1 hsz2
    have hcv : ∀ W : World, (convert 22 9 (.slice (some ⟨W.heap.size, 0, none⟩) 1 1)).run Try.prog (W.alloc (.cells #[.int .u8 (c.toNat : Int)] 5)).drew = .ok (.string ⟨#[c]⟩) (W.alloc (.cells #[.int .u8 (c.toNat : Int)] 5)).drew := fun W =>
      run_conv1c (P := Try.prog) 22 9 5 Try.underlying22 Try.underlying5 Try.underlying9 _ _ c (by rw [World.cell?_drew, World.cell?_alloc_at _ _ _ _ rfl]; rfl)
    have HCV := Lib.hid hcv; clear hcv
    go_wp2_with fail
    go_loopw [12, 13] (fun t k wr => ∃ j : Nat, j ≤ ps.length ∧ k = .int .i64 j ∧ t = .string ⟨(joinL (ps.take (max j 1)) c).toArray⟩ ∧ Below w5.heap.size w5 wr) (fun _ k _ => ps.length - (intOf k).toNat)
    case atStart =>
      refine ⟨0, Nat.zero_le _, rfl, ?_, below_drewN (Below.refl _ _)⟩
      have : ps.take 1 = [q1] := by
        have := HP.out
        cases ps with
        | nil => cases this
        | cons p ps => simp at this; subst this; rfl
      rw [show max 0 1 = 1 from rfl, this]
      show Value.string ⟨q1.toArray⟩ = _
      simp [joinL]
    case round =>
      obtain ⟨j, hj, rfl, rfl, hb⟩ := hrel
      by_cases hlt : j < ps.length
      · obtain ⟨p, hp⟩ : ∃ p, ps[j]? = some p := ⟨_, List.getElem?_eq_getElem hlt⟩
        have hcj : wr.cell? ⟨g, j, none⟩ = some (.string ⟨p.toArray⟩) := (hb.cell (p := ⟨g, j, none⟩) hg).trans (HC.out j p hp)
        have hnp := HNo.out p (List.mem_of_getElem? hp)
        have hsp := HS2.out p (List.mem_of_getElem? hp)
        have hst := HS1.out (max j 1)
        have HPJ := Lib.hid hp; clear hp
        have HNP := Lib.hid hnp; clear hnp
        go_wp2_with fail
        refine (gd_has _ c _ (by unfold maxLen; omega)).mono ?_
        rintro e w7 ⟨rfl, rfl⟩
        simp only [List.toList_toArray]
        rw [hasB_no HNP.out]
        by_cases hj0 : j = 0
        · subst hj0
          go_wp2
          go_roundw
          case rel => exact ⟨1, by omega, by go_num, rfl, hb⟩
          case measure => simp [intOf]; omega
        · have hjp : 0 < (j : Int) := by omega
          have hglt : g < wr.heap.size := Nat.lt_of_lt_of_le hg hb.size
          have hca : ∀ o, (wr.alloc o).cell? ⟨g, j, none⟩ = some (.string ⟨p.toArray⟩) := fun o => (World.cell?_alloc_lt wr o _ hglt).trans hcj
          have hcv := HCV.out
          have hmx : max j 1 = j := by omega
          rw [hmx] at hst ⊢
          clear hmx
          generalize htl : joinL (ps.take j) c = tl at hst ⊢
          have HTL := Lib.hid htl; clear htl
          have hl1 : tl.length ≤ 60 := by rw [size_len] at hst; simpa using hst
          have hl2 : p.length ≤ 60 := by rw [size_len] at hsp; simpa using hsp
          go_wp2_with fail
          go_region
          all_goals
            go_wp2
            go_roundw
            case rel =>
              refine ⟨j + 1, by omega, by go_num, ?_, (hb.alloc hb.size _).drew⟩
              rw [show max (j + 1) 1 = j + 1 from by omega, join_take_succ ps c j p (by omega) HPJ.out, HTL.out, cat_mk1, cat_mk]
              simp
            case measure => simp [intOf]; omega
      · have hjn : j = ps.length := by omega
        have ht : joinL (ps.take (max j 1)) c = s.data.toList := by
          rw [List.take_of_length_le (by omega)]; exact HJ.out
        rw [ht, mk_toList]
        have hcw0 : wr.cell? ⟨g, 0, none⟩ = some (.string ⟨q1.toArray⟩) := (hb.cell (p := ⟨g, 0, none⟩) hg).trans hc0
        have e3 : decide ((1 : Int) < (ps.length : Int)) = q3 := by
          rw [HH.out, ← HM.out]; exact decide_eq_decide.2 (by omega)
        clear ht hc0
        go_wp2_with fail
        refine (gd_has s c _ (by unfold maxLen; omega)).mono ?_
        rintro e w7 ⟨rfl, rfl⟩
        rw [← HH.out]
        go_wp2
        go_ret
        exact ⟨rfl, hbel5.trans (hb.mono hbel5.size)⟩

namespace Lw
theorem fnTxtParts (w : World) (a : Option Addr) (len cap : Nat) (zs : List Int) (h : IsRow .u8 w a len cap zs) :
    Calls Try.prog 3 #[.slice a len cap] w fun e w' => e = .returned (.bool true) ∧ Below w.heap.size w w' := law_txtparts a len cap zs w h
end Lw
end Go.Proofs.Ytmeblmoinanciaa
