/- Walks: reading a number's text. -/
import Derived.Test.YtncegikmpapldaaGreatDoorNum
import Derived.Shelf.Strconv.ErrVarAll
namespace Go.Proofs.YtncegikmpapldaaGreatDoor
open Go.RowKit

theorem numR_no {l : List UInt8} (h : (numR l).2 = false) : numR l = (0, false) := by
  unfold numR at h ⊢
  split
  · rename_i hc; rw [if_pos hc] at h; cases h
  · rfl
theorem numR_ok {l : List UInt8} {v : Int} (ha : Lib.atoiAll l = .ok v) (h : numT v = l) : numR l = (v.toNat, true) ∧ 0 ≤ v := by
  unfold numT at h
  by_cases hc : 0 ≤ v ∧ v ≤ 999999
  · rw [if_pos hc] at h
    rw [← h, numR_dec _ (by omega)]
    exact ⟨rfl, hc.1⟩
  · rw [if_neg hc] at h
    subst h
    cases ha
theorem numR_bad {l : List UInt8} (ha : ∀ v : Nat, v ≤ 999999 → Lib.decDigits v ≠ l) : numR l = (0, false) := by
  apply numR_no
  cases hb : (numR l).2
  · rfl
  · have := numR_yes hb
    exact absurd this.2 (ha _ this.1)

/-- What the reading of numbers asks of the library's variables. -/
def Errs (w : World) : Prop := ∃ tp p tp2 p2, w.var? Tryz.prog "strconv.ErrSyntax" = some #[.iface tp p] ∧ w.var? Tryz.prog "strconv.ErrRange" = some #[.iface tp2 p2]
theorem gErrS : Tryz.prog.globalNamed "strconv.ErrSyntax" = some 2 := by kernel_rfl
theorem gErrR : Tryz.prog.globalNamed "strconv.ErrRange" = some 3 := by kernel_rfl
theorem Errs.below {w w' : World} {B : Nat} (h : Errs w) (hb : Below B w w') (hB : w.heap.size ≤ B) : Errs w' := by
  obtain ⟨a, b, c, d, h1, h2⟩ := h
  exact ⟨a, b, c, d, Joins.var_stays gErrS h1 hb hB, Joins.var_stays gErrR h2 hb hB⟩

theorem atoi_below {w w' : World} (h : w' = w ∨ ∃ t, w' = Lib.bytesWorld w 5 t) : Below w.heap.size w w' := by
  rcases h with rfl | ⟨t, rfl⟩
  · exact Below.refl _ _
  · exact Lib.bytesWorld_below _ _ _

set_option maxHeartbeats 800000 in
theorem impl_numread (s : ByteArray) (w : World) (hs : s.size ≤ 281474976710656) (ht : Tab w) (he : Errs w) :
    Calls Tryz.prog 37 #[.string s] w fun e w' => e = .returned (.tuple #[.int .i64 ((numR s.data.toList).1 : Int), .bool (numR s.data.toList).2]) ∧ Below w.heap.size w w' := by
  obtain ⟨tp, p, tp2, p2, hv1, hv2⟩ := he
  rcases h : Lib.atoiAll s.data.toList with v | _ | _
  · have hbd := Lib.atoiAll_bounds h
    have hok := Tryz.strconv_Atoi_ok s (by omega) v h w
    by_cases hq : numT v = s.data.toList
    · obtain ⟨hr, hv0⟩ := numR_ok h hq
      rw [hr]
      have hbs : (⟨(numT v).toArray⟩ : ByteArray) = s := by rw [hq]
      have HB := Lib.hid hbs; have HOK := Lib.hid hok; have HT := Lib.hid ht
      obtain ⟨k, rfl⟩ := Int.eq_ofNat_of_zero_le hv0
      rw [Int.toNat_natCast]
      clear hbs hq hr h hok hv1 hv2 ht
      go_enter Tryz.func37, Tryz.ntmps37
      go_wp2_with fail
      refine HOK.out.mono ?_
      rintro e w1 ⟨rfl, hw⟩
      have hb1 := atoi_below hw
      clear hw
      have ht1 := HT.out.below hb1 (Nat.le_refl _)
      go_wp2_with fail
      refine (impl_numtext _ _ (by omega) (by omega) ht1).mono ?_
      rintro e w2 ⟨rfl, hb2⟩
      simp only [strV]
      rw [HB.out]
      go_wp2
      go_ret2
      exact ⟨rfl, hb1.trans (hb2.mono hb1.size)⟩
    · have hr : numR s.data.toList = (0, false) := numR_bad (fun u hu e => by
        have := atoi_dec u hu
        rw [e, h] at this
        injection this with this
        apply hq
        unfold numT
        rw [this, if_pos (by omega), Int.toNat_natCast, e])
      rw [hr]
      have hbs : (numT v == s.toList) = false := beq_eq_false_iff_ne.2 (by rw [Lib.toList_data]; exact hq)
      have HOK := Lib.hid hok; have HT := Lib.hid ht
      clear hq hr h hok hv1 hv2 ht
      go_enter Tryz.func37, Tryz.ntmps37
      go_wp2_with fail
      refine HOK.out.mono ?_
      rintro e w1 ⟨rfl, hw⟩
      have hb1 := atoi_below hw
      clear hw
      have ht1 := HT.out.below hb1 (Nat.le_refl _)
      go_wp2_with fail
      refine (impl_numtext _ _ (by omega) (by omega) ht1).mono ?_
      rintro e w2 ⟨rfl, hb2⟩
      go_wp2
      go_ret2
      exact ⟨rfl, hb1.trans (hb2.mono hb1.size)⟩
  · have hok := Any.strconv_Atoi_syntax_var Tryz.laysC172 s hs h tp p w hv1
    have hr : numR s.data.toList = (0, false) := numR_bad (fun u hu e => by
      have := atoi_dec u hu
      rw [e, h] at this; cases this)
    rw [hr]
    have HOK := Lib.hid hok
    clear hr h hok hv1 hv2 ht
    go_enter Tryz.func37, Tryz.ntmps37
    go_wp2_with fail
    refine HOK.out.mono ?_
    rintro e w1 ⟨N, rfl, _, _, hb1⟩
    go_wp2
    go_ret2
    exact ⟨rfl, hb1⟩
  · have hok := Any.strconv_Atoi_range_var Tryz.laysC172 s hs h tp2 p2 w hv2
    have hr : numR s.data.toList = (0, false) := numR_bad (fun u hu e => by
      have := atoi_dec u hu
      rw [e, h] at this; cases this)
    rw [hr]
    have HOK := Lib.hid hok
    clear hr h hok hv1 hv2 ht
    go_enter Tryz.func37, Tryz.ntmps37
    go_wp2_with fail
    refine HOK.out.mono ?_
    rintro e w1 ⟨N, rfl, _, _, hb1⟩
    go_wp2
    go_ret2
    exact ⟨rfl, hb1⟩
end Go.Proofs.YtncegikmpapldaaGreatDoor
