/- The law on numbers, over drawn inputs. -/
import Derived.Test.YtmeblmoinanciaaDoorLLow
import Derived.Test.YtmeblmoinanciaaDoorLaidN
namespace Go.Proofs.YtmeblmoinanciaaDoor
open Go.RowKit

theorem isrow_below {k : IntKind} {w w' : World} {a : Option Addr} {len cap : Nat} {zs : List Int} (h : IsRow k w a len cap zs) (hb : Below w.heap.size w w') : IsRow k w' a len cap zs := by
  rcases h with h | ⟨x, h1, h2, h3, h4, h5, h6⟩
  · exact .inl h
  · exact .inr ⟨x, h1, h2, h3, h4, fun i hi => (hb.cell (World.block_lt_of_cell? w _ (h5 i hi))).trans (h5 i hi), h6⟩
theorem isrow_len {k : IntKind} {w : World} {a : Option Addr} {len cap : Nat} {zs : List Int} (h : IsRow k w a len cap zs) : len ≤ 9223372036854775807 := by
  rcases h with ⟨_, rfl, _⟩ | ⟨x, _, h1, h2, _⟩
  · omega
  · unfold maxLen at h2; omega

set_option maxRecDepth 100000 in
set_option maxHeartbeats 3200000 in
theorem law_numtextd (a : Option Addr) (len cap : Nat) (zs : List Int) (a' : Option Addr) (len' cap' : Nat) (zs' : List Int) (w : World) (h : IsRow .u8 w a len cap zs) (h' : IsRow .u8 w a' len' cap' zs') (hc : Cls w) (ht : Tab w) (he : Errs w) :
    Calls Tryd.prog 4 #[.slice a len cap, .slice a' len' cap'] w fun e w' => e = .returned (.bool true) ∧ Below w.heap.size w w' := by
  have hlm := isrow_len h
  have hlm' := isrow_len h'
  have HC := Lib.hid hc; have HT := Lib.hid ht; have HE := Lib.hid he
  clear hc ht he
  have hsp : 1048576 < len ∨ (len ≤ 1048576 ∧ 1048576 < len') ∨ (len ≤ 1048576 ∧ len' ≤ 1048576) := by omega
  rcases hsp with hsp | ⟨hsp, hsp'⟩ | ⟨hsp, hsp'⟩
  · clear h h'
    go_enter Tryd.func4, Tryd.ntmps4
    go_wp2_with fail
    go_ret
    exact ⟨rfl, Below.refl _ _⟩
  · clear h h'
    go_enter Tryd.func4, Tryd.ntmps4
    go_wp2_with fail
    go_ret
    exact ⟨rfl, Below.refl _ _⟩
  · go_enter Tryd.func4, Tryd.ntmps4
    go_wp2_with fail
    refine (draw_numtext _ _ _ _ _ h).mono ?_
    rintro e w1 ⟨n, rfl, hx0, hx1, hb1⟩
    have h1' := isrow_below h' hb1
    clear h h'
    go_wp2_with fail
    refine (draw_numread _ _ _ _ _ h1').mono ?_
    rintro e w2 ⟨s, rfl, hs, hb2⟩
    have hbel2 := hb1.trans (hb2.mono hb1.size)
    have ht2 := HT.out.below hbel2 (Nat.le_refl _)
    have he2 := HE.out.below hbel2 (Nat.le_refl _)
    clear h1' hb1 hb2
    go_wp2_with fail
    refine (impl_numread s _ (by omega) ht2 he2).mono ?_
    rintro e w3 ⟨rfl, hb3⟩
    have hbel3 := hbel2.trans (hb3.mono hbel2.size)
    clear ht2 he2 hbel2 hb3
    go_wp2_with fail
    refine (spec_numread s _ (by unfold maxLen; omega)).mono ?_
    rintro e w4 ⟨rfl, hb4⟩
    have hbel4 := hbel3.trans (hb4.mono hbel3.size)
    have ht4 := HT.out.below hbel4 (Nat.le_refl _)
    clear hbel3 hb4
    have hyes : (numR s.data.toList).2 = true → (numR s.data.toList).1 ≤ 999999 ∧ Lib.decDigits (numR s.data.toList).1 = s.data.toList := numR_yes
    generalize numR s.data.toList = q at *
    obtain ⟨r, b⟩ := q
    simp only at hyes ⊢
    have HY := Lib.hid hyes; clear hyes
    go_wp2_with fail
    refine (impl_numtext n _ hx0 hx1 ht4).mono ?_
    rintro e w5 ⟨rfl, hb5⟩
    have hbel5 := hbel4.trans (hb5.mono hbel4.size)
    clear ht4 hbel4 hb5
    go_wp2_with fail
    refine (spec_numtext n _).mono ?_
    rintro e w6 ⟨rfl, hb6⟩
    have hbel6 := hbel5.trans (hb6.mono hbel5.size)
    have ht6 := HT.out.below hbel6 (Nat.le_refl _)
    clear hbel5 hb6
    have hn : n < 0 ∨ (0 ≤ n ∧ n ≤ 999999) ∨ (0 ≤ n ∧ 999999 < n) := by omega
    simp only [strV]
    cases b
    · have TABX := Lib.hid ht6
      have CLSX := Lib.hid (HC.out.below hbel6 (Nat.le_refl _))
      have ERRX := Lib.hid (HE.out.below hbel6 (Nat.le_refl _))
      have BX := Lib.hid hbel6
      clear ht6 hbel6
      rcases hn with hn | ⟨hn0, hn1⟩ | ⟨hn0, hn1⟩
      · have e1 : numT n = [] := by unfold numT; rw [if_neg (by omega)]
        have E1 := Lib.hid e1; clear e1
        go_wp2_with fail
        refine (impl_numtext n _ hx0 hx1 TABX.out).mono ?_
        rintro e w9 ⟨rfl, hb9⟩
        rw [E1.out]
        have hc9 := CLSX.out.below hb9 (Nat.le_refl _)
        go_wp2_with fail
        refine (gd_ok _ hc9).mono ?_
        rintro e w10 ⟨rfl, rfl⟩
        go_wp2
        go_ret
        exact ⟨rfl, BX.out.trans (hb9.mono BX.out.size)⟩
      · go_wp2_with fail
        refine (impl_numtext n _ hx0 hx1 TABX.out).mono ?_
        rintro e w9 ⟨rfl, hb9⟩
        have ht9 := TABX.out.below hb9 (Nat.le_refl _)
        have he9 := ERRX.out.below hb9 (Nat.le_refl _)
        have hread : numR (numT n) = (n.toNat, true) := by unfold numT; rw [if_pos ⟨hn0, hn1⟩]; exact numR_dec _ (by omega)
        have hsz : (ByteArray.mk (numT n).toArray).size ≤ 6 := by have := numT_len n; rw [size_len]; simpa using this
        have hdl : (ByteArray.mk (numT n).toArray).data.toList = numT n := by simp
        simp only [strV]
        generalize ht : ByteArray.mk (numT n).toArray = t at *
        rw [← hdl] at hread
        have HR := Lib.hid hread; clear hread hdl ht
        have hnn : ((n.toNat : Nat) : Int) = n := Int.toNat_of_nonneg hn0
        have HNN := Lib.hid hnn; clear hnn
        go_wp2_with fail
        refine (impl_numread t _ (by omega) ht9 he9).mono ?_
        rintro e w10 ⟨rfl, hb10⟩
        rw [HR.out]
        simp only
        rw [HNN.out]
        go_wp2
        go_ret
        exact ⟨rfl, BX.out.trans ((hb9.trans (hb10.mono hb9.size)).mono BX.out.size)⟩
      · have e1 : numT n = [] := by unfold numT; rw [if_neg (by omega)]
        have E1 := Lib.hid e1; clear e1
        go_wp2_with fail
        refine (impl_numtext n _ hx0 hx1 TABX.out).mono ?_
        rintro e w9 ⟨rfl, hb9⟩
        rw [E1.out]
        have hc9 := CLSX.out.below hb9 (Nat.le_refl _)
        go_wp2_with fail
        refine (gd_ok _ hc9).mono ?_
        rintro e w10 ⟨rfl, rfl⟩
        go_wp2
        go_ret
        exact ⟨rfl, BX.out.trans (hb9.mono BX.out.size)⟩
    · obtain ⟨hr1, hr2⟩ := HY.out rfl
      have hrt : (⟨(numT (r : Int)).toArray⟩ : ByteArray) = s := by
        unfold numT; rw [if_pos (by omega), Int.toNat_natCast, hr2]
      have HRT := Lib.hid hrt; clear hrt hr2
      go_wp2_with fail
      refine (impl_numtext r _ (by omega) (by omega) ht6).mono ?_
      rintro e w7 ⟨rfl, hb7⟩
      simp only [strV]
      rw [HRT.out]
      have hbel7 := hbel6.trans (hb7.mono hbel6.size)
      have TABX := Lib.hid (HT.out.below hbel7 (Nat.le_refl _))
      have CLSX := Lib.hid (HC.out.below hbel7 (Nat.le_refl _))
      have ERRX := Lib.hid (HE.out.below hbel7 (Nat.le_refl _))
      have BX := Lib.hid hbel7
      clear ht6 hbel6 hbel7 hb7
      rcases hn with hn | ⟨hn0, hn1⟩ | ⟨hn0, hn1⟩
      · have e1 : numT n = [] := by unfold numT; rw [if_neg (by omega)]
        have E1 := Lib.hid e1; clear e1
        go_wp2_with fail
        refine (impl_numtext n _ hx0 hx1 TABX.out).mono ?_
        rintro e w9 ⟨rfl, hb9⟩
        rw [E1.out]
        have hc9 := CLSX.out.below hb9 (Nat.le_refl _)
        go_wp2_with fail
        refine (gd_ok _ hc9).mono ?_
        rintro e w10 ⟨rfl, rfl⟩
        go_wp2
        go_ret
        exact ⟨rfl, BX.out.trans (hb9.mono BX.out.size)⟩
      · go_wp2_with fail
        refine (impl_numtext n _ hx0 hx1 TABX.out).mono ?_
        rintro e w9 ⟨rfl, hb9⟩
        have ht9 := TABX.out.below hb9 (Nat.le_refl _)
        have he9 := ERRX.out.below hb9 (Nat.le_refl _)
        have hread : numR (numT n) = (n.toNat, true) := by unfold numT; rw [if_pos ⟨hn0, hn1⟩]; exact numR_dec _ (by omega)
        have hsz : (ByteArray.mk (numT n).toArray).size ≤ 6 := by have := numT_len n; rw [size_len]; simpa using this
        have hdl : (ByteArray.mk (numT n).toArray).data.toList = numT n := by simp
        simp only [strV]
        generalize ht : ByteArray.mk (numT n).toArray = t at *
        rw [← hdl] at hread
        have HR := Lib.hid hread; clear hread hdl ht
        have hnn : ((n.toNat : Nat) : Int) = n := Int.toNat_of_nonneg hn0
        have HNN := Lib.hid hnn; clear hnn
        go_wp2_with fail
        refine (impl_numread t _ (by omega) ht9 he9).mono ?_
        rintro e w10 ⟨rfl, hb10⟩
        rw [HR.out]
        simp only
        rw [HNN.out]
        go_wp2
        go_ret
        exact ⟨rfl, BX.out.trans ((hb9.trans (hb10.mono hb9.size)).mono BX.out.size)⟩
      · have e1 : numT n = [] := by unfold numT; rw [if_neg (by omega)]
        have E1 := Lib.hid e1; clear e1
        go_wp2_with fail
        refine (impl_numtext n _ hx0 hx1 TABX.out).mono ?_
        rintro e w9 ⟨rfl, hb9⟩
        rw [E1.out]
        have hc9 := CLSX.out.below hb9 (Nat.le_refl _)
        go_wp2_with fail
        refine (gd_ok _ hc9).mono ?_
        rintro e w10 ⟨rfl, rfl⟩
        go_wp2
        go_ret
        exact ⟨rfl, BX.out.trans (hb9.mono BX.out.size)⟩
namespace Lw
theorem fnNumText (w : World) (hL : laidMetH Tryd.prog Rows.fnNumTextRow.laid w) (a : Option Addr) (len cap : Nat) (zs : List Int) (h : IsRow .u8 w a len cap zs) (a' : Option Addr) (len' cap' : Nat) (zs' : List Int) (h' : IsRow .u8 w a' len' cap' zs') :
    Calls Tryd.prog 4 #[.slice a len cap, .slice a' len' cap'] w fun e w' => e = .returned (.bool true) ∧ Below w.heap.size w w' := by
  have hL' : laidMet Tryd.prog Rows.fnNumTextRow.laid w := hL
  exact law_numtextd a len cap zs a' len' cap' zs' w h h' (cls_of_head hL'.tail.tail.tail.tail.tail) (tab_of_head hL'.tail.tail) (errs_of_heads hL'.tail.tail.tail)
end Lw
end Go.Proofs.YtmeblmoinanciaaDoor
