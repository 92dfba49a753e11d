/- The law on what somebody would take, read, exact. -/
import Derived.Test.YtlfcamapjeldjaaDoorCodU
import Derived.Test.YtlfcamapjeldjaaDoorLaidN
namespace Go.Proofs.YtlfcamapjeldjaaDoor
open Go.RowKit Go.Maps

set_option maxHeartbeats 1600000 in
theorem law_codparse (s : ByteArray) (w : World) (hs : s.size ≤ maxLen) (hd : Cds w) (hc : Cls w) (he : Errs w) :
    Calls Tryd.prog 8 #[.string s] w fun e w' => e = .returned (.bool true) ∧ Below w.heap.size w w' := by
  by_cases hbig : 1048576 < s.size
  · unfold maxLen at hs
    clear hd hc he
    go_enter Tryd.func8, Tryd.ntmps8
    go_wp2_with fail
    go_ret
    exact ⟨rfl, Below.refl _ _⟩
  have hs6 : s.size ≤ 1048576 := by omega
  have HX : Hid (∀ W, Below w.heap.size w W → Cds W ∧ Cls W ∧ Errs W) := Lib.hid fun W hW => ⟨hd.below hW (Nat.le_refl _), hc.below hW (Nat.le_refl _), he.below hW (Nat.le_refl _)⟩
  have hI : ∀ W, Below w.heap.size w W → Calls Tryd.prog 14 #[.string s] W fun e w' => PRet W.heap.size s.data.toList e w' ∧ Below W.heap.size W w' := fun W hW => by
    obtain ⟨k1, k2, k3⟩ := HX.out W hW
    exact impl_codparse s W hs6 k1 k2 k3
  have hS := spec_codparse s w hs6
  unfold PRet at hI hS
  have hlen : (codParse s.data.toList).getD [] = [] ∨ ((codParse s.data.toList).getD []).length ≤ 5 := by
    unfold codParse
    split
    · cases h : codAll (partsL s.data.toList 44) with
      | none => exact .inl rfl
      | some ws => right; simp only [Option.getD_some]; rw [codAll_len h]; assumption
    · exact .inl rfl
  have hlen5 : ((codParse s.data.toList).getD []).length ≤ 5 := by
    rcases hlen with h | h
    · rw [h]; decide
    · exact h
  clear hlen
  generalize (codParse s.data.toList).getD [] = ws at *
  generalize (codParse s.data.toList).isSome = ok at *
  have HI := Lib.hid hI; have HS := Lib.hid hS
  clear hI hS hd hc he HX
  go_enter Tryd.func8, Tryd.ntmps8
  go_wp2_with fail
  refine HS.out.mono ?_
  rintro e w1 ⟨⟨u0, wsx, rfl, hwx, ho0⟩, hb1⟩
  rw [hwx] at ho0
  clear hwx wsx
  have hr0 := Lib.hid (wrow_of_own ho0)
  clear ho0
  go_wp2_with fail
  refine (HI.out _ hb1).mono ?_
  rintro e w2 ⟨⟨u1, wsx, rfl, hwx, ho1⟩, hb2⟩
  rw [hwx] at ho1
  clear hwx wsx
  have hs1 := hb1.size
  have hb02 := hb1.trans (hb2.mono hs1)
  have hr02 := Lib.hid (hr0.out.below (Nat.le_refl _) hb2)
  have hr1 := Lib.hid (wrow_of_own ho1)
  have hown := own_wants ho1
  have hform : ∃ va vc, u1 = .slice va ws.length vc := by
    obtain ⟨va, vc, e, _⟩ := hr1.out
    exact ⟨va, vc, e⟩
  clear ho1
  go_wp2_with fail
  refine (eq_wants u1 u0 ws _ hr1.out hr02.out (by omega)).mono ?_
  rintro e w3 ⟨rfl, hb3⟩
  have hs2 := hb2.size
  have hb03 := hb02.trans (hb3.mono hb02.size)
  have hr03 := Lib.hid (hr02.out.below (Nat.le_refl _) hb3)
  clear hr02 hr1 hform
  rcases hown with ⟨rfl, rfl⟩ | ⟨g, cap, rfl, hg, hn, hm, hcells⟩
  · go_wp2_with fail
    refine (wmark_none 1 _).mono ?_
    rintro e w4 ⟨rfl, rfl⟩
    go_wp2_with fail
    refine (wheld_none 1 _).mono ?_
    rintro e w5 ⟨rfl, rfl⟩
    go_wp2_with fail
    refine (HI.out _ hb03).mono ?_
    rintro e w6 ⟨⟨u2, wsx, rfl, hwx, ho2⟩, hb6⟩
    rw [hwx] at ho2
    clear hwx wsx
    have hb06 := hb03.trans (hb6.mono hb03.size)
    have hr06 := hr03.out.below (Nat.le_refl _) hb6
    have hr2 := wrow_of_own ho2
    clear ho2
    go_wp2_with fail
    refine (eq_wants u2 u0 [] _ hr2 hr06 (by decide)).mono ?_
    rintro e w7 ⟨rfl, hb7⟩
    have hb07 := hb06.trans (hb7.mono hb06.size)
    go_wp2_with fail
    refine (wheld_none 1 _).mono ?_
    rintro e w8 ⟨rfl, rfl⟩
    go_wp2
    go_ret
    exact ⟨rfl, hb07⟩
  · have hglt := hcells.lt
    have hc3 := hcells.keep (hb3.block _ hglt)
    clear hcells
    go_wp2_with fail
    refine (mark_wants g ws.length 1 cap _ _ hc3 (by omega)).mono ?_
    rintro e w4 ⟨rfl, hc4, hg4⟩
    have hgk : ∀ k, some g = some k → w1.heap.size ≤ k := fun k hk => by cases hk; exact hg
    have hb14 : Below w1.heap.size w1 w4 := (hb2.trans (hb3.mono hs2)).grown hg4 (by have := hb3.size; omega) hgk
    have hb4 := hb1.trans (hb14.mono hs1)
    have hr04 := Lib.hid (hr0.out.below (Nat.le_refl _) hb14)
    have hglt4 : g < w4.heap.size := hc4.lt
    clear hc3 hg4 hr03 hb3 hb03 hb02
    go_wp2_with fail
    refine (held_wants g ws.length 1 cap _ _ hc4 (by omega)).mono ?_
    rintro e w5 ⟨rfl, d5, rfl⟩
    have hb5 : Below w.heap.size w (w4.drewN d5) := below_drewN hb4
    have hb45 : Below w4.heap.size w4 (w4.drewN d5) := below_drewN (Below.refl _ _)
    go_wp2_with fail
    refine (HI.out _ hb5).mono ?_
    rintro e w6 ⟨⟨u2, wsx, rfl, hwx, ho2⟩, hb6⟩
    rw [hwx] at ho2
    clear hwx wsx
    have hb46 := hb45.trans (hb6.mono (by exact Nat.le_refl _))
    have hs4 := hb4.size
    have hb06 := hb4.trans (hb46.mono hs4)
    have hr06 := hr04.out.below (Nat.le_refl _) hb46
    have hr2 := wrow_of_own ho2
    clear ho2
    go_wp2_with fail
    refine (eq_wants u2 u0 ws _ hr2 hr06 (by omega)).mono ?_
    rintro e w7 ⟨rfl, hb7⟩
    have hb47 := hb46.trans (hb7.mono hb46.size)
    have hb07 := hb4.trans (hb47.mono hs4)
    have hc7 := hc4.keep (hb47.block _ hglt4)
    go_wp2_with fail
    refine (held_wants g ws.length 1 cap _ _ hc7 (by omega)).mono ?_
    rintro e w8 ⟨rfl, d8, rfl⟩
    go_wp2
    go_ret
    exact ⟨rfl, below_drewN hb07⟩
namespace Lw
theorem fnExactCodParse (w : World) (hL : laidMetH Tryd.prog Rows.fnExactCodParseRow.laid w) (s : ByteArray) (hs : s.size ≤ maxLen) :
    Calls Tryd.prog 8 #[.string s] w fun e w' => e = .returned (.bool true) ∧ Below w.heap.size w w' := by
  have hL' : laidMet Tryd.prog Rows.fnExactCodParseRow.laid w := hL
  exact law_codparse s w hs (cds_of_head hL'.tail.tail.tail.tail.tail.tail.tail) (cls_of_head hL'.tail.tail.tail.tail.tail.tail) (errs_of_heads hL'.tail.tail.tail.tail)
end Lw
end Go.Proofs.YtlfcamapjeldjaaDoor
