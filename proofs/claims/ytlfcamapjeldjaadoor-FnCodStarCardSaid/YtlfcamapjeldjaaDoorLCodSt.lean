/- The law on a star, drawn. -/
import Derived.Test.YtlfcamapjeldjaaDoorCodU
import Derived.Test.YtlfcamapjeldjaaDoorCodD
import Derived.Test.YtlfcamapjeldjaaDoorMaskI
import Derived.Test.YtlfcamapjeldjaaDoorMaskB
import Derived.Test.YtlfcamapjeldjaaDoorGdOk
import Derived.Test.YtlfcamapjeldjaaDoorLaidN
namespace Go.Proofs.YtlfcamapjeldjaaDoor
open Go.RowKit Go.Maps

set_option maxRecDepth 100000 in
set_option maxHeartbeats 3200000 in
theorem law_codstar (a : Option Addr) (len cap : Nat) (zs : List Int) (w : World) (h : IsRow .u8 w a len cap zs) (hd : Cds w) (hc : Cls w) (he : Errs w) :
    Calls Tryd.prog 6 #[.slice a len cap] w fun e w' => e = .returned (.bool true) ∧ Below w.heap.size w w' := by
  have hlen := isrow_len h
  have HI := Lib.hid h
  have HX : Hid (∀ W, Below w.heap.size w W → Cds W ∧ Cls W ∧ Errs W) := Lib.hid fun W hW => ⟨hd.below hW (Nat.le_refl _), hc.below hW (Nat.le_refl _), he.below hW (Nat.le_refl _)⟩
  clear h hd hc he
  by_cases hbig : 1048576 < len
  · go_enter Tryd.func6, Tryd.ntmps6
    go_wp2_with fail
    go_ret
    exact ⟨rfl, Below.refl _ _⟩
  go_enter Tryd.func6, Tryd.ntmps6
  go_wp2_with fail
  refine (draw_codq a len cap zs _ HI.out).mono ?_
  rintro e w1 ⟨⟨r, rfl⟩, hb1⟩
  have hl := qlit_len r
  have hstar := star_all r
  unfold starB at hstar
  generalize qLit r.val = l at *
  have hsz : (ByteArray.mk l.toArray).size ≤ 6 := by rw [size_len]; exact hl
  have hQ1 := fun W (h : Errs W) => impl_codq ⟨l.toArray⟩ W (by omega) h
  have hQ2 := fun W => spec_codq ⟨l.toArray⟩ W (by unfold maxLen; omega)
  have hcat1 : (⟨#[42, 59, 113, 61]⟩ : ByteArray) ++ ⟨l.toArray⟩ = ⟨([42, 59, 113, 61] ++ l).toArray⟩ := cat_mk [42, 59, 113, 61] l
  have hcat2 : (⟨#[103, 122, 44, 32, 42, 59, 113, 61]⟩ : ByteArray) ++ ⟨l.toArray⟩ = ⟨([103, 122, 44, 32, 42, 59, 113, 61] ++ l).toArray⟩ := cat_mk [103, 122, 44, 32, 42, 59, 113, 61] l
  have hP1 : ∀ W, Below w.heap.size w W → Calls Tryd.prog 14 #[.string ((⟨#[42, 59, 113, 61]⟩ : ByteArray) ++ ⟨l.toArray⟩)] W fun e w' => PRet W.heap.size ([42, 59, 113, 61] ++ l) e w' ∧ Below W.heap.size W w' := fun W hW => by
    obtain ⟨k1, k2, k3⟩ := HX.out W hW
    rw [hcat1]
    exact impl_codparse ⟨([42, 59, 113, 61] ++ l).toArray⟩ W (by rw [size_len]; simp only [List.length_append, List.length_cons, List.length_nil]; omega) k1 k2 k3
  have hP2 : ∀ W, Below w.heap.size w W → Calls Tryd.prog 14 #[.string ((⟨#[103, 122, 44, 32, 42, 59, 113, 61]⟩ : ByteArray) ++ ⟨l.toArray⟩)] W fun e w' => PRet W.heap.size ([103, 122, 44, 32, 42, 59, 113, 61] ++ l) e w' ∧ Below W.heap.size W w' := fun W hW => by
    obtain ⟨k1, k2, k3⟩ := HX.out W hW
    rw [hcat2]
    exact impl_codparse ⟨([103, 122, 44, 32, 42, 59, 113, 61] ++ l).toArray⟩ W (by rw [size_len]; simp only [List.length_append, List.length_cons, List.length_nil]; omega) k1 k2 k3
  unfold QEnd at hQ1 hQ2
  unfold PRet at hP1 hP2
  simp only at hQ1 hQ2
  generalize codQ l = Q at *
  obtain ⟨q, ok⟩ := Q
  generalize codParse ([42, 59, 113, 61] ++ l) = A1 at *
  generalize codParse ([103, 122, 44, 32, 42, 59, 113, 61] ++ l) = A2 at *
  simp only at hQ1 hQ2 hstar
  have HQ1 := Lib.hid hQ1; have HQ2 := Lib.hid hQ2; have HP1 := Lib.hid hP1; have HP2 := Lib.hid hP2
  clear hQ1 hQ2 hP1 hP2 hcat1 hcat2
  unfold strV
  go_wp2_with fail
  refine (HQ1.out _ (HX.out _ hb1).2.2).mono ?_
  rintro e w2 ⟨rfl, hb2⟩
  have hb02 := hb1.trans (hb2.mono hb1.size)
  go_wp2_with fail
  refine (HQ2.out _).mono ?_
  rintro e w3 ⟨rfl, n3, rfl⟩
  have hb03 : Below w.heap.size w (w2.drewN n3) := below_drewN hb02
  cases ok
  · have hA : A1 = none := by simpa using hstar
    subst hA
    go_wp2_with fail
    refine (HP1.out _ hb03).mono ?_
    rintro e w4 ⟨⟨u, ws, rfl, hws, ho⟩, hb4⟩
    have hw0 : ws = [] := hws
    subst hw0
    have hb04 := hb03.trans (hb4.mono hb03.size)
    have hul : ∃ ua uc, u = .slice ua 0 uc := by
      obtain ⟨ua, uc, e, _⟩ := wrow_of_own ho
      exact ⟨ua, uc, e⟩
    obtain ⟨ua, uc, rfl⟩ := hul
    simp only [Option.isSome_none]
    clear ho hws hb4
    go_wp2_with fail
    refine (gd_ok _ (HX.out _ hb04).2.1).mono ?_
    rintro e w5 ⟨rfl, rfl⟩
    go_wp2
    go_ret
    exact ⟨rfl, hb04⟩
  · cases A1 with
    | none => simp at hstar
    | some xs1 =>
      cases A2 with
      | none => simp at hstar
      | some bs =>
        simp only [if_true, Bool.and_eq_true, decide_eq_true_eq] at hstar
        obtain ⟨⟨s1, s2⟩, s3⟩ := hstar
        have HM1 := Lib.hid s1; have HI1 := Lib.hid s2; have HI2 := Lib.hid s3
        clear s1 s2 s3
        go_wp2_with fail
        refine (HP1.out _ hb03).mono ?_
        rintro e w4 ⟨⟨u, ws, rfl, hws, ho⟩, hb4⟩
        have hw0 : ws = xs1 := hws
        subst hw0
        have hb04 := hb03.trans (hb4.mono hb03.size)
        have hr4 := Lib.hid (wrow_of_own ho)
        simp only [Option.isSome_some]
        clear ho hws hb4
        have fin : ∀ (all : Nat), (if 0 < q then 7 else 0) = all → all = maskL ws := fun all h => by rw [HM1.out, h]
        by_cases hq : 0 < q
        all_goals
          go_wp2_with fail
          refine (HP2.out _ hb04).mono ?_
          rintro e w5 ⟨⟨u2, ws2, rfl, hws, ho⟩, hb5⟩
          have hw0 : ws2 = bs := hws
          subst hw0
          have hb05 := hb04.trans (hb5.mono hb04.size)
          have hr5 := Lib.hid (wrow_of_own ho)
          have hr45 := hr4.out.below (Nat.le_refl _) hb5
          have hm1 := HM1.out
          first
            | rw [if_pos hq] at hm1
            | rw [if_neg hq] at hm1
          have hmk := impl_mask u ws w5 hr45
          rw [hm1] at hmk
          have HMK := Lib.hid hmk
          clear ho hws hb5 hr45 hm1 hmk fin
          go_wp2_with fail
          refine HMK.out.mono ?_
          rintro e w6 ⟨rfl, hb6⟩
          have hb06 := hb05.trans (hb6.mono hb05.size)
          have hr6 := hr5.out.below (Nat.le_refl _) hb6
          have hI1 := Lib.hid (fun W => impl_codin (maskL ws2 : Int) 1 W)
          have hI2 := Lib.hid (fun W => impl_codin (maskL ws2 : Int) 2 W)
          rw [HI1.out] at hI1
          rw [HI2.out] at hI2
          first
            | rw [decide_eq_true hq] at hI2
            | rw [decide_eq_false hq] at hI2
          go_wp2_with fail
          refine (impl_mask u2 ws2 _ hr6).mono ?_
          rintro e w7 ⟨rfl, hb7⟩
          have hb07 := hb06.trans (hb7.mono hb06.size)
          have hr7 := hr6.below (Nat.le_refl _) hb7
          clear hr6 hb7 hb6
          go_wp2_with fail
          refine (hI1.out _).mono ?_
          rintro e w8 ⟨rfl, rfl⟩
          go_wp2_with fail
          refine (impl_mask u2 ws2 _ hr7).mono ?_
          rintro e w9 ⟨rfl, hb9⟩
          have hb09 := hb07.trans (hb9.mono hb07.size)
          clear hr7 hb9
          go_wp2_with fail
          refine (hI2.out _).mono ?_
          rintro e w10 ⟨rfl, rfl⟩
          go_wp2
          go_ret
          exact ⟨rfl, hb09⟩
namespace Lw
theorem fnCodStar (w : World) (hL : laidMetH Tryd.prog Rows.fnCodStarRow.laid w) (a : Option Addr) (len cap : Nat) (zs : List Int) (h : IsRow .u8 w a len cap zs) :
    Calls Tryd.prog 6 #[.slice a len cap] w fun e w' => e = .returned (.bool true) ∧ Below w.heap.size w w' := by
  have hL' : laidMet Tryd.prog Rows.fnCodStarRow.laid w := hL
  exact law_codstar a len cap zs w h (cds_of_head hL'.tail.tail.tail.tail.tail.tail.tail) (cls_of_head hL'.tail.tail.tail.tail.tail.tail) (errs_of_heads hL'.tail.tail.tail.tail)
end Lw
end Go.Proofs.YtlfcamapjeldjaaDoor
