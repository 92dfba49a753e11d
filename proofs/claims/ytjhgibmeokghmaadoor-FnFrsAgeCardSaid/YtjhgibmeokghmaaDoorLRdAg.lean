/- A law on answers, over drawn inputs: FnFrsAge. -/
import Derived.Test.YtjhgibmeokghmaaDoorRsL
namespace Go.Proofs.YtjhgibmeokghmaaDoor
open Go.RowKit

set_option maxRecDepth 100000 in
set_option maxHeartbeats 6400000 in
theorem law_frsaged (a : Option Addr) (len cap : Nat) (zs : List Int) (w : World) (h : IsRow .u8 w a len cap zs) (hcls : Cls w) :
    Calls Tryd.prog 4 #[.slice a len cap] w fun e w' => e = .returned (.bool true) ∧ Below w.heap.size w w' := by
  have hl := isrow_len h
  by_cases hbig : 1048576 < len
  · clear hcls h
    go_enter Tryd.func4, Tryd.ntmps4
    go_wp2_with fail
    go_ret
    exact ⟨rfl, Below.refl _ _⟩
  have d1 := draw_frsage a len cap zs w h
  have HX : Hid (∀ W, Below w.heap.size w W → Cls W) := Lib.hid fun W hW => hcls.below hW (Nat.le_refl _)
  clear h hcls
  go_enter Tryd.func4, Tryd.ntmps4
  go_wp2_with fail
  refine d1.mono ?_
  rintro e w1 ⟨⟨x, y, rfl, ⟨hx0, hx1⟩, hy0, hy1⟩, hb1⟩
  clear d1
  have HI := Lib.hid fun a n W => impl_age a n W
  have HS := Lib.hid fun a n W => spec_age a n W
  have hn0 : ageN x x = 0 := by unfold ageN; split <;> omega
  have hr0 : 0 ≤ ageN x y ∧ ageN x y ≤ 999999 := by unfold ageN; split <;> omega
  have hy : (0 ≤ x ∧ x ≤ y ∧ y ≤ 999999) → ageN x y = y - x := fun h => by unfold ageN; rw [if_pos h]
  have hn : ¬ (0 ≤ x ∧ x ≤ y ∧ y ≤ 999999) → ageN x y = 0 := fun h => by unfold ageN; rw [if_neg h]
  have hs : (0 ≤ x ∧ x ≤ y ∧ y ≤ 999998) → ageN x (y + 1) = y - x + 1 := fun h => by unfold ageN; rw [if_pos (by omega)]; omega
  have HI1 := Lib.hid (HI.out x y); have HS1 := Lib.hid (HS.out x y)
  have hI2 := HI.out x x
  rw [hn0] at hI2
  have hI3 := HI.out x (y + 1)
  generalize ageN x y = n at *
  generalize ageN x (y + 1) = n2 at *
  have HI2 := Lib.hid hI2; have HI3 := Lib.hid hI3
  obtain ⟨r0, r1⟩ := hr0
  have HX2 := HX
  have hbb := hb1
  clear HI HS hn0 hI2 hI3 hb1
  have eX : (n != n) = false := by simp
  have HY := Lib.hid hy; have HN := Lib.hid hn; have HS := Lib.hid hs
  clear hy hn hs
  go_wp2_with fail
  refine (HI1.out _).mono ?_
  rintro e w9 ⟨rfl, rfl⟩
  go_wp2_with fail
  refine (HS1.out _).mono ?_
  rintro e w9 ⟨rfl, rfl⟩
  go_wp2_with fail
  refine (HI2.out _).mono ?_
  rintro e w9 ⟨rfl, rfl⟩
  clear HI1 HS1 HI2
  by_cases c708 : x < 0
  · obtain rfl := HN.out (by omega)
    clear HI3 HY HS HN
    go_wp2_with fail
    refine (gd_ok _ (HX2.out _ hbb)).mono ?_
    rintro e w9 ⟨rfl, rfl⟩
    have HB := Lib.hid hbb
    clear hbb
    go_wp2
    go_ret
    exact ⟨rfl, HB.out⟩
  by_cases c632 : 999999 < x
  · obtain rfl := HN.out (by omega)
    clear HI3 HY HS HN
    go_wp2_with fail
    refine (gd_ok _ (HX2.out _ hbb)).mono ?_
    rintro e w9 ⟨rfl, rfl⟩
    have HB := Lib.hid hbb
    clear hbb
    go_wp2
    go_ret
    exact ⟨rfl, HB.out⟩
  by_cases c644 : y < x
  · obtain rfl := HN.out (by omega)
    clear HI3 HY HS HN
    go_wp2_with fail
    refine (gd_ok _ (HX2.out _ hbb)).mono ?_
    rintro e w9 ⟨rfl, rfl⟩
    have HB := Lib.hid hbb
    clear hbb
    go_wp2
    go_ret
    exact ⟨rfl, HB.out⟩
  by_cases c259 : 999999 < y
  · obtain rfl := HN.out (by omega)
    clear HI3 HY HS HN
    go_wp2_with fail
    refine (gd_ok _ (HX2.out _ hbb)).mono ?_
    rintro e w9 ⟨rfl, rfl⟩
    have HB := Lib.hid hbb
    clear hbb
    go_wp2
    go_ret
    exact ⟨rfl, HB.out⟩
  obtain rfl := HY.out (by omega)
  have e2 : ((y - x) == (y - x)) = true := by simp
  by_cases c9 : y = 999999
  · subst c9
    clear HI3 HY HS HN
    have HB := Lib.hid hbb
    clear hbb
    go_wp2
    go_ret
    exact ⟨rfl, HB.out⟩
  · have c9b : (y == 999999) = false := beq_eq_false_iff_ne.2 c9
    obtain rfl := HS.out (by omega)
    have e3 : ((y - x + 1) == (y - x + 1)) = true := by simp
    clear HY HS HN
    go_wp2_with fail
    refine (HI3.out _).mono ?_
    rintro e w9 ⟨rfl, rfl⟩
    clear HI3
    have HB := Lib.hid hbb
    clear hbb
    go_wp2
    go_ret
    exact ⟨rfl, HB.out⟩
namespace Lw
theorem fnFrsAge (w : World) (hL : laidMetH Tryd.prog Rows.fnFrsAgeRow.laid w) (a : Option Addr) (len cap : Nat) (zs : List Int) (h : IsRow .u8 w a len cap zs) :
    Calls Tryd.prog 4 #[.slice a len cap] w fun e w' => e = .returned (.bool true) ∧ Below w.heap.size w w' := by
  have hL' : laidMet Tryd.prog Rows.fnFrsAgeRow.laid w := hL
  exact law_frsaged a len cap zs w h (cls_of_head hL')
end Lw
end Go.Proofs.YtjhgibmeokghmaaDoor
