/- Places: the machine that writes a place in its plainest form: a byte of the path. -/
import Derived.Test.YthmljebpjohibaaDoorCan3
namespace Go.Proofs.YthmljebpjohibaaDoor
open Go.RowKit

theorem freeB_47 : freeB 47 = false := by decide
theorem freeB_63 : freeB 63 = false := by decide
theorem freeB_37 : freeB 37 = false := by decide

set_option maxRecDepth 100000 in
set_option maxHeartbeats 3200000 in
theorem s_path47 (b : Nat) (R : Option (List UInt8)) (ys l : List UInt8) (seg high : Nat) (w : World) (h : CAt w b ys seg .nilFunc high) (hcls : Cls w) (__hg : 0 < b) (hn : ys.length ≤ 900) (hR : CBase false R ys seg (47 :: l)) :
    Calls Tryd.prog 69 #[.pointer (some ⟨b, 0, none⟩), .int .u8 47] w (CNext b R ys.length l w) := by
  obtain ⟨hp, hR⟩ := hR
  rw [resP_slash hp] at hR
  have hle := hp.le
  have c3 := fun n => impl_free 47 (w.drewN n) (hcls.drewN n)
  simp only [UInt8.reduceToNat, Int.cast_ofNat_Int] at c3
  rw [freeB_47] at c3
  have hemp : (ys.drop seg).isEmpty = decide (ys.length ≤ seg) := by
    rw [Bool.eq_iff_iff]; simp
  have h2 := h
  obtain ⟨v, hh, hown⟩ := h2
  obtain ⟨g, cap, rfl⟩ := own_form hown hp.ne
  obtain ⟨hm1, hm2⟩ := own_max hown
  have k0 : w.cell? ⟨b, 0, none⟩ = some (.slice (some ⟨g, 0, none⟩) ys.length cap) := by simp [World.cell?, hh]
  have k1 : w.cell? ⟨b, 1, none⟩ = some (.int .i64 (seg : Int)) := by simp [World.cell?, hh]
  have hne := hp.ne
  clear hcls
  by_cases hlt : seg < ys.length
  · have hd := fun n => c_dotted b ys seg high .nilFunc (w.drewN n) h (by omega) hne hle
    rw [hemp, show decide (ys.length ≤ seg) = false from by simp; omega] at hR
    simp only [Bool.not_false, Bool.and_true] at hR
    have hslash := POk.slash hne
    generalize dotL (ys.drop seg) = d at *
    cases d with
    | false =>
      have hfin : Hid (CInv R .path (ys ++ [47]) (ys.length + 1) high l) := Lib.hid ⟨hslash, by simpa using hR⟩
      have c1 := fun n => c_slash b ys seg high .nilFunc (w.drewN n) h (by omega)
      unfold pathV at c1
      clear hR hp hh hown h hslash
      go_enter Tryd.func69, Tryd.ntmps69
      go_wp2_with fail
      go_region_with (go_at_call 52; refine (hd 1).mono ?_; rintro e w1 ⟨rfl, n1, rfl⟩)
      all_goals go_wp2_with fail
      all_goals refine (c1 (1 + n1)).mono ?_
      all_goals rintro e w2 ⟨rfl, h1, h2⟩
      all_goals go_wp2
      all_goals go_ret
      all_goals exact next_of (st := .path) h1 hfin (by simp) (below_drewN_left h2)
    | true =>
      have hnone : R = none := by simpa using hR
      have HN := Lib.hid hnone
      clear hR hp hh hown h hslash hnone
      go_enter Tryd.func69, Tryd.ntmps69
      go_wp2_with fail
      go_region_with (go_at_call 52; refine (hd 1).mono ?_; rintro e w1 ⟨rfl, n1, rfl⟩)
      all_goals go_wp2_with fail
      all_goals refine (c3 (1 + n1)).mono ?_
      all_goals rintro e w2 ⟨rfl, rfl⟩
      all_goals go_wp2
      all_goals go_ret
      all_goals exact .inl ⟨rfl, HN.out, below_drewN (Below.refl _ _)⟩
  · have hnone : R = none := by
      rw [hR, hemp, show decide (ys.length ≤ seg) = true from by simp; omega]; simp
    have HN := Lib.hid hnone
    clear hR hp hh hown h hnone hemp
    go_enter Tryd.func69, Tryd.ntmps69
    go_wp2_with fail
    go_quiet (fail)
    all_goals go_wp2_with fail
    all_goals refine (c3 _).mono ?_
    all_goals rintro e w2 ⟨rfl, rfl⟩
    all_goals go_wp2
    all_goals go_ret
    all_goals exact .inl ⟨rfl, HN.out, below_drewN (Below.refl _ _)⟩

end Go.Proofs.YthmljebpjohibaaDoor
