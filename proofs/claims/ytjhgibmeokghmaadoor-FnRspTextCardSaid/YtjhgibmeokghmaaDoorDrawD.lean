/- Walks: the draws of chapter 1. -/
import Derived.Test.YtjhgibmeokghmaaDoorDraw3
import Derived.Test.YtjhgibmeokghmaaDoorNum
namespace Go.Proofs.YtjhgibmeokghmaaDoor
open Go.RowKit

set_option maxHeartbeats 400000 in
theorem odd_any (g : Nat) (q : Int) (B m : Nat) (w : World) (hm : m ≤ 1000000) (hq : q ≤ 1000000) (hq0 : 0 ≤ q) (h : RdAt w B g m) :
    Calls Tryd.prog 64 #[.pointer (some ⟨g, 0, none⟩), .int .i64 q] w fun e w' => ∃ b : Bool, e = .returned (.bool b) ∧ Drawn w w' B g (m + 1) := by
  go_enter Tryd.func64, Tryd.ntmps64
  go_wp2_with fail
  refine (pick_any g q B m _ hm hq h).mono ?_
  rintro e w1 ⟨r, rfl, hr, hd⟩
  go_wp2
  go_ret
  exact ⟨_, rfl, hd⟩

set_option maxRecDepth 100000 in
set_option maxHeartbeats 800000 in
theorem num_any (g : Nat) (q : Int) (B m : Nat) (w : World) (hm : m ≤ 900000) (hq : q ≤ 1000000) (hq0 : 0 ≤ q) (h : RdAt w B g m) :
    Calls Tryd.prog 42 #[.pointer (some ⟨g, 0, none⟩), .int .i64 q] w fun e w' => ∃ x : Int, e = .returned (.int .i64 x) ∧ -9223372036854775808 ≤ x ∧ x ≤ 9223372036854775807 ∧ Drawn w w' B g (m + 5) := by
  go_enter Tryd.func42, Tryd.ntmps42
  go_wp2_with fail
  refine (odd_any g q B m _ (by omega) hq hq0 h).mono ?_
  rintro e w1 ⟨b, rfl, hd1⟩
  have hg1 := hd1.1.lt
  cases b
  · go_wp2_with fail
    refine (pick_lit g 100 100 rfl (by decide) B (m + 1) _ (by omega) (by decide) hd1.1).mono ?_
    rintro e w2 ⟨r2, rfl, hr2, hr2', hd2⟩
    go_wp2_with fail
    refine (pick_lit g 256 256 rfl (by decide) B (m + 1 + 1) _ (by omega) (by decide) hd2.1).mono ?_
    rintro e w3 ⟨r3, rfl, hr3, hr3', hd3⟩
    go_wp2_with fail
    refine (pick_lit g 256 256 rfl (by decide) B (m + 1 + 1 + 1) _ (by omega) (by decide) hd3.1).mono ?_
    rintro e w4 ⟨r4, rfl, hr4, hr4', hd4⟩
    have hp0 : 0 ≤ (r3 : Int) * (r4 : Int) := Int.mul_nonneg (by omega) (by omega)
    have hp1 : (r3 : Int) * (r4 : Int) ≤ 65025 := by
      have : r3 * r4 ≤ 255 * 255 := Nat.mul_le_mul (by omega) (by omega)
      have e : ((r3 * r4 : Nat) : Int) = (r3 : Int) * (r4 : Int) := by simp
      omega
    go_wp2_with fail
    refine (pick_lit g 8 8 rfl (by decide) B (m + 1 + 1 + 1 + 1) _ (by omega) (by decide) (hd4.1.alloc _)).mono ?_
    rintro e w5 ⟨r5, rfl, hr5, hr5', hd5⟩
    obtain ⟨x, hx, hx0, hx1⟩ := lit_int (lo := -9223372036854775808) (hi := 9223372036854775807) hd5 hd4.1.lt (by repeat (first | exact trivial | refine ⟨⟨_, rfl, by omega, by omega⟩, ?_⟩)) r5 (by simp; omega)
    have hdf := (((hd1.trans hd2).trans hd3).trans hd4).trans hd5.of_alloc
    clear hd1 hd2 hd3 hd4 hd5 hr2 hr3 hr4 hr5 h
    go_wp2
    go_ret
    exact ⟨x, rfl, hx0, hx1, hdf⟩
  · go_wp2_with fail
    refine (pick_lit g 4 4 rfl (by decide) B (m + 1) _ (by omega) (by decide) (hd1.1.alloc _)).mono ?_
    rintro e w2 ⟨r2, rfl, hr2, hr2', hd2⟩
    obtain ⟨x, hx, hx0, hx1⟩ := lit_int (lo := -9223372036854775808) (hi := 9223372036854775807) hd2 hg1 (by repeat (first | exact trivial | refine ⟨⟨_, rfl, by omega, by omega⟩, ?_⟩)) r2 (by simp; omega)
    have hdf := (hd1.trans hd2.of_alloc).mono (show m + 1 + 1 ≤ m + 5 by omega)
    clear hd1 hd2 hr2 h
    go_wp2
    go_ret
    exact ⟨x, rfl, hx0, hx1, hdf⟩

theorem numT_len (n : Int) : (numT n).length ≤ 6 := by
  unfold numT
  split
  · exact dec_len_le 5 _ (by omega)
  · simp

end Go.Proofs.YtjhgibmeokghmaaDoor
