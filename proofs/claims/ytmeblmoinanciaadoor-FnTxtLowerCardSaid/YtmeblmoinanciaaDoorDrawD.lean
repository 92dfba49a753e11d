/- Walks: the draws of chapter 1. -/
import Derived.Test.YtmeblmoinanciaaDoorDraw3
import Derived.Test.YtmeblmoinanciaaDoorNum
namespace Go.Proofs.YtmeblmoinanciaaDoor
open Go.RowKit

set_option maxHeartbeats 400000 in
theorem odd_any (g : Nat) (q : Int) (B m : Nat) (w : World) (hm : m ≤ 1000000) (hq : q ≤ 1000000) (hq0 : 0 ≤ q) (h : RdAt w B g m) :
    Calls Tryd.prog 46 #[.pointer (some ⟨g, 0, none⟩), .int .i64 q] w fun e w' => ∃ b : Bool, e = .returned (.bool b) ∧ Drawn w w' B g (m + 1) := by
  go_enter Tryd.func46, Tryd.ntmps46
  go_wp2_with fail
  refine (pick_any g q B m _ hm hq h).mono ?_
  rintro e w1 ⟨r, rfl, hr, hd⟩
  go_wp2
  go_ret
  exact ⟨_, rfl, hd⟩

set_option maxRecDepth 100000 in
set_option maxHeartbeats 800000 in
theorem num_any (g : Nat) (q : Int) (B m : Nat) (w : World) (hm : m ≤ 900000) (hq : q ≤ 1000000) (hq0 : 0 ≤ q) (h : RdAt w B g m) :
    Calls Tryd.prog 35 #[.pointer (some ⟨g, 0, none⟩), .int .i64 q] w fun e w' => ∃ x : Int, e = .returned (.int .i64 x) ∧ -9223372036854775808 ≤ x ∧ x ≤ 9223372036854775807 ∧ Drawn w w' B g (m + 5) := by
  go_enter Tryd.func35, Tryd.ntmps35
  go_wp2_with fail
  refine (odd_any g q B m _ (by omega) hq hq0 h).mono ?_
  rintro e w1 ⟨b, rfl, hd1⟩
  have hg1 := hd1.1.lt
  cases b
  · go_wp2_with fail
    refine (pick_lit g 100 100 rfl (by decide) B (m + 1) _ (by omega) (by decide) hd1.1).mono ?_
    rintro e w2 ⟨r2, rfl, hr2, hr2', hd2⟩
    go_wp2_with fail
    refine (pick_lit g 256 256 rfl (by decide) B (m + 1 + 1) _ (by omega) (by decide) hd2.1).mono ?_
    rintro e w3 ⟨r3, rfl, hr3, hr3', hd3⟩
    go_wp2_with fail
    refine (pick_lit g 256 256 rfl (by decide) B (m + 1 + 1 + 1) _ (by omega) (by decide) hd3.1).mono ?_
    rintro e w4 ⟨r4, rfl, hr4, hr4', hd4⟩
    have hp0 : 0 ≤ (r3 : Int) * (r4 : Int) := Int.mul_nonneg (by omega) (by omega)
    have hp1 : (r3 : Int) * (r4 : Int) ≤ 65025 := by
      have : r3 * r4 ≤ 255 * 255 := Nat.mul_le_mul (by omega) (by omega)
      have e : ((r3 * r4 : Nat) : Int) = (r3 : Int) * (r4 : Int) := by simp
      omega
    go_wp2_with fail
    refine (pick_lit g 8 8 rfl (by decide) B (m + 1 + 1 + 1 + 1) _ (by omega) (by decide) (hd4.1.alloc _)).mono ?_
    rintro e w5 ⟨r5, rfl, hr5, hr5', hd5⟩
    obtain ⟨x, hx, hx0, hx1⟩ := lit_int (lo := -9223372036854775808) (hi := 9223372036854775807) hd5 hd4.1.lt (by repeat (first | exact trivial | refine ⟨⟨_, rfl, by omega, by omega⟩, ?_⟩)) r5 (by simp; omega)
    have hdf := (((hd1.trans hd2).trans hd3).trans hd4).trans hd5.of_alloc
    clear hd1 hd2 hd3 hd4 hd5 hr2 hr3 hr4 hr5 h
    go_wp2
    go_ret
    exact ⟨x, rfl, hx0, hx1, hdf⟩
  · go_wp2_with fail
    refine (pick_lit g 4 4 rfl (by decide) B (m + 1) _ (by omega) (by decide) (hd1.1.alloc _)).mono ?_
    rintro e w2 ⟨r2, rfl, hr2, hr2', hd2⟩
    obtain ⟨x, hx, hx0, hx1⟩ := lit_int (lo := -9223372036854775808) (hi := 9223372036854775807) hd2 hg1 (by repeat (first | exact trivial | refine ⟨⟨_, rfl, by omega, by omega⟩, ?_⟩)) r2 (by simp; omega)
    have hdf := (hd1.trans hd2.of_alloc).mono (show m + 1 + 1 ≤ m + 5 by omega)
    clear hd1 hd2 hr2 h
    go_wp2
    go_ret
    exact ⟨x, rfl, hx0, hx1, hdf⟩

set_option maxHeartbeats 400000 in
theorem draw_tok (a : Option Addr) (len cap : Nat) (zs : List Int) (w : World) (h : IsRow .u8 w a len cap zs) :
    Calls Tryd.prog 12 #[.slice a len cap] w fun e w' => ∃ s : ByteArray, e = .returned (.string s) ∧ s.size ≤ 60 ∧ Below w.heap.size w w' := by
  go_enter Tryd.func12, Tryd.ntmps12
  go_wp2_with fail
  refine (open_any a len cap zs w h).mono ?_
  rintro e w0 ⟨g, rfl, hr0, hb0⟩
  clear h
  go_wp2_with fail
  refine (text_any g w.heap.size 0 _ (by decide) hr0).mono ?_
  rintro e w1 ⟨s1, rfl, hs1, hd1⟩
  go_wp2
  go_ret
  exact ⟨s1, rfl, by omega, hb0.trans (hd1.below hr0.lt)⟩

set_option maxHeartbeats 400000 in
theorem draw_lower (a : Option Addr) (len cap : Nat) (zs : List Int) (w : World) (h : IsRow .u8 w a len cap zs) :
    Calls Tryd.prog 26 #[.slice a len cap] w fun e w' => ∃ s : ByteArray, e = .returned (.string s) ∧ s.size ≤ 60 ∧ Below w.heap.size w w' := by
  go_enter Tryd.func26, Tryd.ntmps26
  go_wp2_with fail
  refine (open_any a len cap zs w h).mono ?_
  rintro e w0 ⟨g, rfl, hr0, hb0⟩
  clear h
  go_wp2_with fail
  refine (text_any g w.heap.size 0 _ (by decide) hr0).mono ?_
  rintro e w1 ⟨s1, rfl, hs1, hd1⟩
  go_wp2
  go_ret
  exact ⟨s1, rfl, by omega, hb0.trans (hd1.below hr0.lt)⟩

set_option maxHeartbeats 400000 in
theorem draw_numtext (a : Option Addr) (len cap : Nat) (zs : List Int) (w : World) (h : IsRow .u8 w a len cap zs) :
    Calls Tryd.prog 18 #[.slice a len cap] w fun e w' => ∃ x : Int, e = .returned (.int .i64 x) ∧ -9223372036854775808 ≤ x ∧ x ≤ 9223372036854775807 ∧ Below w.heap.size w w' := by
  go_enter Tryd.func18, Tryd.ntmps18
  go_wp2_with fail
  refine (open_any a len cap zs w h).mono ?_
  rintro e w0 ⟨g, rfl, hr0, hb0⟩
  clear h
  go_wp2_with fail
  refine (num_any g 4 w.heap.size 0 _ (by decide) (by decide) (by decide) hr0).mono ?_
  rintro e w1 ⟨x, rfl, hx0, hx1, hd1⟩
  go_wp2
  go_ret
  exact ⟨x, rfl, hx0, hx1, hb0.trans (hd1.below hr0.lt)⟩

theorem numT_len (n : Int) : (numT n).length ≤ 6 := by
  unfold numT
  split
  · exact dec_len_le 5 _ (by omega)
  · simp

set_option maxHeartbeats 400000 in
theorem draw_numread (a : Option Addr) (len cap : Nat) (zs : List Int) (w : World) (h : IsRow .u8 w a len cap zs) :
    Calls Tryd.prog 19 #[.slice a len cap] w fun e w' => ∃ s : ByteArray, e = .returned (.string s) ∧ s.size ≤ 60 ∧ Below w.heap.size w w' := by
  go_enter Tryd.func19, Tryd.ntmps19
  go_wp2_with fail
  refine (open_any a len cap zs w h).mono ?_
  rintro e w0 ⟨g, rfl, hr0, hb0⟩
  clear h
  go_wp2_with fail
  refine (num_any g 999 w.heap.size 0 _ (by decide) (by decide) (by decide) hr0).mono ?_
  rintro e w1 ⟨x, rfl, hx0, hx1, hd1⟩
  have hbel1 := hb0.trans (hd1.below hr0.lt)
  go_wp2_with fail
  refine (spec_numtext x _).mono ?_
  rintro e w2 ⟨rfl, hb2⟩
  have hrd2 : RdAt w2 w.heap.size g 5 := hd1.1.keep (fun b hb => hb2.block b (Nat.lt_of_le_of_lt hb hd1.1.lt))
  have hbel2 := hbel1.trans (hb2.mono hbel1.size)
  have hsz : (ByteArray.mk (numT x).toArray).size ≤ 6 := by have := numT_len x; rw [size_len]; simpa using this
  simp only [strV]
  generalize (ByteArray.mk (numT x).toArray) = s at hsz ⊢
  go_wp2_with fail
  refine (pick_lit g 3 3 rfl (by decide) w.heap.size 5 _ (by decide) (by decide) hrd2).mono ?_
  rintro e w3 ⟨k, rfl, hk, hk', hd3⟩
  have hbel3 := hbel2.trans (hd3.below hrd2.lt)
  have hk5 : k = 0 ∨ k = 1 ∨ k = 2 := by omega
  clear hr0 hb0 hd1 hbel1 hb2 hbel2
  rcases hk5 with rfl | rfl | rfl
  · go_wp2_with fail
    refine (pick_lit g 7 7 rfl (by decide) w.heap.size 6 _ (by decide) (by decide) (hd3.1.alloc _)).mono ?_
    rintro e w4 ⟨r, rfl, hr, hr', hd4⟩
    obtain ⟨s4, hs4, hk4⟩ := lit_str (K := 30) hd4 hd3.1.lt (by decide) r (by simp; omega)
    have hdf := hbel3.trans (hd4.of_alloc.below hd3.1.lt)
    clear hd4 hd3 hbel3 hrd2 hr
    go_wp2
    go_ret
    exact ⟨s4, rfl, by omega, hdf⟩
  · go_wp2_with fail
    refine (bent_any g w.heap.size 6 s _ (by decide) (by omega) hd3.1).mono ?_
    rintro e w4 ⟨s4, rfl, hs4, hd4⟩
    have hdf := hbel3.trans (hd4.below hd3.1.lt)
    go_wp2
    go_ret
    exact ⟨s4, rfl, by omega, hdf⟩
  · go_wp2
    go_ret
    exact ⟨s, rfl, by omega, hbel3⟩
end Go.Proofs.YtmeblmoinanciaaDoor
