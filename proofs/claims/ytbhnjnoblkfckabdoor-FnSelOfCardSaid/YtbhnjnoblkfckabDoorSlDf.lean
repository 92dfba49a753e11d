/- The law on what a seal's number is, over drawn inputs. -/
import Derived.Test.YtbhnjnoblkfckabDoorSlDo
import Derived.Test.YtbhnjnoblkfckabDoorSlL
import Derived.Test.YtbhnjnoblkfckabDoorGdOk
import Derived.BigQuiet
namespace Go.Proofs.YtbhnjnoblkfckabDoor
open Go.RowKit

set_option maxRecDepth 100000 in
set_option maxHeartbeats 6400000 in
theorem draw_selof (a : Option Addr) (len cap : Nat) (zs : List Int) (w : World) (h : IsRow .u8 w a len cap zs) :
    Calls Tryd.prog 5 #[.slice a len cap] w fun e w' => ∃ (key : Int) (p : ByteArray) (u : Bool) (t n : Int), e = .returned (.tuple #[.int .i64 key, .string p, .bool u, .int .i64 t, .int .i64 n]) ∧ p.size ≤ 120 ∧ SmS t ∧ SmS n ∧ 0 ≤ key ∧ key ≤ 10000 ∧ Below w.heap.size w w' := by
  go_enter Tryd.func5, Tryd.ntmps5
  go_wp2_with fail
  refine (open_any a len cap zs w h).mono ?_
  rintro e w0 ⟨g, rfl, hr0, hb0⟩
  clear h
  have hg0 := hr0.lt
  go_wp2_with fail
  refine (pick_lit g 300 300 rfl (by decide) w.heap.size 0 w0 (by omega) (by decide) hr0).mono ?_
  rintro e w1 ⟨k1, rfl, hk1, -, hd1⟩
  have hg1 := hd1.1.lt
  go_wp2_with fail
  refine (pick_lit g 6 6 rfl (by decide) w.heap.size (0 + 1) _ (by omega) (by decide) (hd1.1.alloc _)).mono ?_
  rintro e w2 ⟨r2, rfl, hr2, hr2', hd2⟩
  obtain ⟨x, hx, hx0, hx1⟩ := lit_int (lo := 0) (hi := 10000) hd2 hg1 (by repeat (first | exact trivial | refine ⟨⟨_, rfl, by omega, by omega⟩, ?_⟩)) r2 (by simp; omega)
  have hd02 := hd1.trans hd2.of_alloc
  clear hd1 hd2 hr0
  go_wp2_with fail
  refine (pick_lit g 5 5 rfl (by decide) w.heap.size (0 + 1 + 1) w2 (by omega) (by decide) hd02.1).mono ?_
  rintro e w3 ⟨k3, rfl, hk3, -, hd3⟩
  have hd03 := hd02.trans hd3
  clear hd02 hd3 hx
  go_wp2_with fail
  refine (pick_lit g 5 5 rfl (by decide) w.heap.size (0 + 1 + 1 + 1) w3 (by omega) (by decide) hd03.1).mono ?_
  rintro e w4 ⟨k4, rfl, hk4, -, hd4⟩
  have hd04 := hd03.trans hd4
  clear hd03 hd4
  go_wp2_with fail
  refine (sealor_any g w.heap.size (0 + 1 + 1 + 1 + 1) 5 (k3 : Int) (k4 : Int) 4 w4 (by omega) (by omega) (by omega) (by decide) (by decide) hd04.1).mono ?_
  rintro e w5 ⟨s, rfl, hsz, hd5⟩
  obtain ⟨sp, su, st, sn, sc⟩ := s
  have hd05 := hd04.trans hd5
  obtain ⟨z0, z1, z2, z3⟩ := hsz
  dsimp only at z0 z1 z2 z3
  unfold slV
  dsimp only
  obtain ⟨w6, hw6⟩ : ∃ W, W = w5.alloc (.cells #[.string sp, .bool su, .int .i64 st, .int .i64 sn, .int .i64 sc] 29) := ⟨_, rfl⟩
  have hd06 : Drawn w0 w6 w.heap.size g (0 + 1 + 1 + 1 + 1 + 40) := by rw [hw6]; exact hd05.alloc _
  have hbx : w6.heap[w5.heap.size]? = some (.cells #[.string sp, .bool su, .int .i64 st, .int .i64 sn, .int .i64 sc] 29 (0, 0)) := by rw [hw6]; exact heap_alloc_new w5 _
  obtain ⟨q0, q1, q2, q3, q4⟩ := sl_facts hbx
  rw [hw6] at q0 q1 q2 q3 q4
  have HB : Hid (Below w.heap.size w (w5.alloc (.cells #[.string sp, .bool su, .int .i64 st, .int .i64 sn, .int .i64 sc] 29))) := Lib.hid (by rw [← hw6]; exact hb0.trans (hd06.below hg0))
  clear hd04 hd5 hd05 hd06 hbx hw6 hb0
  go_wp2_with fail
  go_quiet (fail)
  go_wp2
  refine bodyPost_ret (v := .tuple #[.int .i64 x, .string sp, .bool su, .int .i64 st, .int .i64 sn]) (by simp [results, Tryd.results5, go_sem]) rfl ?_
  exact ⟨x, sp, su, st, sn, rfl, z0, z1, z2, hx0, hx1, ⟨HB.out.os, HB.out.tape, HB.out.output, HB.out.size, HB.out.block⟩⟩

set_option maxRecDepth 100000 in
set_option maxHeartbeats 12800000 in
theorem law_selofd (a : Option Addr) (len cap : Nat) (zs : List Int) (w : World) (h : IsRow .u8 w a len cap zs) (hcls : Cls w) :
    Calls Tryd.prog 3 #[.slice a len cap] w fun e w' => e = .returned (.bool true) ∧ Below w.heap.size w w' := by
  have hl := isrow_len h
  by_cases hbig : 1048576 < len
  · clear hcls h
    go_enter Tryd.func3, Tryd.ntmps3
    go_wp2_with fail
    go_ret
    exact ⟨rfl, Below.refl _ _⟩
  have d1 := draw_selof a len cap zs w h
  have HC : Hid (∀ W, Below w.heap.size w W → Cls W) := Lib.hid (fun W hW => hcls.below hW (Nat.le_refl _))
  clear hcls h
  go_enter Tryd.func3, Tryd.ntmps3
  go_wp2_with fail
  refine d1.mono ?_
  rintro e w1 ⟨key, p, u, t, n, rfl, hp, ht, hn, hk0, hk1, hb1⟩
  clear d1
  unfold SmS at ht hn
  obtain ⟨ht0, ht1⟩ := ht
  obtain ⟨hn0, hn1⟩ := hn
  have hI : ∀ u' t' n' W, Calls Tryd.prog 6 #[.int .i64 key, .string p, .bool u', .int .i64 t', .int .i64 n'] W fun e w' => e = .returned (.int .i64 (selS key p u' t' n')) ∧ Below W.heap.size W w' := fun u' t' n' W => impl_selof key p u' t' n' W (by unfold maxLen; omega)
  have hS := fun W => spec_selof key p u t n W (by unfold maxLen; omega)
  have hr := selS_lt key p u t n
  have hq : 1 ≤ key → key ≤ 9999 → 1 ≤ t → t ≤ 999999 → 1 ≤ n → n ≤ 999999 → p.size ≤ 40 → selS key p (!u) t n ≠ selS key p u t n ∧ selS key p u (t - 1) n ≠ selS key p u t n ∧ selS key p u t (n - 1) ≠ selS key p u t n := by
    intro a1 a2 a3 a4 a5 a6 a7
    have hb : sealB key p t n = true := by
      unfold sealB
      simp only [Bool.and_eq_true, decide_eq_true_eq]
      exact ⟨⟨⟨⟨a1, a2⟩, a7⟩, ⟨by omega, a4⟩⟩, ⟨by omega, a6⟩⟩
    exact ⟨sel_under key p u t n hb, sel_til key p u t n hb a3, sel_nonce key p u t n hb a5⟩
  have i1 := hI u t n
  have i2 := hI (!u) t n
  have i3 := hI u (t - 1) n
  have i4 := hI u t (n - 1)
  clear hI
  generalize selS key p u t n = C at *
  generalize selS key p (!u) t n = C1 at *
  generalize selS key p u (t - 1) n = C2 at *
  generalize selS key p u t (n - 1) = C3 at *
  obtain ⟨hc0, hc1⟩ := hr
  have n1 : ¬ C < 0 := by omega
  have n2 : ¬ 65521 ≤ C := by omega
  have s0 := i1 w1
  go_wp2_with fail
  refine s0.mono ?_
  rintro e w2 ⟨rfl, hb⟩
  have hb2 := hb1.trans (hb.mono hb1.size)
  clear s0 i1 hb1 hb
  have s0 := hS w2
  go_wp2_with fail
  refine s0.mono ?_
  rintro e w3 ⟨rfl, rfl⟩
  clear s0 hS
  have tail : Calls Tryd.prog 8 #[] w2 fun e w' => e = .returned (.bool true) ∧ w2 = w' := gd_ok w2 (HC.out w2 hb2)
  by_cases k0 : key < 1
  · clear hq i2 i3 i4
    go_wp2_with fail
    refine tail.mono ?_
    rintro e w5 ⟨rfl, rfl⟩
    go_wp2_with fail
    go_ret
    exact ⟨rfl, hb2⟩
  by_cases k1 : 9999 < key
  · clear hq i2 i3 i4
    go_wp2_with fail
    refine tail.mono ?_
    rintro e w5 ⟨rfl, rfl⟩
    go_wp2_with fail
    go_ret
    exact ⟨rfl, hb2⟩
  by_cases k2 : t < 1
  · clear hq i2 i3 i4
    go_wp2_with fail
    refine tail.mono ?_
    rintro e w5 ⟨rfl, rfl⟩
    go_wp2_with fail
    go_ret
    exact ⟨rfl, hb2⟩
  by_cases k3 : 999999 < t
  · clear hq i2 i3 i4
    go_wp2_with fail
    refine tail.mono ?_
    rintro e w5 ⟨rfl, rfl⟩
    go_wp2_with fail
    go_ret
    exact ⟨rfl, hb2⟩
  by_cases k4 : n < 1
  · clear hq i2 i3 i4
    go_wp2_with fail
    refine tail.mono ?_
    rintro e w5 ⟨rfl, rfl⟩
    go_wp2_with fail
    go_ret
    exact ⟨rfl, hb2⟩
  by_cases k5 : 999999 < n
  · clear hq i2 i3 i4
    go_wp2_with fail
    refine tail.mono ?_
    rintro e w5 ⟨rfl, rfl⟩
    go_wp2_with fail
    go_ret
    exact ⟨rfl, hb2⟩
  by_cases k6 : 40 < p.size
  · clear hq i2 i3 i4
    go_wp2_with fail
    refine tail.mono ?_
    rintro e w5 ⟨rfl, rfl⟩
    go_wp2_with fail
    go_ret
    exact ⟨rfl, hb2⟩
  obtain ⟨q1, q2, q3⟩ := hq (by omega) (by omega) (by omega) (by omega) (by omega) (by omega) (by omega)
  have e1 : (C1 != C) = true := by simpa using q1
  have e2 : (C2 != C) = true := by simpa using q2
  have e3 : (C3 != C) = true := by simpa using q3
  clear hq tail
  have s0 := i2 w2
  go_wp2_with fail
  refine s0.mono ?_
  rintro e w4 ⟨rfl, hb⟩
  have hb4 := hb2.trans (hb.mono hb2.size)
  clear s0 i2 hb hb2
  have s0 := i3 w4
  go_wp2_with fail
  refine s0.mono ?_
  rintro e w5 ⟨rfl, hb⟩
  have hb5 := hb4.trans (hb.mono hb4.size)
  clear s0 i3 hb hb4
  have s0 := i4 w5
  go_wp2_with fail
  refine s0.mono ?_
  rintro e w6 ⟨rfl, hb⟩
  have hb6 := hb5.trans (hb.mono hb5.size)
  clear s0 i4 hb hb5
  go_wp2_with fail
  go_ret
  exact ⟨rfl, hb6⟩

namespace Lw
theorem fnSelOf (w : World) (hL : laidMetH Tryd.prog Rows.fnSelOfRow.laid w) (a : Option Addr) (len cap : Nat) (zs : List Int) (h : IsRow .u8 w a len cap zs) :
    Calls Tryd.prog 3 #[.slice a len cap] w fun e w' => e = .returned (.bool true) ∧ Below w.heap.size w w' :=
  law_selofd a len cap zs w h (cls_of_head hL)
end Lw
end Go.Proofs.YtbhnjnoblkfckabDoor
