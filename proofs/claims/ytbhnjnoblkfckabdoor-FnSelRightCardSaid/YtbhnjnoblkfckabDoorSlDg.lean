/- The law on whether a seal is right, over drawn inputs. -/
import Derived.Test.YtbhnjnoblkfckabDoorSlDo
import Derived.Test.YtbhnjnoblkfckabDoorSlM
import Derived.Test.YtbhnjnoblkfckabDoorSlN
import Derived.Test.YtbhnjnoblkfckabDoorGdOk
import Derived.Test.YtbhnjnoblkfckabDoorReg
namespace Go.Proofs.YtbhnjnoblkfckabDoor
open Go.RowKit

set_option maxRecDepth 100000 in
set_option maxHeartbeats 6400000 in
theorem draw_selright (a : Option Addr) (len cap : Nat) (zs : List Int) (w : World) (h : IsRow .u8 w a len cap zs) :
    Calls Tryd.prog 9 #[.slice a len cap] w fun e w' => ∃ (key now last : Int) (s : Sl), e = .returned (.tuple #[.int .i64 key, slV s, .int .i64 now, .int .i64 last]) ∧ SlSz s ∧ Below w.heap.size w w' := by
  obtain ⟨wR, hwR⟩ : ∃ x, x = w.alloc (.cells #[.string ⟨#[]⟩, .bool false, .int .i64 0, .int .i64 0, .int .i64 0] 29) := ⟨_, rfl⟩
  have hzR : wR.heap.size = w.heap.size + 1 := by rw [hwR]; simp
  have hbR : Below w.heap.size w wR := by rw [hwR]; exact (Below.refl _ _).alloc (Nat.le_refl _) _
  have gR : wR.heap[w.heap.size]? = some (.cells #[.string ⟨#[]⟩, .bool false, .int .i64 0, .int .i64 0, .int .i64 0] 29 (0, 0)) := by rw [hwR]; exact heap_alloc_new w _
  have hrow := isrow_below h hbR
  have HWR := Lib.hid hwR
  clear hwR h
  go_enter Tryd.func9, Tryd.ntmps9
  go_wp2_with fail
  rw [← HWR.out]
  refine (open_any a len cap zs wR hrow).mono ?_
  rintro e w0 ⟨g, rfl, hr0, hb0⟩
  clear hrow HWR
  have hg0 := hr0.lt
  go_wp2_with fail
  refine (pick_lit g 4 4 rfl (by decide) wR.heap.size 0 _ (by omega) (by decide) (hr0.alloc _)).mono ?_
  rintro e w1 ⟨r1, rfl, hr1, hr1', hd1⟩
  obtain ⟨key, hx, hx0, hx1⟩ := lit_int (lo := 0) (hi := 9999) hd1 hg0 (by repeat (first | exact trivial | refine ⟨⟨_, rfl, by omega, by omega⟩, ?_⟩)) r1 (by simp; omega)
  have hd01 := hd1.of_alloc
  clear hd1 hr0
  go_wp2_with fail
  refine (pick_lit g 9 9 rfl (by decide) wR.heap.size (0 + 1) w1 (by omega) (by decide) hd01.1).mono ?_
  rintro e w2 ⟨k2, rfl, hk2, -, hd2⟩
  have hd02 := hd01.trans hd2
  clear hd01 hd2 hx
  go_wp2_with fail
  refine (pick_lit g 9 9 rfl (by decide) wR.heap.size (0 + 1 + 1) w2 (by omega) (by decide) hd02.1).mono ?_
  rintro e w3 ⟨k3, rfl, hk3, -, hd3⟩
  have hd03 := hd02.trans hd3
  clear hd02 hd3
  go_wp2_with fail
  refine (sealor_any g wR.heap.size (0 + 1 + 1 + 1) key (k2 : Int) (k3 : Int) 2 w3 (by omega) (by omega) (by omega) (by decide) (by decide) hd03.1).mono ?_
  rintro e w5 ⟨s, rfl, hsz, hd5⟩
  obtain ⟨sp, su, st, sn, sc⟩ := s
  have hbB := hb0.trans ((hd03.trans hd5).below hg0)
  have g5 := (hbB.block w.heap.size (by omega)).trans gR
  have hb5 := hbR.trans (hbB.mono (by omega))
  unfold slV
  dsimp only
  obtain ⟨r0, r1', r2, r3, r4⟩ := sl_frozen g5
  obtain ⟨t0, t1, t2, t3, t4⟩ := sl_facts g5
  have HZ := Lib.hid (sl_facts (sl_set g5 (.string sp) (.bool su) (.int .i64 st) (.int .i64 sn) (.int .i64 sc)))
  have HF : Hid (Below w.heap.size w (((((w5.setCell ⟨w.heap.size, 0, none⟩ (.string sp)).setCell ⟨w.heap.size, 1, none⟩ (.bool su)).setCell ⟨w.heap.size, 2, none⟩ (.int .i64 st)).setCell ⟨w.heap.size, 3, none⟩ (.int .i64 sn)).setCell ⟨w.heap.size, 4, none⟩ (.int .i64 sc))) := Lib.hid (((((hb5.setCell (p := ⟨w.heap.size, 0, none⟩) (Nat.le_refl _) _).setCell (p := ⟨w.heap.size, 1, none⟩) (Nat.le_refl _) _).setCell (p := ⟨w.heap.size, 2, none⟩) (Nat.le_refl _) _).setCell (p := ⟨w.heap.size, 3, none⟩) (Nat.le_refl _) _).setCell (p := ⟨w.heap.size, 4, none⟩) (Nat.le_refl _) _)
  clear hbB g5 hb5 gR hbR hb0 hd03 hd5
  go_wp2_with fail
  obtain ⟨z0, z1, z2, z3, z4⟩ := HZ.out
  refine bodyPost_ret (v := .tuple #[.int .i64 key, .agg #[.string sp, .bool su, .int .i64 st, .int .i64 sn, .int .i64 sc], .int .i64 (k2 : Int), .int .i64 (k3 : Int)]) (by simp [results, Tryd.results9, go_sem, z0, z1, z2, z3, z4]) rfl ?_
  exact ⟨key, (k2 : Int), (k3 : Int), ⟨sp, su, st, sn, sc⟩, rfl, hsz, HF.out⟩

theorem right_parts {key : Int} {p : ByteArray} {u : Bool} {t n c now last : Int} (h : rightS key ⟨p, u, t, n, c⟩ now last = true) :
    sealB key p t n = true ∧ c = selS key p u t n ∧ now < t ∧ last < n := by
  unfold rightS at h
  simp only [Bool.and_eq_true, decide_eq_true_eq] at h
  exact ⟨h.1.1.1, h.1.1.2, h.1.2, h.2⟩
theorem right_false {key : Int} {p : ByteArray} {u : Bool} {t n c now last : Int} (h : ¬ (sealB key p t n = true ∧ c = selS key p u t n ∧ now < t ∧ last < n)) :
    rightS key ⟨p, u, t, n, c⟩ now last = false := by
  cases hb : rightS key ⟨p, u, t, n, c⟩ now last with
  | false => rfl
  | true => exact absurd (right_parts hb) h
theorem seal_nonce0 {key : Int} {p : ByteArray} {t n : Int} (h : sealB key p t n = true) : 0 ≤ n := by
  unfold sealB at h
  simp only [Bool.and_eq_true, decide_eq_true_eq] at h
  omega

set_option maxRecDepth 100000 in
set_option maxHeartbeats 12800000 in
theorem law_selrightd (a : Option Addr) (len cap : Nat) (zs : List Int) (w : World) (h : IsRow .u8 w a len cap zs) (hcls : Cls w) :
    Calls Tryd.prog 4 #[.slice a len cap] w fun e w' => e = .returned (.bool true) ∧ Below w.heap.size w w' := by
  have hl := isrow_len h
  by_cases hbig : 1048576 < len
  · clear hcls h
    go_enter Tryd.func4, Tryd.ntmps4
    go_wp2_with fail
    go_ret
    exact ⟨rfl, Below.refl _ _⟩
  have d1 := draw_selright a len cap zs w h
  have HC : Hid (∀ W, Below w.heap.size w W → Cls W) := Lib.hid (fun W hW => hcls.below hW (Nat.le_refl _))
  clear hcls h
  go_enter Tryd.func4, Tryd.ntmps4
  go_wp2_with fail
  refine d1.mono ?_
  rintro e w1 ⟨key, now, last, s, rfl, hsz, hb1⟩
  clear d1
  obtain ⟨p, u, t, n, c⟩ := s
  obtain ⟨z0, z1, z2, z3⟩ := hsz
  unfold SmS at z1 z2 z3
  dsimp only at z0 z1 z2 z3
  have hpl : p.size ≤ maxLen := by unfold maxLen; omega
  have hI : ∀ u' n' c' x y W, Calls Tryd.prog 10 #[.int .i64 key, .agg #[.string p, .bool u', .int .i64 t, .int .i64 n', .int .i64 c'], .int .i64 x, .int .i64 y] W fun e w' => e = .returned (.bool (rightS key ⟨p, u', t, n', c'⟩ x y)) ∧ Below W.heap.size W w' := fun u' n' c' x y W => impl_right key ⟨p, u', t, n', c'⟩ x y W hpl
  have hS : ∀ W, Calls Tryd.prog 11 #[.int .i64 key, .agg #[.string p, .bool u, .int .i64 t, .int .i64 n, .int .i64 c], .int .i64 now, .int .i64 last] W fun e w' => e = .returned (.bool (rightS key ⟨p, u, t, n, c⟩ now last)) ∧ Below W.heap.size W w' := fun W => spec_right key ⟨p, u, t, n, c⟩ now last W hpl
  have HO := Lib.hid fun W => impl_selof key p u t n W hpl
  have hn1 : IntKind.i64.wrap (n + 1) = n + 1 := by simp [IntKind.wrap, IntKind.bits, IntKind.signed]; omega
  have hc1 : IntKind.i64.wrap (c + 1) = c + 1 := by simp [IntKind.wrap, IntKind.bits, IntKind.signed]; omega
  obtain ⟨w2, hw2⟩ : ∃ x, x = w1.alloc (.cells #[.string p, .bool u, .int .i64 t, .int .i64 n, .int .i64 c] 29) := ⟨_, rfl⟩
  have hz2 : w2.heap.size = w1.heap.size + 1 := by rw [hw2]; simp
  have hb2 : Below w.heap.size w w2 := by rw [hw2]; exact hb1.alloc hb1.size _
  have g2 : w2.heap[w1.heap.size]? = some (.cells #[.string p, .bool u, .int .i64 t, .int .i64 n, .int .i64 c] 29 (0, 0)) := by rw [hw2]; exact heap_alloc_new w1 _
  obtain ⟨q0, q1, q2, q3, q4⟩ := sl_facts g2
  rw [hw2] at q0 q1 q2 q3 q4
  have HW2 := Lib.hid hw2
  have s0 := hI u n c now last w2
  unfold slV
  dsimp only
  clear hw2
  go_wp2_with fail
  rw [← HW2.out]
  refine s0.mono ?_
  rintro e w3 ⟨rfl, hb⟩
  have hb3 := hb2.trans (hb.mono hb2.size)
  have g3 := (hb.block w1.heap.size (by omega)).trans g2
  have hz3 := hb.size
  clear s0 HW2 q0 q1 q2 q3 q4 hb hb2 g2 hb1
  obtain ⟨q0, q1, q2, q3, q4⟩ := sl_facts g3
  have s0 := hS w3
  go_wp2_with fail
  refine s0.mono ?_
  rintro e w4 ⟨rfl, hb⟩
  have hb4 := hb3.trans (hb.mono hb3.size)
  have g4 := (hb.block w1.heap.size (by omega)).trans g3
  have hz4 := hb.size
  clear s0 hS q0 q1 q2 q3 q4 hb hb3 g3
  cases hR : rightS key ⟨p, u, t, n, c⟩ now last with
  | false =>
    have tail : Calls Tryd.prog 8 #[] w4 fun e w' => e = .returned (.bool true) ∧ w4 = w' := gd_ok w4 (HC.out w4 hb4)
    clear hI g4 hz4 hz3 hz2
    go_wp2_with fail
    refine tail.mono ?_
    rintro e w5 ⟨rfl, rfl⟩
    go_wp2_with fail
    go_ret
    exact ⟨rfl, hb4⟩
  | true =>
    obtain ⟨x0, x1, x2, x3⟩ := right_parts hR
    have y1 : rightS key ⟨p, u, t, n, c + 1⟩ now last = false := right_false fun hh => by have := hh.2.1; omega
    have y2 : rightS key ⟨p, !u, t, n, c⟩ now last = false := right_false fun hh => sel_under key p u t n x0 (hh.2.1.symm.trans x1)
    have y3 : rightS key ⟨p, u, t, n + 1, c⟩ now last = false := right_false fun hh => by
      have k := sel_nonce key p u t (n + 1) hh.1 (by have := seal_nonce0 x0; omega)
      rw [show n + 1 - 1 = n from by omega] at k
      exact k (x1.symm.trans hh.2.1)
    have y4 : rightS key ⟨p, u, t, n, c⟩ t last = false := right_false fun hh => by have := hh.2.2.1; omega
    have y5 : rightS key ⟨p, u, t, n, c⟩ now n = false := right_false fun hh => by have := hh.2.2.2; omega
    have i1 := hI u n (c + 1) now last
    have i2 := hI (!u) n c now last
    have i3 := hI u (n + 1) c now last
    have HR1 := Lib.hid (hI u n c t last)
    have HR2 := Lib.hid (hI u n c now n)
    rw [y1] at i1
    rw [y2] at i2
    rw [y3] at i3
    rw [y4] at HR1
    rw [y5] at HR2
    rw [← x1] at HO
    have k5 : decide (now < t) = true := by simpa using x2
    have hcc : (c == c) = true := by simp
    clear hI y1 y2 y3 y4 y5 x0 x1 x2 x3 hR hpl
    obtain ⟨wA, hwA⟩ : ∃ x, x = w4.alloc (.cells #[.string p, .bool u, .int .i64 t, .int .i64 n, .int .i64 (c + 1)] 29) := ⟨_, rfl⟩
    have hzA : wA.heap.size = w4.heap.size + 1 := by rw [hwA]; simp
    have hbA : Below w4.heap.size w4 wA := by rw [hwA]; exact (Below.refl _ _).alloc (Nat.le_refl _) _
    have gA : wA.heap[w4.heap.size]? = some (.cells #[.string p, .bool u, .int .i64 t, .int .i64 n, .int .i64 (c + 1)] 29 (0, 0)) := by rw [hwA]; exact heap_alloc_new w4 _
    obtain ⟨wB, hwB⟩ : ∃ x, x = wA.alloc (.cells #[.string p, .bool (!u), .int .i64 t, .int .i64 n, .int .i64 c] 29) := ⟨_, rfl⟩
    have hzB : wB.heap.size = wA.heap.size + 1 := by rw [hwB]; simp
    have hbB : Below wA.heap.size wA wB := by rw [hwB]; exact (Below.refl _ _).alloc (Nat.le_refl _) _
    have gB : wB.heap[wA.heap.size]? = some (.cells #[.string p, .bool (!u), .int .i64 t, .int .i64 n, .int .i64 c] 29 (0, 0)) := by rw [hwB]; exact heap_alloc_new wA _
    obtain ⟨wD, hwD⟩ : ∃ x, x = wB.alloc (.cells #[.string p, .bool u, .int .i64 t, .int .i64 (n + 1), .int .i64 c] 29) := ⟨_, rfl⟩
    have hzD : wD.heap.size = wB.heap.size + 1 := by rw [hwD]; simp
    have hbD : Below wB.heap.size wB wD := by rw [hwD]; exact (Below.refl _ _).alloc (Nat.le_refl _) _
    have gD : wD.heap[wB.heap.size]? = some (.cells #[.string p, .bool u, .int .i64 t, .int .i64 (n + 1), .int .i64 c] 29 (0, 0)) := by rw [hwD]; exact heap_alloc_new wB _
    have HX : Hid (∀ W, Below wD.heap.size wD W → Below w.heap.size w W ∧ W.heap[w1.heap.size]? = some (.cells #[.string p, .bool u, .int .i64 t, .int .i64 n, .int .i64 c] 29 (0, 0)) ∧ W.heap[w4.heap.size]? = some (.cells #[.string p, .bool u, .int .i64 t, .int .i64 n, .int .i64 (c + 1)] 29 (0, 0)) ∧ W.heap[wA.heap.size]? = some (.cells #[.string p, .bool (!u), .int .i64 t, .int .i64 n, .int .i64 c] 29 (0, 0)) ∧ W.heap[wB.heap.size]? = some (.cells #[.string p, .bool u, .int .i64 t, .int .i64 (n + 1), .int .i64 c] 29 (0, 0))) := Lib.hid fun W hW => by
      have hBW := hbD.trans (hW.mono (by omega))
      have hAW := hbB.trans (hBW.mono (by omega))
      have h4W := hbA.trans (hAW.mono (by omega))
      exact ⟨hb4.trans (h4W.mono hb4.size), (h4W.block _ (by omega)).trans g4, (hAW.block _ (by omega)).trans gA, (hBW.block _ (by omega)).trans gB, (hW.block _ (by omega)).trans gD⟩
    have FA : Hid (∀ cs T, (w4.alloc (.cells cs T)).heap[w1.heap.size]? = w4.heap[w1.heap.size]?) := Lib.hid fun cs T => ((Below.refl _ _).alloc (Nat.le_refl w4.heap.size) _).block _ (by omega)
    have ga1 := (FA.out #[.string p, .bool u, .int .i64 t, .int .i64 n, .int .i64 c] 29).trans g4
    have gan := heap_alloc_new w4 (.cells #[.string p, .bool u, .int .i64 t, .int .i64 n, .int .i64 c] 29)
    have gA1 := (hbA.block _ (by omega)).trans g4
    have hbb : Below wA.heap.size wA (wA.alloc (.cells #[.string p, .bool u, .int .i64 t, .int .i64 n, .int .i64 c] 29)) := (Below.refl _ _).alloc (Nat.le_refl _) _
    have gb1 := (hbb.block _ (by omega)).trans gA1
    have gbn := heap_alloc_new wA (.cells #[.string p, .bool u, .int .i64 t, .int .i64 n, .int .i64 c] 29)
    have gB1 := (hbB.block _ (by omega)).trans gA1
    have hbd : Below wB.heap.size wB (wB.alloc (.cells #[.string p, .bool u, .int .i64 t, .int .i64 n, .int .i64 c] 29)) := (Below.refl _ _).alloc (Nat.le_refl _) _
    have gd1 := (hbd.block _ (by omega)).trans gB1
    have gdn := heap_alloc_new wB (.cells #[.string p, .bool u, .int .i64 t, .int .i64 n, .int .i64 c] 29)
    obtain ⟨q0, q1, q2, q3, q4⟩ := sl_facts g4
    obtain ⟨a0, a1, a2, a3, a4⟩ := sl_facts ga1
    obtain ⟨b0, b1, b2, b3, b4⟩ := sl_facts gan
    obtain ⟨_, _, _, _, f4⟩ := sl_frozen gan
    obtain ⟨c0, c1, c2, c3, c4⟩ := sl_facts gA1
    obtain ⟨d0, d1, d2, d3, d4⟩ := sl_facts gb1
    obtain ⟨e0, e1, e2, e3, e4⟩ := sl_facts gbn
    obtain ⟨_, f1, _, _, _⟩ := sl_frozen gbn
    obtain ⟨l0, l1, l2, l3, l4⟩ := sl_facts gB1
    obtain ⟨m0, m1, m2, m3, m4⟩ := sl_facts gd1
    obtain ⟨o0, o1, o2, o3, o4⟩ := sl_facts gdn
    obtain ⟨_, _, _, f3, _⟩ := sl_frozen gdn
    have gD1 := (hbD.block _ (by omega)).trans gB1
    have gD4 := (hbD.block _ (by omega)).trans ((hbB.block _ (by omega)).trans gA)
    have gDA := (hbD.block _ (by omega)).trans gB
    obtain ⟨r0, r1, r2, r3, r4⟩ := sl_facts gD4
    have HGA := Lib.hid gDA
    have HGD := Lib.hid gD
    have HD1 := Lib.hid gD1
    simp only [hzB, hzA] at a0 a1 a2 a3 a4 b0 b1 b2 b3 b4 c0 c1 c2 c3 c4 d0 d1 d2 d3 d4 e0 e1 e2 e3 e4 l0 l1 l2 l3 l4 m0 m1 m2 m3 m4 o0 o1 o2 o3 o4 f1 f3 r0 r1 r2 r3 r4
    simp only [hwD, hwB, hwA] at a0 a1 a2 a3 a4 b0 b1 b2 b3 b4 c0 c1 c2 c3 c4 d0 d1 d2 d3 d4 e0 e1 e2 e3 e4 l0 l1 l2 l3 l4 m0 m1 m2 m3 m4 o0 o1 o2 o3 o4 f1 f3 r0 r1 r2 r3 r4
    have HWD := Lib.hid (show wD = _ from hwD.trans (by rw [hwB, hwA]))
    clear hwA hwB hwD FA ga1 gan gA1 hbb gb1 gbn gB1 hbd gd1 gdn gD1 gD4 gDA gA gB gD hbA hbB hbD g4
    go_wp2_with fail
    rw [← HWD.out]
    refine (i1 wD).mono ?_
    rintro e w5 ⟨rfl, hb5⟩
    clear a0 a1 a2 a3 a4 b0 b1 b2 b3 b4 c0 c1 c2 c3 c4 d0 d1 d2 d3 d4 e0 e1 e2 e3 e4 l0 l1 l2 l3 l4 m0 m1 m2 m3 m4 o0 o1 o2 o3 o4 f1 f3 f4 r0 r1 r2 r3 r4 q0 q1 q2 q3 q4 HWD
    have k5' := (HX.out _ hb5).2.2.2.1
    rw [hzA] at k5'
    obtain ⟨q0, q1, q2, q3, q4⟩ := sl_facts k5'
    clear k5' i1
    go_wp2_with fail
    refine (i2 w5).mono ?_
    rintro e w6 ⟨rfl, hb6⟩
    have hb06 := hb5.trans (hb6.mono hb5.size)
    clear q0 q1 q2 q3 q4 i2 hb5 hb6
    have k5' := (HX.out _ hb06).2.2.2.2
    rw [hzB, hzA] at k5'
    obtain ⟨q0, q1, q2, q3, q4⟩ := sl_facts k5'
    clear k5'
    go_wp2_with fail
    refine (i3 w6).mono ?_
    rintro e w7 ⟨rfl, hb7⟩
    have hb07 := hb06.trans (hb7.mono hb06.size)
    clear q0 q1 q2 q3 q4 i3 hb06 hb7
    have HQ : Hid (∀ W, Below w7.heap.size w7 W → Below w.heap.size w W ∧ W.heap[w1.heap.size]? = some (.cells #[.string p, .bool u, .int .i64 t, .int .i64 n, .int .i64 c] 29 (0, 0))) := Lib.hid fun W hW => by
      obtain ⟨h1, h2, _⟩ := HX.out _ (hb07.trans (hW.mono hb07.size))
      exact ⟨h1, h2⟩
    clear hb07 HX
    obtain ⟨wQ, hwQ⟩ : ∃ x, x = w7 := ⟨_, rfl⟩
    rw [← hwQ] at HQ ⊢
    clear hwQ
    go_wp2_with fail
    refine wp_region_last (by kernel_rfl) 37 (by kernel_rfl) (by kernel_rfl) (by kernel_rfl)
      (fun z => { tmps := #[Value.slice a len cap, undef, Value.bool false, Value.int IntKind.i64 key, Value.pointer (some { block := w1.heap.size, off := 0 }), Value.int IntKind.i64 now, Value.int IntKind.i64 last, Value.bool true, Value.pointer (some { block := w4.heap.size, off := 0 }), Value.pointer (some { block := w4.heap.size + 1, off := 0 }), Value.pointer (some { block := w4.heap.size + 1 + 1, off := 0 }), Value.slice a len cap, Value.int IntKind.i64 (len : Int), Value.bool (decide ((1048576 : Int) < (len : Int))), Value.tuple #[Value.int IntKind.i64 key, Value.agg #[Value.string p, Value.bool u, Value.int IntKind.i64 t, Value.int IntKind.i64 n, Value.int IntKind.i64 c], Value.int IntKind.i64 now, Value.int IntKind.i64 last], Value.slice a len cap, Value.tuple #[Value.int IntKind.i64 key, Value.agg #[Value.string p, Value.bool u, Value.int IntKind.i64 t, Value.int IntKind.i64 n, Value.int IntKind.i64 c], Value.int IntKind.i64 now, Value.int IntKind.i64 last], Value.int IntKind.i64 key, Value.agg #[Value.string p, Value.bool u, Value.int IntKind.i64 t, Value.int IntKind.i64 n, Value.int IntKind.i64 c], Value.int IntKind.i64 now, Value.int IntKind.i64 last, Value.int IntKind.i64 key, Value.agg #[Value.string p, Value.bool u, Value.int IntKind.i64 t, Value.int IntKind.i64 n, Value.int IntKind.i64 c], Value.int IntKind.i64 now, Value.int IntKind.i64 last, Value.bool true, Value.bool true, Value.int IntKind.i64 key, Value.agg #[Value.string p, Value.bool u, Value.int IntKind.i64 t, Value.int IntKind.i64 n, Value.int IntKind.i64 c], Value.int IntKind.i64 now, Value.int IntKind.i64 last, Value.bool true, Value.bool false, Value.bool true, Value.bool false, undef, Value.agg #[Value.string p, Value.bool u, Value.int IntKind.i64 t, Value.int IntKind.i64 n, Value.int IntKind.i64 c], Value.pointer (some { block := w1.heap.size, off := 4 }), Value.int IntKind.i64 c, Value.int IntKind.i64 (c + 1), Value.pointer (some { block := w4.heap.size, off := 4 }), Value.agg #[Value.string p, Value.bool u, Value.int IntKind.i64 t, Value.int IntKind.i64 n, Value.int IntKind.i64 c], Value.pointer (some { block := w1.heap.size, off := 1 }), Value.bool u, Value.bool !u, Value.pointer (some { block := w4.heap.size + 1, off := 1 }), Value.agg #[Value.string p, Value.bool u, Value.int IntKind.i64 t, Value.int IntKind.i64 n, Value.int IntKind.i64 c], Value.pointer (some { block := w1.heap.size, off := 3 }), Value.int IntKind.i64 n, Value.int IntKind.i64 (n + 1), Value.pointer (some { block := w4.heap.size + 1 + 1, off := 3 }), Value.int IntKind.i64 key, Value.agg #[Value.string p, Value.bool u, Value.int IntKind.i64 t, Value.int IntKind.i64 n, Value.int IntKind.i64 (c + 1)], Value.int IntKind.i64 now, Value.int IntKind.i64 last, Value.bool false, Value.bool false, Value.int IntKind.i64 key, Value.agg #[Value.string p, Value.bool !u, Value.int IntKind.i64 t, Value.int IntKind.i64 n, Value.int IntKind.i64 c], Value.int IntKind.i64 now, Value.int IntKind.i64 last, Value.bool false, Value.bool false, Value.bool false, Value.int IntKind.i64 key, Value.agg #[Value.string p, Value.bool u, Value.int IntKind.i64 t, Value.int IntKind.i64 (n + 1), Value.int IntKind.i64 c], Value.int IntKind.i64 now, Value.int IntKind.i64 last, Value.bool false, Value.bool false, z 0, z 1, z 2, z 3, z 4, z 5, z 6, z 7, z 8, z 9, z 10, z 11, z 12, z 13, z 14, z 15, z 16, z 17, z 18, z 19, z 20, z 21, z 22, z 23, z 24, z 25, z 26, z 27, z 28, z 29, z 30, z 31, z 32, z 33, z 34, z 35, z 36], defers := [] })
      (fun _ W => Below wQ.heap.size wQ W)
      (fun i xv _ => xv = ([.pointer (some ⟨w1.heap.size, 4, none⟩), .int .i64 c, Value.int IntKind.i64 key, .pointer (some ⟨w1.heap.size, 0, none⟩), .string p, .pointer (some ⟨w1.heap.size, 1, none⟩), .bool u, .pointer (some ⟨w1.heap.size, 2, none⟩), .int .i64 t, .pointer (some ⟨w1.heap.size, 3, none⟩), .int .i64 n, .int .i64 c, .bool true, .bool true, Value.int IntKind.i64 key, .agg #[.string p, .bool u, .int .i64 t, .int .i64 n, .int .i64 c], .pointer (some ⟨w1.heap.size, 2, none⟩), .int .i64 t, Value.int IntKind.i64 last, .bool false, .bool true, .bool true, .bool true, Value.int IntKind.i64 key, .agg #[.string p, .bool u, .int .i64 t, .int .i64 n, .int .i64 c], Value.int IntKind.i64 now, .pointer (some ⟨w1.heap.size, 3, none⟩), .int .i64 n, .bool false, .bool true, .bool true, .bool true, Value.int IntKind.i64 now, .pointer (some ⟨w1.heap.size, 2, none⟩), .int .i64 t, .bool true, .bool true] : List Value).getD i undef)
      (fun _ _ => True) (fun _ => undef) (Below.refl _ _).drew
      (fun _ _ _ _ _ h _ => h) ?_ ?_
    · intro i hi z w7 kk hkk hC hdp
      match i, hi with
      | 0, _ =>
        refine wpOp_step rfl (fun K hK => ?_)
        clear hdp
        go_simp
        exact hK _ _ ⟨.pointer (some ⟨w1.heap.size, 4, none⟩), rfl, rfl, trivial, hC⟩
      | 1, _ =>
        obtain ⟨q0, q1, q2, q3, q4⟩ := sl_facts (HQ.out w7 hC).2
        have e0 : z 0 = .pointer (some ⟨w1.heap.size, 4, none⟩) := hdp 0 (dep_of (by kernel_rfl))
        refine wpOp_step rfl (fun K hK => ?_)
        clear hdp
        go_simp
        exact hK _ _ ⟨.int .i64 c, by simp [upd, e0], rfl, trivial, hC⟩
      | 2, _ =>
        refine wpOp_step rfl (fun K hK => ?_)
        clear hdp
        go_simp
        exact hK _ _ ⟨Value.int IntKind.i64 key, rfl, rfl, trivial, hC⟩
      | 3, _ =>
        refine wpOp_step rfl (fun K hK => ?_)
        clear hdp
        go_simp
        exact hK _ _ ⟨.pointer (some ⟨w1.heap.size, 0, none⟩), rfl, rfl, trivial, hC⟩
      | 4, _ =>
        obtain ⟨q0, q1, q2, q3, q4⟩ := sl_facts (HQ.out w7 hC).2
        have e3 : z 3 = .pointer (some ⟨w1.heap.size, 0, none⟩) := hdp 3 (dep_of (by kernel_rfl))
        refine wpOp_step rfl (fun K hK => ?_)
        clear hdp
        go_simp
        exact hK _ _ ⟨.string p, by simp [upd, e3], rfl, trivial, hC⟩
      | 5, _ =>
        refine wpOp_step rfl (fun K hK => ?_)
        clear hdp
        go_simp
        exact hK _ _ ⟨.pointer (some ⟨w1.heap.size, 1, none⟩), rfl, rfl, trivial, hC⟩
      | 6, _ =>
        obtain ⟨q0, q1, q2, q3, q4⟩ := sl_facts (HQ.out w7 hC).2
        have e5 : z 5 = .pointer (some ⟨w1.heap.size, 1, none⟩) := hdp 5 (dep_of (by kernel_rfl))
        refine wpOp_step rfl (fun K hK => ?_)
        clear hdp
        go_simp
        exact hK _ _ ⟨.bool u, by simp [upd, e5], rfl, trivial, hC⟩
      | 7, _ =>
        refine wpOp_step rfl (fun K hK => ?_)
        clear hdp
        go_simp
        exact hK _ _ ⟨.pointer (some ⟨w1.heap.size, 2, none⟩), rfl, rfl, trivial, hC⟩
      | 8, _ =>
        obtain ⟨q0, q1, q2, q3, q4⟩ := sl_facts (HQ.out w7 hC).2
        have e7 : z 7 = .pointer (some ⟨w1.heap.size, 2, none⟩) := hdp 7 (dep_of (by kernel_rfl))
        refine wpOp_step rfl (fun K hK => ?_)
        clear hdp
        go_simp
        exact hK _ _ ⟨.int .i64 t, by simp [upd, e7], rfl, trivial, hC⟩
      | 9, _ =>
        refine wpOp_step rfl (fun K hK => ?_)
        clear hdp
        go_simp
        exact hK _ _ ⟨.pointer (some ⟨w1.heap.size, 3, none⟩), rfl, rfl, trivial, hC⟩
      | 10, _ =>
        obtain ⟨q0, q1, q2, q3, q4⟩ := sl_facts (HQ.out w7 hC).2
        have e9 : z 9 = .pointer (some ⟨w1.heap.size, 3, none⟩) := hdp 9 (dep_of (by kernel_rfl))
        refine wpOp_step rfl (fun K hK => ?_)
        clear hdp
        go_simp
        exact hK _ _ ⟨.int .i64 n, by simp [upd, e9], rfl, trivial, hC⟩
      | 11, _ =>
        have e2 : z 2 = Value.int IntKind.i64 key := hdp 2 (dep_of (by kernel_rfl))
        have e4 : z 4 = .string p := hdp 4 (dep_of (by kernel_rfl))
        have e6 : z 6 = .bool u := hdp 6 (dep_of (by kernel_rfl))
        have e8 : z 8 = .int .i64 t := hdp 8 (dep_of (by kernel_rfl))
        have e10 : z 10 = .int .i64 n := hdp 10 (dep_of (by kernel_rfl))
        have hT := HO.out w7
        refine wpOp_step rfl (fun K hK => ?_)
        clear hdp
        go_simp
        refine hT.mono ?_
        rintro e w8 ⟨rfl, hb8⟩
        exact hK _ _ ⟨.int .i64 c, by simp [upd, e2, e4, e6, e8, e10], rfl, trivial, hC.trans (hb8.mono hC.size)⟩
      | 12, _ =>
        have e1 : z 1 = .int .i64 c := hdp 1 (dep_of (by kernel_rfl))
        have e11 : z 11 = .int .i64 c := hdp 11 (dep_of (by kernel_rfl))
        refine wpOp_step rfl (fun K hK => ?_)
        clear hdp
        go_simp
        exact hK _ _ ⟨.bool true, by simp [upd, e1, e11], rfl, trivial, hC⟩
      | 13, _ =>
        have e12 : z 12 = .bool true := hdp 12 (dep_of (by kernel_rfl))
        refine wpOp_step rfl (fun K hK => ?_)
        clear hdp
        go_simp
        exact hK _ _ ⟨.bool true, by simp [upd, e12], rfl, trivial, hC⟩
      | 14, _ =>
        have e13 : z 13 = .bool true := hdp 13 (dep_of (by kernel_rfl))
        refine wpOp_step rfl (fun K hK => ?_)
        clear hdp
        go_simp
        exact hK _ _ ⟨Value.int IntKind.i64 key, by simp [upd, e13], rfl, trivial, hC⟩
      | 15, _ =>
        obtain ⟨q0, q1, q2, q3, q4⟩ := sl_facts (HQ.out w7 hC).2
        have e13 : z 13 = .bool true := hdp 13 (dep_of (by kernel_rfl))
        refine wpOp_step rfl (fun K hK => ?_)
        clear hdp
        go_simp
        exact hK _ _ ⟨.agg #[.string p, .bool u, .int .i64 t, .int .i64 n, .int .i64 c], by simp [upd, e13], rfl, trivial, hC⟩
      | 16, _ =>
        have e13 : z 13 = .bool true := hdp 13 (dep_of (by kernel_rfl))
        refine wpOp_step rfl (fun K hK => ?_)
        clear hdp
        go_simp
        exact hK _ _ ⟨.pointer (some ⟨w1.heap.size, 2, none⟩), by simp [upd, e13], rfl, trivial, hC⟩
      | 17, _ =>
        obtain ⟨q0, q1, q2, q3, q4⟩ := sl_facts (HQ.out w7 hC).2
        have e13 : z 13 = .bool true := hdp 13 (dep_of (by kernel_rfl))
        have e16 : z 16 = .pointer (some ⟨w1.heap.size, 2, none⟩) := hdp 16 (dep_of (by kernel_rfl))
        refine wpOp_step rfl (fun K hK => ?_)
        clear hdp
        go_simp
        exact hK _ _ ⟨.int .i64 t, by simp [upd, e13, e16], rfl, trivial, hC⟩
      | 18, _ =>
        have e13 : z 13 = .bool true := hdp 13 (dep_of (by kernel_rfl))
        refine wpOp_step rfl (fun K hK => ?_)
        clear hdp
        go_simp
        exact hK _ _ ⟨Value.int IntKind.i64 last, by simp [upd, e13], rfl, trivial, hC⟩
      | 19, _ =>
        have e13 : z 13 = .bool true := hdp 13 (dep_of (by kernel_rfl))
        have e14 : z 14 = Value.int IntKind.i64 key := hdp 14 (dep_of (by kernel_rfl))
        have e15 : z 15 = .agg #[.string p, .bool u, .int .i64 t, .int .i64 n, .int .i64 c] := hdp 15 (dep_of (by kernel_rfl))
        have e17 : z 17 = .int .i64 t := hdp 17 (dep_of (by kernel_rfl))
        have e18 : z 18 = Value.int IntKind.i64 last := hdp 18 (dep_of (by kernel_rfl))
        have hT := HR1.out w7
        refine wpOp_step rfl (fun K hK => ?_)
        clear hdp
        go_simp
        refine hT.mono ?_
        rintro e w8 ⟨rfl, hb8⟩
        exact hK _ _ ⟨.bool false, by simp [upd, e13, e14, e15, e17, e18], rfl, trivial, hC.trans (hb8.mono hC.size)⟩
      | 20, _ =>
        have e13 : z 13 = .bool true := hdp 13 (dep_of (by kernel_rfl))
        have e19 : z 19 = .bool false := hdp 19 (dep_of (by kernel_rfl))
        refine wpOp_step rfl (fun K hK => ?_)
        clear hdp
        go_simp
        exact hK _ _ ⟨.bool true, by simp [upd, e13, e19], rfl, trivial, hC⟩
      | 21, _ =>
        have e13 : z 13 = .bool true := hdp 13 (dep_of (by kernel_rfl))
        have e20 : z 20 = .bool true := hdp 20 (dep_of (by kernel_rfl))
        refine wpOp_step rfl (fun K hK => ?_)
        clear hdp
        go_simp
        exact hK _ _ ⟨.bool true, by simp [upd, e13, e20], rfl, trivial, hC⟩
      | 22, _ =>
        have e21 : z 21 = .bool true := hdp 21 (dep_of (by kernel_rfl))
        refine wpOp_step rfl (fun K hK => ?_)
        clear hdp
        go_simp
        exact hK _ _ ⟨.bool true, by simp [upd, e21], rfl, trivial, hC⟩
      | 23, _ =>
        have e22 : z 22 = .bool true := hdp 22 (dep_of (by kernel_rfl))
        refine wpOp_step rfl (fun K hK => ?_)
        clear hdp
        go_simp
        exact hK _ _ ⟨Value.int IntKind.i64 key, by simp [upd, e22], rfl, trivial, hC⟩
      | 24, _ =>
        obtain ⟨q0, q1, q2, q3, q4⟩ := sl_facts (HQ.out w7 hC).2
        have e22 : z 22 = .bool true := hdp 22 (dep_of (by kernel_rfl))
        refine wpOp_step rfl (fun K hK => ?_)
        clear hdp
        go_simp
        exact hK _ _ ⟨.agg #[.string p, .bool u, .int .i64 t, .int .i64 n, .int .i64 c], by simp [upd, e22], rfl, trivial, hC⟩
      | 25, _ =>
        have e22 : z 22 = .bool true := hdp 22 (dep_of (by kernel_rfl))
        refine wpOp_step rfl (fun K hK => ?_)
        clear hdp
        go_simp
        exact hK _ _ ⟨Value.int IntKind.i64 now, by simp [upd, e22], rfl, trivial, hC⟩
      | 26, _ =>
        have e22 : z 22 = .bool true := hdp 22 (dep_of (by kernel_rfl))
        refine wpOp_step rfl (fun K hK => ?_)
        clear hdp
        go_simp
        exact hK _ _ ⟨.pointer (some ⟨w1.heap.size, 3, none⟩), by simp [upd, e22], rfl, trivial, hC⟩
      | 27, _ =>
        obtain ⟨q0, q1, q2, q3, q4⟩ := sl_facts (HQ.out w7 hC).2
        have e22 : z 22 = .bool true := hdp 22 (dep_of (by kernel_rfl))
        have e26 : z 26 = .pointer (some ⟨w1.heap.size, 3, none⟩) := hdp 26 (dep_of (by kernel_rfl))
        refine wpOp_step rfl (fun K hK => ?_)
        clear hdp
        go_simp
        exact hK _ _ ⟨.int .i64 n, by simp [upd, e22, e26], rfl, trivial, hC⟩
      | 28, _ =>
        have e22 : z 22 = .bool true := hdp 22 (dep_of (by kernel_rfl))
        have e23 : z 23 = Value.int IntKind.i64 key := hdp 23 (dep_of (by kernel_rfl))
        have e24 : z 24 = .agg #[.string p, .bool u, .int .i64 t, .int .i64 n, .int .i64 c] := hdp 24 (dep_of (by kernel_rfl))
        have e25 : z 25 = Value.int IntKind.i64 now := hdp 25 (dep_of (by kernel_rfl))
        have e27 : z 27 = .int .i64 n := hdp 27 (dep_of (by kernel_rfl))
        have hT := HR2.out w7
        refine wpOp_step rfl (fun K hK => ?_)
        clear hdp
        go_simp
        refine hT.mono ?_
        rintro e w8 ⟨rfl, hb8⟩
        exact hK _ _ ⟨.bool false, by simp [upd, e22, e23, e24, e25, e27], rfl, trivial, hC.trans (hb8.mono hC.size)⟩
      | 29, _ =>
        have e22 : z 22 = .bool true := hdp 22 (dep_of (by kernel_rfl))
        have e28 : z 28 = .bool false := hdp 28 (dep_of (by kernel_rfl))
        refine wpOp_step rfl (fun K hK => ?_)
        clear hdp
        go_simp
        exact hK _ _ ⟨.bool true, by simp [upd, e22, e28], rfl, trivial, hC⟩
      | 30, _ =>
        have e22 : z 22 = .bool true := hdp 22 (dep_of (by kernel_rfl))
        have e29 : z 29 = .bool true := hdp 29 (dep_of (by kernel_rfl))
        refine wpOp_step rfl (fun K hK => ?_)
        clear hdp
        go_simp
        exact hK _ _ ⟨.bool true, by simp [upd, e22, e29], rfl, trivial, hC⟩
      | 31, _ =>
        have e30 : z 30 = .bool true := hdp 30 (dep_of (by kernel_rfl))
        refine wpOp_step rfl (fun K hK => ?_)
        clear hdp
        go_simp
        exact hK _ _ ⟨.bool true, by simp [upd, e30], rfl, trivial, hC⟩
      | 32, _ =>
        have e31 : z 31 = .bool true := hdp 31 (dep_of (by kernel_rfl))
        refine wpOp_step rfl (fun K hK => ?_)
        clear hdp
        go_simp
        exact hK _ _ ⟨Value.int IntKind.i64 now, by simp [upd, e31], rfl, trivial, hC⟩
      | 33, _ =>
        have e31 : z 31 = .bool true := hdp 31 (dep_of (by kernel_rfl))
        refine wpOp_step rfl (fun K hK => ?_)
        clear hdp
        go_simp
        exact hK _ _ ⟨.pointer (some ⟨w1.heap.size, 2, none⟩), by simp [upd, e31], rfl, trivial, hC⟩
      | 34, _ =>
        obtain ⟨q0, q1, q2, q3, q4⟩ := sl_facts (HQ.out w7 hC).2
        have e31 : z 31 = .bool true := hdp 31 (dep_of (by kernel_rfl))
        have e33 : z 33 = .pointer (some ⟨w1.heap.size, 2, none⟩) := hdp 33 (dep_of (by kernel_rfl))
        refine wpOp_step rfl (fun K hK => ?_)
        clear hdp
        go_simp
        exact hK _ _ ⟨.int .i64 t, by simp [upd, e31, e33], rfl, trivial, hC⟩
      | 35, _ =>
        have e31 : z 31 = .bool true := hdp 31 (dep_of (by kernel_rfl))
        have e32 : z 32 = Value.int IntKind.i64 now := hdp 32 (dep_of (by kernel_rfl))
        have e34 : z 34 = .int .i64 t := hdp 34 (dep_of (by kernel_rfl))
        refine wpOp_step rfl (fun K hK => ?_)
        clear hdp
        go_simp
        exact hK _ _ ⟨.bool true, by simp [upd, e31, e32, e34], rfl, trivial, hC⟩
      | 36, _ =>
        have e31 : z 31 = .bool true := hdp 31 (dep_of (by kernel_rfl))
        have e35 : z 35 = .bool true := hdp 35 (dep_of (by kernel_rfl))
        refine wpOp_step rfl (fun K hK => ?_)
        clear hdp
        go_simp
        exact hK _ _ ⟨.bool true, by simp [upd, e31, e35], rfl, trivial, hC⟩
      | n + 37, hn => exact absurd hn (by omega)
    · intro z w7 kk hkk hC hdp
      have e36 : z 36 = .bool true := hdp 36 (by decide)
      refine wpOp_step rfl (fun K hK => ?_)
      clear hdp
      go_simp
      refine hK _ _ ?_
      clear hK K e36
      have HBw := Lib.hid (HQ.out w7 hC).1
      clear hC
      go_wp2
      go_ret
      exact ⟨rfl, HBw.out⟩

namespace Lw
theorem fnSelRight (w : World) (hL : laidMetH Tryd.prog Rows.fnSelRightRow.laid w) (a : Option Addr) (len cap : Nat) (zs : List Int) (h : IsRow .u8 w a len cap zs) :
    Calls Tryd.prog 4 #[.slice a len cap] w fun e w' => e = .returned (.bool true) ∧ Below w.heap.size w w' :=
  law_selrightd a len cap zs w h (cls_of_head hL)
end Lw
end Go.Proofs.YtbhnjnoblkfckabDoor
