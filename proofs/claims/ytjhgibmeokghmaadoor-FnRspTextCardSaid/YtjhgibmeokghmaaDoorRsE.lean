/- Walks: the drawings of the laws on answers. -/
import Derived.Test.YtjhgibmeokghmaaDoorRsD
import Derived.Test.YtjhgibmeokghmaaDoorGdOk
import Derived.Test.YtjhgibmeokghmaaDoorMaskB
namespace Go.Proofs.YtjhgibmeokghmaaDoor
open Go.RowKit

theorem wrap64 {x : Int} (h0 : -9223372036854775808 ≤ x) (h1 : x ≤ 9223372036854775807) : IntKind.i64.wrap x = x := by
  simp [IntKind.wrap, IntKind.bits, IntKind.signed]; omega
theorem res_keep {w w0 W : World} {zs : Array Value} {T : TypeId} (h0 : w0 = w.alloc (.cells zs T)) (hb : Below w0.heap.size w0 W) : W.heap[w.heap.size]? = some (.cells zs T (0, 0)) ∧ Below w.heap.size w W := by
  have hs : w0.heap.size = w.heap.size + 1 := by rw [h0]; simp
  refine ⟨(hb.block _ (by omega)).trans (by rw [h0]; exact heap_alloc_new w _), ?_⟩
  have : Below w.heap.size w w0 := by rw [h0]; exact (Below.refl _ _).alloc (Nat.le_refl _) _
  exact this.trans (hb.mono (by omega))
theorem below_set6 {w W : World} {B q : Nat} (h : Below B w W) (hB : B ≤ W.heap.size) (hq : B ≤ q) (a b c d e f : Value) : Below B w (set6 W q a b c d e f) :=
  h.grown (grown_set6 _ _ _ _ _ _ _ _) hB (fun k hk => by cases hk; exact hq)
theorem below_set6w {w W : World} (h : Below w.heap.size w W) (a b c d e f : Value) : Below w.heap.size w (set6 W w.heap.size a b c d e f) := below_set6 h h.size (Nat.le_refl _) a b c d e f

set_option maxRecDepth 100000 in
set_option maxHeartbeats 1600000 in
theorem draw_frsage (a : Option Addr) (len cap : Nat) (zs : List Int) (w : World) (h : IsRow .u8 w a len cap zs) :
    Calls Tryd.prog 21 #[.slice a len cap] w fun e w' => (∃ x y : Int, e = .returned (.tuple #[.int .i64 x, .int .i64 y]) ∧ (-9223372036854775808 ≤ x ∧ x ≤ 9223372036854775807) ∧ -9223372036854775808 ≤ y ∧ y ≤ 9223372036854775807) ∧ Below w.heap.size w w' := by
  go_enter Tryd.func21, Tryd.ntmps21
  go_wp2_with fail
  refine (open_any a len cap zs w h).mono ?_
  rintro e w0 ⟨g, rfl, hr0, hb0⟩
  clear h
  go_wp2_with fail
  refine (num_any g 9 w.heap.size 0 _ (by decide) (by decide) (by decide) hr0).mono ?_
  rintro e w1 ⟨x, rfl, hx0, hx1, hd1⟩
  have hb01 := hb0.trans (hd1.below hr0.lt)
  have hr1 := hd1.1
  clear hb0 hr0 hd1
  go_wp2_with fail
  refine (num_any g 9 w.heap.size _ _ (by decide) (by decide) (by decide) hr1).mono ?_
  rintro e w2 ⟨y, rfl, hy0, hy1, hd2⟩
  have HF := Lib.hid (hb01.trans (hd2.below hr1.lt))
  have HX := Lib.hid (And.intro hx0 hx1); have HY := Lib.hid (And.intro hy0 hy1)
  clear hb01 hr1 hd2 hx0 hx1 hy0 hy1
  go_wp2
  go_ret2
  exact ⟨⟨x, y, rfl, HX.out, HY.out⟩, HF.out⟩

set_option maxRecDepth 100000 in
set_option maxHeartbeats 1600000 in
theorem draw_frskeep (a : Option Addr) (len cap : Nat) (zs : List Int) (w : World) (h : IsRow .u8 w a len cap zs) :
    Calls Tryd.prog 23 #[.slice a len cap] w fun e w' => (∃ (r : Rp) (x : Int), e = .returned (.tuple #[rspV r, .int .i64 x]) ∧ r.tag.size ≤ 32 ∧ r.body.size ≤ 32) ∧ Below w.heap.size w w' := by
  go_enter Tryd.func23, Tryd.ntmps23
  go_wp2_with fail
  obtain ⟨w0, hw0⟩ : ∃ x, x = w.alloc (.cells #[.int .i64 0, .int .i64 0, .bool false, .string ⟨#[]⟩, .int .i64 0, .string ⟨#[]⟩] 24) := ⟨_, rfl⟩
  rw [← hw0]
  have HW0 := Lib.hid hw0
  have hrow := isrow_below h (show Below w.heap.size w w0 by rw [hw0]; exact (Below.refl _ _).alloc (Nat.le_refl _) _)
  clear h hw0
  refine (open_any a len cap zs w0 hrow).mono ?_
  rintro e w1 ⟨g, rfl, hr1, hb1⟩
  have hg1 := hr1.lt
  clear hrow
  go_wp2_with fail
  refine (rsp_any g w0.heap.size 0 9 w1 (by decide) (by decide) (by decide) hr1).mono ?_
  rintro e w2 ⟨r, rfl, ht, hb, hd2⟩
  have hr2 := hd2.1
  have hbb := hb1.trans (hd2.below hg1)
  obtain ⟨c, mx, hd, t, cd, bd⟩ := r
  unfold rspV
  dsimp only at ht hb ⊢
  clear hb1 hr1 hg1 hd2
  go_wp2_with fail
  refine (pick_lit g 10 10 rfl (by decide) w0.heap.size (0 + 60) _ (by omega) (by decide) hr2).mono ?_
  rintro e w3 ⟨k, rfl, hk, hk', hd3⟩
  replace hbb := hbb.trans (hd3.below hr2.lt)
  clear hr2 hd3
  obtain ⟨hres, hbw⟩ := res_keep HW0.out hbb
  obtain ⟨p0, p1, p2, p3, p4, p5⟩ := six_facts hres
  obtain ⟨d0, d1, d2, d3, d4, d5⟩ := six_frozen hres
  have hz := six_set hres (.int .i64 c) (.int .i64 mx) (.bool hd) (.string t) (.int .i64 cd) (.string bd)
  have HF := Lib.hid (below_set6w hbw (.int .i64 c) (.int .i64 mx) (.bool hd) (.string t) (.int .i64 cd) (.string bd))
  unfold set6 at hz HF
  obtain ⟨z0, z1, z2, z3, z4, z5⟩ := six_facts hz
  have HZ := Lib.hid (And.intro z0 (And.intro z1 (And.intro z2 (And.intro z3 (And.intro z4 z5)))))
  clear hz z0 z1 z2 z3 z4 z5 hres hbw hbb
  go_wp2_with fail
  obtain ⟨z0, z1, z2, z3, z4, z5⟩ := HZ.out
  refine bodyPost_ret (v := .tuple #[.agg #[.int .i64 c, .int .i64 mx, .bool hd, .string t, .int .i64 cd, .string bd], .int .i64 ((k : Int) - 1)]) (by simp [results, Tryd.results23, go_sem, z0, z1, z2, z3, z4, z5]) rfl ?_
  exact ⟨⟨⟨c, mx, hd, t, cd, bd⟩, _, rfl, ht, hb⟩, HF.out⟩

set_option maxRecDepth 100000 in
set_option maxHeartbeats 1600000 in
theorem draw_rsptext (a : Option Addr) (len cap : Nat) (zs : List Int) (w : World) (h : IsRow .u8 w a len cap zs) :
    Calls Tryd.prog 30 #[.slice a len cap] w fun e w' => (∃ (r : Rp) (x : Int), e = .returned (.tuple #[rspV r, .int .i64 x]) ∧ r.tag.size ≤ 32 ∧ r.body.size ≤ 32 ∧ -9223372036854775808 ≤ x ∧ x ≤ 9223372036854775807) ∧ Below w.heap.size w w' := by
  go_enter Tryd.func30, Tryd.ntmps30
  go_wp2_with fail
  obtain ⟨w0, hw0⟩ : ∃ x, x = w.alloc (.cells #[.int .i64 0, .int .i64 0, .bool false, .string ⟨#[]⟩, .int .i64 0, .string ⟨#[]⟩] 24) := ⟨_, rfl⟩
  rw [← hw0]
  have HW0 := Lib.hid hw0
  have hrow := isrow_below h (show Below w.heap.size w w0 by rw [hw0]; exact (Below.refl _ _).alloc (Nat.le_refl _) _)
  clear h hw0
  refine (open_any a len cap zs w0 hrow).mono ?_
  rintro e w1 ⟨g, rfl, hr1, hb1⟩
  have hg1 := hr1.lt
  clear hrow
  go_wp2_with fail
  refine (rsp_any g w0.heap.size 0 9 w1 (by decide) (by decide) (by decide) hr1).mono ?_
  rintro e w2 ⟨r, rfl, ht, hb, hd2⟩
  have hr2 := hd2.1
  have hbb := hb1.trans (hd2.below hg1)
  obtain ⟨c, mx, hd, t, cd, bd⟩ := r
  unfold rspV
  dsimp only at ht hb ⊢
  clear hb1 hr1 hg1 hd2
  go_wp2_with fail
  refine (num_any g 9 w0.heap.size (0 + 60) _ (by omega) (by decide) (by decide) hr2).mono ?_
  rintro e w3 ⟨x, rfl, hx0, hx1, hd3⟩
  replace hbb := hbb.trans (hd3.below hr2.lt)
  have HX := Lib.hid (And.intro hx0 hx1)
  clear hr2 hd3 hx0 hx1
  obtain ⟨hres, hbw⟩ := res_keep HW0.out hbb
  obtain ⟨p0, p1, p2, p3, p4, p5⟩ := six_facts hres
  obtain ⟨d0, d1, d2, d3, d4, d5⟩ := six_frozen hres
  have hz := six_set hres (.int .i64 c) (.int .i64 mx) (.bool hd) (.string t) (.int .i64 cd) (.string bd)
  have HF := Lib.hid (below_set6w hbw (.int .i64 c) (.int .i64 mx) (.bool hd) (.string t) (.int .i64 cd) (.string bd))
  unfold set6 at hz HF
  obtain ⟨z0, z1, z2, z3, z4, z5⟩ := six_facts hz
  have HZ := Lib.hid (And.intro z0 (And.intro z1 (And.intro z2 (And.intro z3 (And.intro z4 z5)))))
  clear hz z0 z1 z2 z3 z4 z5 hres hbw hbb
  go_wp2_with fail
  obtain ⟨z0, z1, z2, z3, z4, z5⟩ := HZ.out
  refine bodyPost_ret (v := .tuple #[.agg #[.int .i64 c, .int .i64 mx, .bool hd, .string t, .int .i64 cd, .string bd], .int .i64 x]) (by simp [results, Tryd.results30, go_sem, z0, z1, z2, z3, z4, z5]) rfl ?_
  exact ⟨⟨⟨c, mx, hd, t, cd, bd⟩, _, rfl, ht, hb, HX.out⟩, HF.out⟩

set_option maxRecDepth 100000 in
set_option maxHeartbeats 1600000 in
theorem draw_frsfresh (a : Option Addr) (len cap : Nat) (zs : List Int) (w : World) (h : IsRow .u8 w a len cap zs) :
    Calls Tryd.prog 14 #[.slice a len cap] w fun e w' => (∃ (r : Rp) (x y : Int), e = .returned (.tuple #[rspV r, .int .i64 x, .int .i64 y]) ∧ r.tag.size ≤ 32 ∧ r.body.size ≤ 32 ∧ (-9223372036854775808 ≤ x ∧ x ≤ 9223372036854775807) ∧ -9223372036854775808 ≤ y ∧ y ≤ 9223372036854775807) ∧ Below w.heap.size w w' := by
  go_enter Tryd.func14, Tryd.ntmps14
  go_wp2_with fail
  obtain ⟨w0, hw0⟩ : ∃ x, x = w.alloc (.cells #[.int .i64 0, .int .i64 0, .bool false, .string ⟨#[]⟩, .int .i64 0, .string ⟨#[]⟩] 24) := ⟨_, rfl⟩
  rw [← hw0]
  have HW0 := Lib.hid hw0
  have hrow := isrow_below h (show Below w.heap.size w w0 by rw [hw0]; exact (Below.refl _ _).alloc (Nat.le_refl _) _)
  clear h hw0
  refine (open_any a len cap zs w0 hrow).mono ?_
  rintro e w1 ⟨g, rfl, hr1, hb1⟩
  have hg1 := hr1.lt
  clear hrow
  go_wp2_with fail
  refine (rsp_any g w0.heap.size 0 12 w1 (by decide) (by decide) (by decide) hr1).mono ?_
  rintro e w2 ⟨r, rfl, ht, hb, hd2⟩
  have hr2 := hd2.1
  have hbb := hb1.trans (hd2.below hg1)
  obtain ⟨c, mx, hd, t, cd, bd⟩ := r
  unfold rspV
  dsimp only at ht hb ⊢
  clear hb1 hr1 hg1 hd2
  have hg2 := hr2.lt
  obtain ⟨w3, hw3⟩ : ∃ x, x = w2.alloc (.cells #[.int .i64 c, .int .i64 mx, .bool hd, .string t, .int .i64 cd, .string bd] 24) := ⟨_, rfl⟩
  have hn3 : w3.heap[w2.heap.size]? = some (.cells #[.int .i64 c, .int .i64 mx, .bool hd, .string t, .int .i64 cd, .string bd] 24 (0, 0)) := by rw [hw3]; exact heap_alloc_new w2 _
  have hr3 : RdAt w3 w0.heap.size g (0 + 60) := by rw [hw3]; exact hr2.alloc _
  have hb3 : Below w0.heap.size w0 w3 := by rw [hw3]; exact hbb.alloc hbb.size _
  have HW3 := Lib.hid hw3
  clear hw3 hr2 hbb
  go_wp2_with fail
  rw [← HW3.out]
  refine (num_any g 12 w0.heap.size (0 + 60) _ (by omega) (by decide) (by decide) hr3).mono ?_
  rintro e w4 ⟨x, rfl, hx0, hx1, hd4⟩
  have hn4 := block_keep (show w2.heap.size ≠ g by omega) hn3 hd4.2
  have hr4 := hd4.1
  have hb4 := hb3.trans (hd4.below hr3.lt)
  clear hn3 hr3 hb3 hd4 HW3
  go_wp2_with fail
  refine (pick_lit g 2 2 rfl (by decide) w0.heap.size (0 + 60 + 5) _ (by omega) (by decide) hr4).mono ?_
  rintro e w5 ⟨k, rfl, hk, -, hd5⟩
  have hn5 := block_keep (show w2.heap.size ≠ g by omega) hn4 hd5.2
  have hr5 := hd5.1
  have hb5 := hb4.trans (hd5.below hr4.lt)
  clear hn4 hr4 hb4 hd5
  have HX := Lib.hid (And.intro hx0 hx1)
  have hk2 : k = 0 ∨ k = 1 := by omega
  have hI := fun W => cod_in1 x 0 999989 W

  rcases hk2 with rfl | rfl
  · by_cases cx : 0 ≤ x ∧ x ≤ 999989
    · rw [decide_eq_true cx] at hI
      have HI := Lib.hid hI
      clear hI
      go_wp2_with fail
      refine (HI.out _).mono ?_
      rintro e w6 ⟨rfl, rfl⟩
      clear HI
      go_wp2_with fail
      obtain ⟨q0, q1, q2, q3, q4, q5⟩ := six_facts hn5
      have HN5 := Lib.hid hn5; have HR5 := Lib.hid hr5; have HB5 := Lib.hid hb5
      clear hn5 hr5 hb5
      obtain ⟨cx0, cx1⟩ := cx
      go_region_with (go_at_call 43; refine (pick_lit g 7 7 rfl (by decide) w0.heap.size _ _ (by decide) (by decide) HR5.out.drew).mono ?_; rintro e w7 ⟨y, rfl, hy, hyi, hd7'⟩; have hy0 : -9223372036854775808 ≤ x + (y : Int) := (by omega); have hy1 : x + (y : Int) ≤ 9223372036854775807 := (by omega); have hwr := wrap64 hy0 hy1; have hd7 := hd7'.of_drew; have hb7 := HB5.out.trans (hd7.below HR5.out.lt); obtain ⟨hres, hbw⟩ := res_keep HW0.out hb7; obtain ⟨p0, p1, p2, p3, p4, p5⟩ := six_facts hres; obtain ⟨d0, d1, d2, d3, d4, d5⟩ := six_frozen hres; have hn7 := block_keep (show w2.heap.size ≠ g by omega) HN5.out hd7.2; obtain ⟨r0, r1, r2, r3, r4, r5⟩ := six_facts hn7)
      all_goals
        have hz := six_set hres (.int .i64 c) (.int .i64 mx) (.bool hd) (.string t) (.int .i64 cd) (.string bd)
        have HF := Lib.hid (below_set6w hbw (.int .i64 c) (.int .i64 mx) (.bool hd) (.string t) (.int .i64 cd) (.string bd))
        unfold set6 at hz HF
        obtain ⟨z0, z1, z2, z3, z4, z5⟩ := six_facts hz
        have HZ := Lib.hid (And.intro z0 (And.intro z1 (And.intro z2 (And.intro z3 (And.intro z4 z5)))))
        have HY := Lib.hid (And.intro hy0 hy1)
        clear hz z0 z1 z2 z3 z4 z5 hres hbw hd7 hd7' hb7 hn7 q0 q1 q2 q3 q4 q5 p0 p1 p2 p3 p4 p5 d0 d1 d2 d3 d4 d5 r0 r1 r2 r3 r4 r5 hy0 hy1
        go_wp2
        obtain ⟨z0, z1, z2, z3, z4, z5⟩ := HZ.out
        refine bodyPost_ret (v := .tuple #[.agg #[.int .i64 c, .int .i64 mx, .bool hd, .string t, .int .i64 cd, .string bd], .int .i64 x, .int .i64 (x + (y : Int))]) (by simp [results, Tryd.results14, go_sem, z0, z1, z2, z3, z4, z5]) rfl ?_
        exact ⟨⟨⟨c, mx, hd, t, cd, bd⟩, x, _, rfl, ht, hb, HX.out, HY.out⟩, HF.out⟩
    · rw [decide_eq_false cx] at hI
      have HI := Lib.hid hI
      clear hI cx
      go_wp2_with fail
      refine (HI.out _).mono ?_
      rintro e w6 ⟨rfl, rfl⟩
      clear HI
      go_wp2_with fail
      obtain ⟨q0, q1, q2, q3, q4, q5⟩ := six_facts hn5
      have HN5 := Lib.hid hn5; have HR5 := Lib.hid hr5; have HB5 := Lib.hid hb5
      clear hn5 hr5 hb5
      go_region_with (go_at_call 42; refine (num_any g 9 w0.heap.size _ _ (by decide) (by decide) (by decide) HR5.out.drew).mono ?_; rintro e w7 ⟨y, rfl, hy0, hy1, hd7'⟩; have hd7 := hd7'.of_drew; have hb7 := HB5.out.trans (hd7.below HR5.out.lt); obtain ⟨hres, hbw⟩ := res_keep HW0.out hb7; obtain ⟨p0, p1, p2, p3, p4, p5⟩ := six_facts hres; obtain ⟨d0, d1, d2, d3, d4, d5⟩ := six_frozen hres; have hn7 := block_keep (show w2.heap.size ≠ g by omega) HN5.out hd7.2; obtain ⟨r0, r1, r2, r3, r4, r5⟩ := six_facts hn7)
      all_goals
        have hz := six_set hres (.int .i64 c) (.int .i64 mx) (.bool hd) (.string t) (.int .i64 cd) (.string bd)
        have HF := Lib.hid (below_set6w hbw (.int .i64 c) (.int .i64 mx) (.bool hd) (.string t) (.int .i64 cd) (.string bd))
        unfold set6 at hz HF
        obtain ⟨z0, z1, z2, z3, z4, z5⟩ := six_facts hz
        have HZ := Lib.hid (And.intro z0 (And.intro z1 (And.intro z2 (And.intro z3 (And.intro z4 z5)))))
        have HY := Lib.hid (And.intro hy0 hy1)
        clear hz z0 z1 z2 z3 z4 z5 hres hbw hd7 hd7' hb7 hn7 q0 q1 q2 q3 q4 q5 p0 p1 p2 p3 p4 p5 d0 d1 d2 d3 d4 d5 r0 r1 r2 r3 r4 r5 hy0 hy1
        go_wp2
        obtain ⟨z0, z1, z2, z3, z4, z5⟩ := HZ.out
        refine bodyPost_ret (v := .tuple #[.agg #[.int .i64 c, .int .i64 mx, .bool hd, .string t, .int .i64 cd, .string bd], .int .i64 x, .int .i64 y]) (by simp [results, Tryd.results14, go_sem, z0, z1, z2, z3, z4, z5]) rfl ?_
        exact ⟨⟨⟨c, mx, hd, t, cd, bd⟩, x, y, rfl, ht, hb, HX.out, HY.out⟩, HF.out⟩
  · clear hI
    go_wp2_with fail
    obtain ⟨q0, q1, q2, q3, q4, q5⟩ := six_facts hn5
    have HN5 := Lib.hid hn5; have HR5 := Lib.hid hr5; have HB5 := Lib.hid hb5
    clear hn5 hr5 hb5
    go_region_with (go_at_call 42; refine (num_any g 9 w0.heap.size _ _ (by decide) (by decide) (by decide) HR5.out.drew).mono ?_; rintro e w7 ⟨y, rfl, hy0, hy1, hd7'⟩; have hd7 := hd7'.of_drew; have hb7 := HB5.out.trans (hd7.below HR5.out.lt); obtain ⟨hres, hbw⟩ := res_keep HW0.out hb7; obtain ⟨p0, p1, p2, p3, p4, p5⟩ := six_facts hres; obtain ⟨d0, d1, d2, d3, d4, d5⟩ := six_frozen hres; have hn7 := block_keep (show w2.heap.size ≠ g by omega) HN5.out hd7.2; obtain ⟨r0, r1, r2, r3, r4, r5⟩ := six_facts hn7)
    all_goals
      have hz := six_set hres (.int .i64 c) (.int .i64 mx) (.bool hd) (.string t) (.int .i64 cd) (.string bd)
      have HF := Lib.hid (below_set6w hbw (.int .i64 c) (.int .i64 mx) (.bool hd) (.string t) (.int .i64 cd) (.string bd))
      unfold set6 at hz HF
      obtain ⟨z0, z1, z2, z3, z4, z5⟩ := six_facts hz
      have HZ := Lib.hid (And.intro z0 (And.intro z1 (And.intro z2 (And.intro z3 (And.intro z4 z5)))))
      have HY := Lib.hid (And.intro hy0 hy1)
      clear hz z0 z1 z2 z3 z4 z5 hres hbw hd7 hd7' hb7 hn7 q0 q1 q2 q3 q4 q5 p0 p1 p2 p3 p4 p5 d0 d1 d2 d3 d4 d5 r0 r1 r2 r3 r4 r5 hy0 hy1
      go_wp2
      obtain ⟨z0, z1, z2, z3, z4, z5⟩ := HZ.out
      refine bodyPost_ret (v := .tuple #[.agg #[.int .i64 c, .int .i64 mx, .bool hd, .string t, .int .i64 cd, .string bd], .int .i64 x, .int .i64 y]) (by simp [results, Tryd.results14, go_sem, z0, z1, z2, z3, z4, z5]) rfl ?_
      exact ⟨⟨⟨c, mx, hd, t, cd, bd⟩, x, y, rfl, ht, hb, HX.out, HY.out⟩, HF.out⟩

end Go.Proofs.YtjhgibmeokghmaaDoor
