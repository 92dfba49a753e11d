/- Walks: the drawing of two answers. -/
import Derived.Test.YtjhgibmeokghmaaDoorRsE
namespace Go.Proofs.YtjhgibmeokghmaaDoor
open Go.RowKit

set_option maxRecDepth 100000 in
set_option maxHeartbeats 3200000 in
theorem draw_frsmerge (a : Option Addr) (len cap : Nat) (zs : List Int) (w : World) (h : IsRow .u8 w a len cap zs) :
    Calls Tryd.prog 27 #[.slice a len cap] w fun e w' => (∃ o r : Rp, e = .returned (.tuple #[rspV o, rspV r]) ∧ (o.tag.size ≤ 32 ∧ o.body.size ≤ 32) ∧ r.tag.size ≤ 32 ∧ r.body.size ≤ 32) ∧ Below w.heap.size w w' := by
  go_enter Tryd.func27, Tryd.ntmps27
  go_wp2_with fail
  obtain ⟨hz0, hbA, g0, g1⟩ := rbox2 w (.cells #[.int .i64 0, .int .i64 0, .bool false, .string ⟨#[]⟩, .int .i64 0, .string ⟨#[]⟩] 24) (.cells #[.int .i64 0, .int .i64 0, .bool false, .string ⟨#[]⟩, .int .i64 0, .string ⟨#[]⟩] 24)
  obtain ⟨w0, hw0⟩ : ∃ x, x = (w.alloc (.cells #[.int .i64 0, .int .i64 0, .bool false, .string ⟨#[]⟩, .int .i64 0, .string ⟨#[]⟩] 24)).alloc (.cells #[.int .i64 0, .int .i64 0, .bool false, .string ⟨#[]⟩, .int .i64 0, .string ⟨#[]⟩] 24) := ⟨_, rfl⟩
  rw [← hw0] at hz0 hbA g0 g1 ⊢
  have hrow := isrow_below h hbA
  have HK : Hid (∀ W, Below w0.heap.size w0 W → Below w.heap.size w W ∧ W.heap[w.heap.size]? = some (.cells #[.int .i64 0, .int .i64 0, .bool false, .string ⟨#[]⟩, .int .i64 0, .string ⟨#[]⟩] 24 (0, 0)) ∧ W.heap[w.heap.size + 1]? = some (.cells #[.int .i64 0, .int .i64 0, .bool false, .string ⟨#[]⟩, .int .i64 0, .string ⟨#[]⟩] 24 (0, 0))) := Lib.hid fun W hW =>
    ⟨hbA.trans (hW.mono (by omega)), (hW.block _ (by omega)).trans g0, (hW.block _ (by omega)).trans g1⟩
  clear h hw0 hbA g0 g1
  refine (open_any a len cap zs w0 hrow).mono ?_
  rintro e w1 ⟨g, rfl, hr1, hb1⟩
  have hg1 := hr1.lt
  clear hrow
  go_wp2_with fail
  refine (rsp_any g w0.heap.size 0 12 w1 (by decide) (by decide) (by decide) hr1).mono ?_
  rintro e w2 ⟨r, rfl, ht0, hb0, hd2⟩
  have hr2 := hd2.1
  have hbb := hb1.trans (hd2.below hg1)
  obtain ⟨c0, m0, h0, t0, k0, b0⟩ := r
  unfold rspV
  dsimp only at ht0 hb0 ⊢
  clear hb1 hr1 hg1 hd2
  have hg2 := hr2.lt
  have hs2 := hbb.size
  obtain ⟨w3, hw3⟩ : ∃ x, x = w2.alloc (.cells #[.int .i64 c0, .int .i64 m0, .bool h0, .string t0, .int .i64 k0, .string b0] 24) := ⟨_, rfl⟩
  have hn3 : w3.heap[w2.heap.size]? = some (.cells #[.int .i64 c0, .int .i64 m0, .bool h0, .string t0, .int .i64 k0, .string b0] 24 (0, 0)) := by rw [hw3]; exact heap_alloc_new w2 _
  have hr3 : RdAt w3 w0.heap.size g (0 + 60) := by rw [hw3]; exact hr2.alloc _
  have hb3 : Below w0.heap.size w0 w3 := by rw [hw3]; exact hbb.alloc hbb.size _
  have HW3 := Lib.hid hw3
  clear hw3 hr2 hbb
  go_wp2_with fail
  rw [← HW3.out]
  refine (rsp_any g w0.heap.size (0 + 60) 12 w3 (by decide) (by decide) (by decide) hr3).mono ?_
  rintro e w4 ⟨r, rfl, ht1, hb1, hd4⟩
  have hn4 := block_keep (show w2.heap.size ≠ g by omega) hn3 hd4.2
  have hr4 := hd4.1
  have hb4 := hb3.trans (hd4.below hr3.lt)
  obtain ⟨c1, m1, h1, t1, k1, b1⟩ := r
  unfold rspV
  dsimp only at ht1 hb1 ⊢
  clear hn3 hr3 hb3 hd4 HW3
  have hs4 : w2.heap.size < w4.heap.size := (Array.getElem?_eq_some_iff.1 hn4).1
  have hg4 := hr4.lt
  obtain ⟨w5, hw5⟩ : ∃ x, x = w4.alloc (.cells #[.int .i64 c1, .int .i64 m1, .bool h1, .string t1, .int .i64 k1, .string b1] 24) := ⟨_, rfl⟩
  have hq5 : w5.heap[w4.heap.size]? = some (.cells #[.int .i64 c1, .int .i64 m1, .bool h1, .string t1, .int .i64 k1, .string b1] 24 (0, 0)) := by rw [hw5]; exact heap_alloc_new w4 _
  have hn5 : w5.heap[w2.heap.size]? = some (.cells #[.int .i64 c0, .int .i64 m0, .bool h0, .string t0, .int .i64 k0, .string b0] 24 (0, 0)) := by rw [hw5, Below.heap_alloc _ _ _ hs4]; exact hn4
  have hr5 : RdAt w5 w0.heap.size g (0 + 60 + 60) := by rw [hw5]; exact hr4.alloc _
  have hb5 : Below w0.heap.size w0 w5 := by rw [hw5]; exact hb4.alloc hb4.size _
  have HW5 := Lib.hid hw5
  clear hw5 hr4 hb4 hn4
  go_wp2_with fail
  rw [← HW5.out]
  refine (pick_lit g 2 2 rfl (by decide) w0.heap.size (0 + 60 + 60) _ (by omega) (by decide) hr5).mono ?_
  rintro e w6 ⟨k, rfl, hk, -, hd6⟩
  have hn6 := block_keep (show w2.heap.size ≠ g by omega) hn5 hd6.2
  have hq6 := block_keep (show w4.heap.size ≠ g by omega) hq5 hd6.2
  have hb6 := hb5.trans (hd6.below hr5.lt)
  clear hn5 hq5 hr5 hb5 hd6 HW5
  have hk2 : k = 0 ∨ k = 1 := by omega
  rcases hk2 with rfl | rfl
  · obtain ⟨_, _, _, q3, _, _⟩ := six_facts hn6
    obtain ⟨x0, _, _, x3, _, _⟩ := six_facts hq6
    obtain ⟨y0, _, _, y3, _, _⟩ := six_frozen hq6
    obtain ⟨w7, hw7⟩ : ∃ x, x = (w6.setCell ⟨w4.heap.size, 0, none⟩ (.int .i64 304)).setCell ⟨w4.heap.size, 3, none⟩ (.string t0) := ⟨_, rfl⟩
    have hq7 : w7.heap[w4.heap.size]? = some (.cells #[.int .i64 304, .int .i64 m1, .bool h1, .string t0, .int .i64 k1, .string b1] 24 (0, 0)) := by
      rw [hw7]
      exact heap_setCell_same _ _ 3 _ _ (.string t0) (heap_setCell_same w6 _ 0 _ _ (.int .i64 304) hq6)
    have hn7 : w7.heap[w2.heap.size]? = some (.cells #[.int .i64 c0, .int .i64 m0, .bool h0, .string t0, .int .i64 k0, .string b0] 24 (0, 0)) := by
      rw [hw7]
      exact (heap_setCell_other _ ⟨w4.heap.size, 3, none⟩ _ _ (by simp; omega)).trans ((heap_setCell_other w6 ⟨w4.heap.size, 0, none⟩ _ _ (by simp; omega)).trans hn6)
    have hb7 : Below w0.heap.size w0 w7 := by
      rw [hw7]
      exact hb6.grown (grown_setr (grown_setr (World.grownBy.refl _ _))) hb6.size (fun k hk => by cases hk; omega)
    have HW7 := Lib.hid hw7
    clear hn6 hq6 hb6 hw7
    go_upto_region 7 with fail
    rw [← HW7.out]
    clear q3 x0 x3 y0 y3 HW7
    obtain ⟨j0, j1, j2⟩ := HK.out _ hb7
    obtain ⟨q0, q1, q2, q3, q4, q5⟩ := six_facts hn7
    obtain ⟨p0, p1, p2, p3, p4, p5⟩ := six_facts hq7
    obtain ⟨x0, x1, x2, x3, x4, x5⟩ := six_facts j1
    obtain ⟨y0, y1, y2, y3, y4, y5⟩ := six_frozen j1
    obtain ⟨u0, u1, u2, u3, u4, u5⟩ := six_facts j2
    obtain ⟨v0, v1, v2, v3, v4, v5⟩ := six_frozen j2
    obtain ⟨w8, hw8⟩ : ∃ x, x = set6 w7 w.heap.size (.int .i64 c0) (.int .i64 m0) (.bool h0) (.string t0) (.int .i64 k0) (.string b0) := ⟨_, rfl⟩
    have e8 : w8.heap[w.heap.size]? = some (.cells #[.int .i64 c0, .int .i64 m0, .bool h0, .string t0, .int .i64 k0, .string b0] 24 (0, 0)) := by rw [hw8]; exact six_set j1 _ _ _ _ _ _
    have f8 : w8.heap[w.heap.size + 1]? = some (.cells #[.int .i64 0, .int .i64 0, .bool false, .string ⟨#[]⟩, .int .i64 0, .string ⟨#[]⟩] 24 (0, 0)) := by
      rw [hw8]
      exact ((grown_set6 w7 w.heap.size _ _ _ _ _ _).block _ (Array.getElem?_eq_some_iff.1 j2).1 (fun e => by simp at e)).trans j2
    have g8 : Below w.heap.size w w8 := by rw [hw8]; exact below_set6w j0 _ _ _ _ _ _
    obtain ⟨w9, hw9⟩ : ∃ x, x = set6 w8 (w.heap.size + 1) (.int .i64 304) (.int .i64 m1) (.bool h1) (.string t0) (.int .i64 k1) (.string b1) := ⟨_, rfl⟩
    have e9 : w9.heap[w.heap.size]? = some (.cells #[.int .i64 c0, .int .i64 m0, .bool h0, .string t0, .int .i64 k0, .string b0] 24 (0, 0)) := by
      rw [hw9]
      exact ((grown_set6 w8 (w.heap.size + 1) _ _ _ _ _ _).block _ (Array.getElem?_eq_some_iff.1 e8).1 (fun e => by simp at e)).trans e8
    have f9 : w9.heap[w.heap.size + 1]? = some (.cells #[.int .i64 304, .int .i64 m1, .bool h1, .string t0, .int .i64 k1, .string b1] 24 (0, 0)) := by rw [hw9]; exact six_set f8 _ _ _ _ _ _
    have g9 : Below w.heap.size w w9 := by rw [hw9]; exact below_set6 g8 g8.size (Nat.le_succ _) _ _ _ _ _ _
    have HG := Lib.hid g9.drew
    obtain ⟨i0, i1, i2, i3, i4, i5⟩ := six_facts (w := w9.drew) e9
    obtain ⟨l0, l1, l2, l3, l4, l5⟩ := six_facts (w := w9.drew) f9
    rw [hw9, hw8] at i0 i1 i2 i3 i4 i5 l0 l1 l2 l3 l4 l5 HG
    unfold set6 at i0 i1 i2 i3 i4 i5 l0 l1 l2 l3 l4 l5 HG
    have HI := Lib.hid (And.intro i0 (And.intro i1 (And.intro i2 (And.intro i3 (And.intro i4 i5)))))
    have HL := Lib.hid (And.intro l0 (And.intro l1 (And.intro l2 (And.intro l3 (And.intro l4 l5)))))
    clear i0 i1 i2 i3 i4 i5 l0 l1 l2 l3 l4 l5 hw8 hw9 e8 f8 g8 e9 f9 g9 j0 j1 j2 hn7 hq7 hb7
    go_wp2_with fail
    go_region
    all_goals
      go_wp2
      obtain ⟨i0, i1, i2, i3, i4, i5⟩ := HI.out
      obtain ⟨l0, l1, l2, l3, l4, l5⟩ := HL.out
      refine bodyPost_ret (v := .tuple #[.agg #[.int .i64 c0, .int .i64 m0, .bool h0, .string t0, .int .i64 k0, .string b0], .agg #[.int .i64 304, .int .i64 m1, .bool h1, .string t0, .int .i64 k1, .string b1]]) (by simp [results, Tryd.results27, go_sem, i0, i1, i2, i3, i4, i5, l0, l1, l2, l3, l4, l5]) rfl ?_
      exact ⟨⟨⟨c0, m0, h0, t0, k0, b0⟩, ⟨304, m1, h1, t0, k1, b1⟩, rfl, ⟨ht0, hb0⟩, ht0, hb1⟩, HG.out⟩

  · obtain ⟨w7, hw7⟩ : ∃ x, x = w6 := ⟨_, rfl⟩
    rw [← hw7] at hn6 hq6 hb6 ⊢
    have hn7 := hn6; have hq7 := hq6; have hb7 := hb6
    clear hn6 hq6 hb6 hw7
    obtain ⟨j0, j1, j2⟩ := HK.out _ hb7
    obtain ⟨q0, q1, q2, q3, q4, q5⟩ := six_facts hn7
    obtain ⟨p0, p1, p2, p3, p4, p5⟩ := six_facts hq7
    obtain ⟨x0, x1, x2, x3, x4, x5⟩ := six_facts j1
    obtain ⟨y0, y1, y2, y3, y4, y5⟩ := six_frozen j1
    obtain ⟨u0, u1, u2, u3, u4, u5⟩ := six_facts j2
    obtain ⟨v0, v1, v2, v3, v4, v5⟩ := six_frozen j2
    obtain ⟨w8, hw8⟩ : ∃ x, x = set6 w7 w.heap.size (.int .i64 c0) (.int .i64 m0) (.bool h0) (.string t0) (.int .i64 k0) (.string b0) := ⟨_, rfl⟩
    have e8 : w8.heap[w.heap.size]? = some (.cells #[.int .i64 c0, .int .i64 m0, .bool h0, .string t0, .int .i64 k0, .string b0] 24 (0, 0)) := by rw [hw8]; exact six_set j1 _ _ _ _ _ _
    have f8 : w8.heap[w.heap.size + 1]? = some (.cells #[.int .i64 0, .int .i64 0, .bool false, .string ⟨#[]⟩, .int .i64 0, .string ⟨#[]⟩] 24 (0, 0)) := by
      rw [hw8]
      exact ((grown_set6 w7 w.heap.size _ _ _ _ _ _).block _ (Array.getElem?_eq_some_iff.1 j2).1 (fun e => by simp at e)).trans j2
    have g8 : Below w.heap.size w w8 := by rw [hw8]; exact below_set6w j0 _ _ _ _ _ _
    obtain ⟨w9, hw9⟩ : ∃ x, x = set6 w8 (w.heap.size + 1) (.int .i64 c1) (.int .i64 m1) (.bool h1) (.string t1) (.int .i64 k1) (.string b1) := ⟨_, rfl⟩
    have e9 : w9.heap[w.heap.size]? = some (.cells #[.int .i64 c0, .int .i64 m0, .bool h0, .string t0, .int .i64 k0, .string b0] 24 (0, 0)) := by
      rw [hw9]
      exact ((grown_set6 w8 (w.heap.size + 1) _ _ _ _ _ _).block _ (Array.getElem?_eq_some_iff.1 e8).1 (fun e => by simp at e)).trans e8
    have f9 : w9.heap[w.heap.size + 1]? = some (.cells #[.int .i64 c1, .int .i64 m1, .bool h1, .string t1, .int .i64 k1, .string b1] 24 (0, 0)) := by rw [hw9]; exact six_set f8 _ _ _ _ _ _
    have g9 : Below w.heap.size w w9 := by rw [hw9]; exact below_set6 g8 g8.size (Nat.le_succ _) _ _ _ _ _ _
    have HG := Lib.hid g9.drew
    obtain ⟨i0, i1, i2, i3, i4, i5⟩ := six_facts (w := w9.drew) e9
    obtain ⟨l0, l1, l2, l3, l4, l5⟩ := six_facts (w := w9.drew) f9
    rw [hw9, hw8] at i0 i1 i2 i3 i4 i5 l0 l1 l2 l3 l4 l5 HG
    unfold set6 at i0 i1 i2 i3 i4 i5 l0 l1 l2 l3 l4 l5 HG
    have HI := Lib.hid (And.intro i0 (And.intro i1 (And.intro i2 (And.intro i3 (And.intro i4 i5)))))
    have HL := Lib.hid (And.intro l0 (And.intro l1 (And.intro l2 (And.intro l3 (And.intro l4 l5)))))
    clear i0 i1 i2 i3 i4 i5 l0 l1 l2 l3 l4 l5 hw8 hw9 e8 f8 g8 e9 f9 g9 j0 j1 j2 hn7 hq7 hb7
    go_wp2_with fail
    go_region
    all_goals
      go_wp2
      obtain ⟨i0, i1, i2, i3, i4, i5⟩ := HI.out
      obtain ⟨l0, l1, l2, l3, l4, l5⟩ := HL.out
      refine bodyPost_ret (v := .tuple #[.agg #[.int .i64 c0, .int .i64 m0, .bool h0, .string t0, .int .i64 k0, .string b0], .agg #[.int .i64 c1, .int .i64 m1, .bool h1, .string t1, .int .i64 k1, .string b1]]) (by simp [results, Tryd.results27, go_sem, i0, i1, i2, i3, i4, i5, l0, l1, l2, l3, l4, l5]) rfl ?_
      exact ⟨⟨⟨c0, m0, h0, t0, k0, b0⟩, ⟨c1, m1, h1, t1, k1, b1⟩, rfl, ⟨ht0, hb0⟩, ht1, hb1⟩, HG.out⟩

end Go.Proofs.YtjhgibmeokghmaaDoor
