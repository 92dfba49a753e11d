import Derived.Test.YtfiggbhmpeffmaaGreatDoorGhx
import Derived.Test.YtfiggbhmpeffmaaGreatDoorGsc
import Derived.Test.YtfiggbhmpeffmaaGreatDoorLaidN
-- from XLHxR
/- The law on reading a request, exact. -/
namespace Go.Proofs.YtfiggbhmpeffmaaGreatDoor
open Go.RowKit Go.Maps

/-- A made row of fields, written out. -/
theorem own_fcells {w : World} {B : Nat} {T : TypeId} {v : Value} {fs : List Fd} (h : w.ownsRow B T 2 v fs.length (fcells fs)) :
    (v = .slice none 0 0 ∧ fs = []) ∨ ∃ g cap, v = .slice (some ⟨g, 0, none⟩) fs.length cap ∧ B ≤ g ∧ FCells w g fs.length (fget fs) := by
  rcases h.2 with ⟨rfl, h0⟩ | ⟨g, cap, cur, rfl, hB, hh, hn, hm, hs, ht⟩
  · exact .inl ⟨rfl, List.eq_nil_of_length_eq_zero h0⟩
  · refine .inr ⟨g, cap, rfl, hB, cur, T, hh, by omega, fun i hi => ?_⟩
    have hf : fs[i]? = some fs[i] := List.getElem?_eq_getElem hi
    have hc := fcells_at hf
    rw [fget_at hf]
    have hget : ∀ j x, j < fs.length * 2 → (fcells fs)[j]? = some x → cur[j]? = some x := fun j x hj hx => by
      rw [← ht, List.getElem?_take, if_pos hj] at hx
      simpa using hx
    exact ⟨hget _ _ (by omega) hc.1, hget _ _ (by omega) hc.2⟩

theorem frow_own' {w : World} {B : Nat} {T : TypeId} {v : Value} {fs : List Fd} (h : w.ownsRow B T 2 v fs.length (fcells fs)) : FRow w v fs := by
  rcases h.2 with ⟨rfl, h0⟩ | ⟨b, cap, cur, rfl, hb, hh, hn, hm, hs, ht⟩
  · have : fs = [] := List.eq_nil_of_length_eq_zero h0
    subst this
    exact ⟨none, 0, rfl, Nat.le_refl _, Nat.zero_le _, fun j f hj => by simp at hj⟩
  · rcases own_fcells h with ⟨e, rfl⟩ | ⟨g, cap2, e, _, hF⟩
    · cases e
    · injection e with e1 _ e2
      injection e1 with e3
      injection e3 with e4
      subst e4; subst e2
      refine ⟨_, _, rfl, hn, hm, fun j f hj => ⟨b, 0, rfl, hF.lt, ?_, ?_⟩⟩
      · have := hF.cell0 (i := j) (List.getElem?_eq_some_iff.1 hj).1
        rw [fget_at hj] at this
        rw [Nat.zero_add]; exact this
      · have := hF.cell1 (i := j) (List.getElem?_eq_some_iff.1 hj).1
        rw [fget_at hj] at this
        rw [Nat.zero_add]; exact this

set_option maxRecDepth 100000 in
set_option maxHeartbeats 800000 in
theorem mark_head (h : Hd) (g cap : Nat) (F : Nat → Fd) (n : Nat) (w : World) (hF : FCells w g n F) (hn : n ≤ 2000000) :
    Calls Tryz.prog 25 #[headV h (.slice (some ⟨g, 0, none⟩) n cap), .int .i64 1] w fun e w' => e = .returned (.int .i64 (1 + 2 * (n : Int))) ∧ FCells w' g n (mkUp 1 F n) ∧ w.grownBy w' (some g) := by
  have hg := hF.lt
  have hM := fun W hW => mark_fields g n cap 1 F W hW (by omega)
  have hb : ∀ o, Below w.heap.size w (w.alloc o) := fun o => (Below.refl _ _).alloc (Nat.le_refl _) o
  have HB := Lib.hid hb
  unfold headV
  have hMA := hM (w.alloc (.cells #[.string h.verb, .string h.target, .string h.host, .slice (some ⟨g, 0, none⟩) n cap, .string h.body] 25)) (hF.keep ((hb _).block g hg))
  clear hM hF hb
  go_enter Tryz.func25, Tryz.ntmps25
  go_wp2_with fail
  refine hMA.mono ?_
  rintro e w2 ⟨rfl, hfc, hgr⟩
  have HF := Lib.hid (And.intro hfc (grown_trans (grown_of_below (HB.out _) (some g)) hgr))
  clear hMA hfc hgr
  go_wp2
  go_ret
  exact ⟨by simp, HF.out⟩

set_option maxRecDepth 100000 in
set_option maxHeartbeats 800000 in
theorem held_head (h : Hd) (g cap : Nat) (n : Nat) (w : World) (hF : FCells w g n (mkFd 1)) (hn : n ≤ 2000000) :
    Calls Tryz.prog 26 #[headV h (.slice (some ⟨g, 0, none⟩) n cap), .int .i64 1] w fun e w' => e = .returned (.int .i64 (1 + 2 * (n : Int))) ∧ Below w.heap.size w w' := by
  have hg := hF.lt
  have hM := fun W hW => held_fields g n cap 1 W hW (by omega)
  have hb : ∀ o, Below w.heap.size w (w.alloc o) := fun o => (Below.refl _ _).alloc (Nat.le_refl _) o
  have HB := Lib.hid hb
  unfold headV
  have hMA := hM (w.alloc (.cells #[.string h.verb, .string h.target, .string h.host, .slice (some ⟨g, 0, none⟩) n cap, .string h.body] 25)) (hF.keep ((hb _).block g hg))
  clear hM hF hb
  have hz : ¬ ((1 : Int) + 2 * (n : Int) < 0) := by omega
  go_enter Tryz.func26, Tryz.ntmps26
  go_wp2_with fail
  refine hMA.mono ?_
  rintro e w2 ⟨rfl, hb2⟩
  have HF := Lib.hid ((HB.out (.cells #[.string h.verb, .string h.target, .string h.host, .slice (some ⟨g, 0, none⟩) n cap, .string h.body] 25)).trans (hb2.mono (by simp)))
  clear hMA hb2
  go_wp2
  go_ret
  exact ⟨by simp, HF.out⟩

theorem mark_none (h : Hd) (w : World) :
    Calls Tryz.prog 25 #[headV h (.slice none 0 0), .int .i64 1] w fun e w' => e = .returned (.int .i64 1) ∧ Below w.heap.size w w' := by
  have hM : ∀ W, Calls Tryz.prog 55 #[.slice none 0 0, .int .i64 1] W fun e w' => e = .returned (.int .i64 1) ∧ Below W.heap.size W w' := fun W => by
    go_enter Tryz.func55, Tryz.ntmps55
    go_wp2
    go_loop [1, 5] (fun q i => i = .int .i64 0 ∧ q = .int .i64 1) (fun _ _ => 0)
    case atStart => exact ⟨rfl, rfl⟩
    case round =>
      obtain ⟨rfl, rfl⟩ := hrel
      go_wp2
      go_ret
      exact ⟨rfl, Below.refl _ _⟩
  have hb : ∀ o, Below w.heap.size w (w.alloc o) := fun o => (Below.refl _ _).alloc (Nat.le_refl _) o
  have HB := Lib.hid hb
  clear hb
  unfold headV
  go_enter Tryz.func25, Tryz.ntmps25
  go_wp2_with fail
  refine (hM _).mono ?_
  rintro e w2 ⟨rfl, hb2⟩
  have HF := Lib.hid ((HB.out (.cells #[.string h.verb, .string h.target, .string h.host, .slice none 0 0, .string h.body] 25)).trans (hb2.mono (by simp)))
  clear hM hb2
  go_wp2
  go_ret
  exact ⟨rfl, HF.out⟩
theorem held_none (h : Hd) (w : World) :
    Calls Tryz.prog 26 #[headV h (.slice none 0 0), .int .i64 1] w fun e w' => e = .returned (.int .i64 1) ∧ Below w.heap.size w w' := by
  have hM : ∀ W, Calls Tryz.prog 56 #[.slice none 0 0, .int .i64 1] W fun e w' => e = .returned (.int .i64 1) ∧ Below W.heap.size W w' := fun W => by
    go_enter Tryz.func56, Tryz.ntmps56
    go_wp2
    go_loop [1, 5] (fun q i => i = .int .i64 0 ∧ q = .int .i64 1) (fun _ _ => 0)
    case atStart => exact ⟨rfl, rfl⟩
    case round =>
      obtain ⟨rfl, rfl⟩ := hrel
      go_wp2
      go_ret
      exact ⟨rfl, Below.refl _ _⟩
  have hb : ∀ o, Below w.heap.size w (w.alloc o) := fun o => (Below.refl _ _).alloc (Nat.le_refl _) o
  have HB := Lib.hid hb
  clear hb
  unfold headV
  go_enter Tryz.func26, Tryz.ntmps26
  go_wp2_with fail
  refine (hM _).mono ?_
  rintro e w2 ⟨rfl, hb2⟩
  have HF := Lib.hid ((HB.out (.cells #[.string h.verb, .string h.target, .string h.host, .slice none 0 0, .string h.body] 25)).trans (hb2.mono (by simp)))
  clear hM hb2
  go_wp2
  go_ret
  exact ⟨rfl, HF.out⟩

def MkS (w : World) (v : Value) (n : Nat) : Prop := (v = .slice none 0 0 ∧ n = 0) ∨ ∃ g cap, v = .slice (some ⟨g, 0, none⟩) n cap ∧ FCells w g n (mkFd 1)
theorem MkS.keep {w w' : World} {v : Value} {n : Nat} (h : MkS w v n) (hb : Below w.heap.size w w') : MkS w' v n := by
  rcases h with h | ⟨g, cap, h1, h2⟩
  · exact .inl h
  · exact .inr ⟨g, cap, h1, h2.keep (hb.block g h2.lt)⟩
theorem mark_any (h : Hd) (v : Value) (B : Nat) (T : TypeId) (fs : List Fd) (w : World) (ho : w.ownsRow B T 2 v fs.length (fcells fs)) (hn : fs.length ≤ 2000000) :
    Calls Tryz.prog 25 #[headV h v, .int .i64 1] w fun e w' => e = .returned (.int .i64 (1 + 2 * (fs.length : Int))) ∧ MkS w' v fs.length ∧ w.grownBy w' v.ownBlock := by
  rcases own_fcells ho with ⟨rfl, rfl⟩ | ⟨g, cap, rfl, _, hF⟩
  · refine (mark_none h w).mono ?_
    rintro e w' ⟨rfl, hb⟩
    exact ⟨rfl, .inl ⟨rfl, rfl⟩, grown_of_below hb _⟩
  · refine (mark_head h g cap (fget fs) fs.length w hF hn).mono ?_
    rintro e w' ⟨rfl, hc, hg⟩
    exact ⟨rfl, .inr ⟨g, cap, rfl, hc.congr (fun i hi => by simp [mkUp, hi])⟩, hg⟩
theorem held_any (h : Hd) (v : Value) (n : Nat) (w : World) (hm : MkS w v n) (hn : n ≤ 2000000) :
    Calls Tryz.prog 26 #[headV h v, .int .i64 1] w fun e w' => e = .returned (.int .i64 (1 + 2 * (n : Int))) ∧ Below w.heap.size w w' := by
  rcases hm with ⟨rfl, rfl⟩ | ⟨g, cap, rfl, hF⟩
  · exact (held_none h w).mono fun e w' h => by simpa using h
  · exact held_head h g cap n w hF hn

theorem read_len (l : List UInt8) : (readL l).1.fs.length ≤ 6 := by
  unfold readL
  split
  · exact Nat.zero_le _
  · split
    · exact Nat.zero_le _
    · split
      · exact Nat.zero_le _
      · split
        · exact Nat.zero_le _
        · split
          · rename_i hb
            exact (hedB_iff.1 hb).many
          · exact Nat.zero_le _

set_option maxRecDepth 100000 in
set_option maxHeartbeats 4000000 in
theorem law_hedread (s : ByteArray) (w : World) (hs : s.size ≤ maxLen) (hcls : Cls w) (htab : Tab w) (herr : Errs w) :
    Calls Tryz.prog 10 #[.string s] w fun e w' => e = .returned (.bool true) ∧ Below w.heap.size w w' := by
  by_cases hbig : 1048576 < s.size
  · unfold maxLen at hs
    clear hcls htab herr
    go_enter Tryz.func10, Tryz.ntmps10
    go_wp2_with fail
    go_ret
    exact ⟨rfl, Below.refl _ _⟩
  have c1 := fun W => spec_hedread s W (by omega)
  have c2 := fun W h1 h2 h3 => impl_hedread s W (by omega) h1 h2 h3
  have hrl := read_len s.data.toList
  generalize readL s.data.toList = R at *
  obtain ⟨h, n, what⟩ := R
  unfold ReadPost at c1 c2
  dsimp only at c1 c2 hrl
  have HX : Hid (∀ W, Below w.heap.size w W → Cls W ∧ Tab W ∧ Errs W) := Lib.hid fun W hW => ⟨hcls.below hW (Nat.le_refl _), htab.below hW (Nat.le_refl _), herr.below hW (Nat.le_refl _)⟩
  unfold maxLen at hs
  clear hcls htab herr
  go_enter Tryz.func10, Tryz.ntmps10
  go_wp2_with fail
  refine (c1 _).mono ?_
  rintro e w1 ⟨⟨vw, rfl, ho1⟩, hb1⟩
  clear c1
  obtain ⟨aw, cw, rfl⟩ := own_len2 ho1
  obtain ⟨w2, hw2⟩ : ∃ w2, w2 = w1.alloc (.cells #[.string h.verb, .string h.target, .string h.host, .slice aw h.fs.length cw, .string h.body] 25) := ⟨_, rfl⟩
  have hs2 : w2.heap.size = w1.heap.size + 1 := by rw [hw2]; simp
  have hb12 : Below w1.heap.size w1 w2 := by rw [hw2]; exact (Below.refl _ _).alloc (Nat.le_refl _) _
  have hX2 : w2.heap[w1.heap.size]? = some (.cells #[.string h.verb, .string h.target, .string h.host, .slice aw h.fs.length cw, .string h.body] 25 (0, 0)) := by rw [hw2]; exact heap_alloc_new w1 _
  have hb02 := hb1.trans (hb12.mono hb1.size)
  have ho2 := own_below ho1 hb12
  obtain ⟨k1, k2, k3⟩ := HX.out _ hb02
  have hI := c2 w2 k1 k2 k3
  have HW2 := Lib.hid hw2
  have hs1 := hb1.size
  have hlw := ho1.lt
  have HLw := Lib.hid hlw
  clear hw2 hb12 ho1 hb1 k1 k2 k3 hlw
  go_wp2_with fail
  rw [← HW2.out]
  refine hI.mono ?_
  rintro e w3 ⟨⟨vg, rfl, hog⟩, hb3⟩
  obtain ⟨ag, cg, rfl⟩ := own_len2 hog
  have hb03 := hb02.trans (hb3.mono hb02.size)
  have ho3 := own_below ho2 hb3
  have hX3 := (hb3.block w1.heap.size (by omega)).trans hX2
  have hs3 := hb3.size
  obtain ⟨w4, hw4⟩ : ∃ w4, w4 = w3.alloc (.cells #[.string h.verb, .string h.target, .string h.host, .slice ag h.fs.length cg, .string h.body] 25) := ⟨_, rfl⟩
  have hs4 : w4.heap.size = w3.heap.size + 1 := by rw [hw4]; simp
  have hb34 : Below w3.heap.size w3 w4 := by rw [hw4]; exact (Below.refl _ _).alloc (Nat.le_refl _) _
  have hG4 : w4.heap[w3.heap.size]? = some (.cells #[.string h.verb, .string h.target, .string h.host, .slice ag h.fs.length cg, .string h.body] 25 (0, 0)) := by rw [hw4]; exact heap_alloc_new w3 _
  have hb04 := hb03.trans (hb34.mono hb03.size)
  have ho4 := own_below ho3 hb34
  have hog4 := own_below hog hb34
  have hX4 := (hb34.block w1.heap.size (by omega)).trans hX3
  have hE := eq_head h _ _ w4 (frow_own (by omega) hog4) (frow_own' ho4) (by omega)
  unfold headV at hE
  obtain ⟨x0, x1, x2, x3, x4, _⟩ := five_facts hX4
  obtain ⟨g0, g1, g2, g3, g4, _⟩ := five_facts hG4
  rw [hw4] at x0 x1 x2 x3 x4 g0 g1 g2 g3 g4
  have HW4 := Lib.hid hw4
  have HLg := Lib.hid hog.lt
  clear hw4 hb34 ho3 hog hX3 hb03 hb3 ho2 hX2 hI hb02
  go_wp2_with fail
  rw [← HW4.out]
  refine hE.mono ?_
  rintro e w5 ⟨rfl, hb5⟩
  have hb05 := hb04.trans (hb5.mono hb04.size)
  have ho5 := own_below ho4 hb5
  have hog5 := own_below hog4 hb5
  have hX5 := (hb5.block w1.heap.size (by omega)).trans hX4
  have hG5 := (hb5.block w3.heap.size (by omega)).trans hG4
  have hs5 := hb5.size
  have hM := mark_any h _ _ _ _ w5 hog5 (by omega)
  unfold headV at hM
  clear hE hb5 hb04 ho4 hog4 hX4 hG4 x0 x1 x2 x3 x4 g0 g1 g2 g3 g4
  obtain ⟨x0, x1, x2, x3, x4, _⟩ := five_facts hX5
  obtain ⟨g0, g1, g2, g3, g4, _⟩ := five_facts hG5
  go_wp2_with fail
  refine hM.mono ?_
  rintro e w6 ⟨rfl, hm6, hg6⟩
  have hne1 : ∀ b, b < w2.heap.size → some b ≠ (Value.slice ag h.fs.length cg).ownBlock := fun b hb e => by have := (HLg.out b e.symm).1; omega
  have hneg : some w3.heap.size ≠ (Value.slice ag h.fs.length cg).ownBlock := fun e => by have := (HLg.out _ e.symm).2; omega
  have hb06 := hb05.grown hg6 hb05.size (fun k hk => by have := (HLg.out k hk).1; omega)
  have hs6 := hg6.size
  have ho6 : w6.ownsRow w.heap.size 58 2 (Value.slice aw h.fs.length cw) h.fs.length (fcells h.fs) := ho5.kept hg6 (by
    cases ha : (Value.slice aw h.fs.length cw).ownBlock with
    | none => exact .inl rfl
    | some b => exact .inr (hne1 b (by have := (HLw.out b ha).2; omega)))
  have hX6 := (hg6.block w1.heap.size (by omega) (hne1 _ (by omega))).trans hX5
  have hG6 := (hg6.block w3.heap.size (by omega) hneg).trans hG5
  have hD := held_any h _ _ w6 hm6 (by omega)
  unfold headV at hD
  clear hM hg6 hb05 ho5 hog5 hX5 hG5 x0 x1 x2 x3 x4 g0 g1 g2 g3 g4 hne1 hneg
  obtain ⟨x0, x1, x2, x3, x4, _⟩ := five_facts hX6
  obtain ⟨g0, g1, g2, g3, g4, _⟩ := five_facts hG6
  go_wp2_with fail
  refine hD.mono ?_
  rintro e w7 ⟨rfl, hb7⟩
  have hb07 := hb06.trans (hb7.mono hb06.size)
  have hm7 := hm6.keep hb7
  have ho7 := own_below ho6 hb7
  have hX7 := (hb7.block w1.heap.size (by omega)).trans hX6
  have hG7 := (hb7.block w3.heap.size (by omega)).trans hG6
  have hs7 := hb7.size
  obtain ⟨k1, k2, k3⟩ := HX.out _ hb07
  have hI := c2 w7 k1 k2 k3
  clear c2 hD hb7 hb06 hm6 ho6 hX6 hG6 x0 x1 x2 x3 x4 g0 g1 g2 g3 g4 k1 k2 k3
  go_wp2_with fail
  refine hI.mono ?_
  rintro e w8 ⟨⟨vh, rfl, hoh⟩, hb8⟩
  obtain ⟨ah, ch, rfl⟩ := own_len2 hoh
  have hb08 := hb07.trans (hb8.mono hb07.size)
  have hm8 := hm7.keep hb8
  have ho8 := own_below ho7 hb8
  have hX8 := (hb8.block w1.heap.size (by omega)).trans hX7
  have hG8 := (hb8.block w3.heap.size (by omega)).trans hG7
  have hs8 := hb8.size
  obtain ⟨w9, hw9⟩ : ∃ w9, w9 = w8.alloc (.cells #[.string h.verb, .string h.target, .string h.host, .slice ah h.fs.length ch, .string h.body] 25) := ⟨_, rfl⟩
  have hs9 : w9.heap.size = w8.heap.size + 1 := by rw [hw9]; simp
  have hb89 : Below w8.heap.size w8 w9 := by rw [hw9]; exact (Below.refl _ _).alloc (Nat.le_refl _) _
  have hH9 : w9.heap[w8.heap.size]? = some (.cells #[.string h.verb, .string h.target, .string h.host, .slice ah h.fs.length ch, .string h.body] 25 (0, 0)) := by rw [hw9]; exact heap_alloc_new w8 _
  have hb09 := hb08.trans (hb89.mono hb08.size)
  have hm9 := hm8.keep hb89
  have ho9 := own_below ho8 hb89
  have hoh9 := own_below hoh hb89
  have hX9 := (hb89.block w1.heap.size (by omega)).trans hX8
  have hG9 := (hb89.block w3.heap.size (by omega)).trans hG8
  have hE := eq_head h _ _ w9 (frow_own (by omega) hoh9) (frow_own' ho9) (by omega)
  unfold headV at hE
  obtain ⟨x0, x1, x2, x3, x4, _⟩ := five_facts hX9
  obtain ⟨y0, y1, y2, y3, y4, _⟩ := five_facts hH9
  rw [hw9] at x0 x1 x2 x3 x4 y0 y1 y2 y3 y4
  have HW9 := Lib.hid hw9
  clear hw9 hb89 hm8 ho8 hX8 hG8 hoh hb8 hb08 hm7 hX7 hG7 hI hb07 ho7 ho9 hoh9
  go_wp2_with fail
  rw [← HW9.out]
  refine hE.mono ?_
  rintro e w10 ⟨rfl, hb10⟩
  have hb010 := hb09.trans (hb10.mono hb09.size)
  have hm10 := hm9.keep hb10
  have hG10 := (hb10.block w3.heap.size (by omega)).trans hG9
  have hs10 := hb10.size
  have hD := held_any h _ _ w10 hm10 (by omega)
  unfold headV at hD
  clear hE hb10 hb09 hX9 hG9 hH9 x0 x1 x2 x3 x4 y0 y1 y2 y3 y4 hm9
  obtain ⟨g0, g1, g2, g3, g4, _⟩ := five_facts hG10
  go_wp2_with fail
  refine hD.mono ?_
  rintro e w11 ⟨rfl, hb11⟩
  have HF := Lib.hid (hb010.trans (hb11.mono hb010.size))
  clear hb11 hb010 hD
  go_wp2_with fail
  go_ret
  exact ⟨rfl, HF.out⟩

namespace Lw
theorem fnExactHedRead (w : World) (hL : laidMetH Tryz.prog Rows.fnExactHedReadRow.laid w) (s : ByteArray) (hs : s.size ≤ maxLen) :
    Calls Tryz.prog 10 #[.string s] w fun e w' => e = .returned (.bool true) ∧ Below w.heap.size w w' := by
  have hL' : laidMet Tryz.prog Rows.fnExactHedReadRow.laid w := hL
  exact law_hedread s w hs (cls_of_head hL'.tail.tail.tail.tail.tail.tail) (tab_of_head hL'.tail.tail) (errs_of_heads hL'.tail.tail.tail.tail)
end Lw
end Go.Proofs.YtfiggbhmpeffmaaGreatDoor

