import Derived.Test.YtfiggbhmpeffmaaGreatDoorGDrR
import Derived.Test.YtfiggbhmpeffmaaGreatDoorGRdK
import Derived.Test.YtfiggbhmpeffmaaGreatDoorGGdH
import Derived.Test.YtfiggbhmpeffmaaGreatDoorGLr
import Derived.Test.YtfiggbhmpeffmaaGreatDoorGimp
import Derived.Test.YtfiggbhmpeffmaaGreatDoorLaidN
-- from XLRd
/- The law on what is read of bytes, over drawn inputs. -/
namespace Go.Proofs.YtfiggbhmpeffmaaGreatDoor
open Go.RowKit Go.Maps

theorem str_nil : ((⟨#[]⟩ : ByteArray).toList == []) = true := by rw [Lib.toList_data]; rfl

/-- Behind the two readings: where what was read is compared. -/
theorem frow_own2 {w : World} {B : Nat} {T : TypeId} {v : Value} {fs : List Fd} (h : w.ownsRow B T 2 v fs.length (fcells fs)) : FRow w v fs := frow_own' h

set_option maxRecDepth 100000 in
set_option maxHeartbeats 3200000 in
theorem law_rd (a : Option Addr) (len cap : Nat) (zs : List Int) (w : World) (ha : IsRow .u8 w a len cap zs) (hcls : Cls w) (htab : Tab w) (herr : Errs w) :
    Calls Tryz.prog 4 #[.slice a len cap] w fun e w' => e = .returned (.bool true) ∧ Below w.heap.size w w' := by
  have hl := isrow_len ha
  by_cases hbig : 1048576 < len
  · clear hcls ha htab herr
    go_enter Tryz.func4, Tryz.ntmps4
    go_wp2_with fail
    go_ret
    exact ⟨rfl, Below.refl _ _⟩
  have c1 := draw_hr a len cap zs w ha
  clear ha
  have HX : Hid (∀ W, Below w.heap.size w W → Cls W ∧ Tab W ∧ Errs W) := Lib.hid fun W hW => ⟨hcls.below hW (Nat.le_refl _), htab.below hW (Nat.le_refl _), herr.below hW (Nat.le_refl _)⟩
  clear hcls htab herr
  go_enter Tryz.func4, Tryz.ntmps4
  go_wp2_with fail
  refine c1.mono ?_
  rintro e w1 ⟨s, rfl, hs, hb1⟩
  clear c1
  obtain ⟨h, used, what, hr⟩ : ∃ (h : Hd) (used what : Nat), readL s.data.toList = (h, used, what) := ⟨_, _, _, rfl⟩
  have iR : ∀ W, Below w.heap.size w W → Calls Tryz.prog 18 #[.string s] W fun e w' => (∃ v, e = .returned (.tuple #[.agg #[.string h.verb, .string h.target, .string h.host, v, .string h.body], .int .i64 (used : Nat), .int .i64 (what : Nat)]) ∧ w'.ownsRow W.heap.size 58 2 v h.fs.length (fcells h.fs)) ∧ Below W.heap.size W w' := fun W hW => by
    obtain ⟨q1, q2, q3⟩ := HX.out W hW
    have c := impl_hedread s W (by omega) q1 q2 q3
    rw [hr] at c; exact c
  have sR : ∀ W, Calls Tryz.prog 20 #[.string s] W fun e w' => (∃ v, e = .returned (.tuple #[.agg #[.string h.verb, .string h.target, .string h.host, v, .string h.body], .int .i64 (used : Nat), .int .i64 (what : Nat)]) ∧ w'.ownsRow W.heap.size 58 2 v h.fs.length (fcells h.fs)) ∧ Below W.heap.size W w' := fun W => by
    have c := spec_hedread s W (by omega)
    rw [hr] at c; exact c
  obtain ⟨hfl, hu0, hcase⟩ : h.fs.length ≤ 6 ∧ used ≤ s.size ∧ (((h = noHd ∧ used = 0) ∧ (what = 2 ∨ what = 3)) ∨ (what = 1 ∧ hedB h = true ∧ readL (s.data.toList.take used) = (h, used, 1))) := by
    by_cases hd : what = 1
    · have h1 : (readL s.data.toList).2.2 = 1 := by rw [hr]; exact hd
      obtain ⟨k1, k2, k3⟩ := read_done h1
      rw [hr] at k1 k2 k3
      subst hd
      exact ⟨(hed_sizes k1).2.2.2.2.1, by rw [size_len]; exact k2, .inr ⟨rfl, k1, k3⟩⟩
    · have h1 : (readL s.data.toList).2.2 ≠ 1 := by rw [hr]; exact hd
      rcases read_not h1 with e | e
      all_goals
        rw [hr] at e
        obtain ⟨rfl, rfl, rfl⟩ : h = noHd ∧ used = 0 ∧ _ := by simpa using e
        exact ⟨by simp [noHd], Nat.zero_le _, .inl ⟨⟨rfl, rfl⟩, by simp⟩⟩
  have c1 := iR w1 hb1
  have HSR := Lib.hid sR
  have HIR := Lib.hid iR
  have HB1 := Lib.hid hb1
  have hs1 := hb1.size
  have HCase := Lib.hid hcase
  clear iR sR hb1 hr hcase
  go_wp2_with fail
  refine c1.mono ?_
  rintro e w7 ⟨⟨v7, rfl, o7⟩, hb7⟩
  obtain ⟨a7, c7, rfl⟩ := own_len2 o7
  obtain ⟨w8, hw8⟩ : ∃ w8, w8 = w7.alloc (.cells #[.string h.verb, .string h.target, .string h.host, .slice a7 h.fs.length c7, .string h.body] 25) := ⟨_, rfl⟩
  have hs7 := hb7.size
  have hs8 : w8.heap.size = w7.heap.size + 1 := by rw [hw8]; simp
  have hb78 : Below w7.heap.size w7 w8 := by rw [hw8]; exact (Below.refl _ _).alloc (Nat.le_refl _) _
  have hx8 : w8.heap[w7.heap.size]? = some (.cells #[.string h.verb, .string h.target, .string h.host, .slice a7 h.fs.length c7, .string h.body] 25 (0, 0)) := by rw [hw8]; exact heap_alloc_new w7 _
  have hb18 := HB1.out.trans ((hb7.trans (hb78.mono hs7)).mono hs1)
  have f8 := frow_own' (own_below o7 hb78)
  have c8 := HSR.out w8
  have HW8 := Lib.hid hw8
  clear c1 hb7 hb78 o7 hw8 HSR
  go_wp2_with fail
  rw [← HW8.out]
  refine c8.mono ?_
  rintro e w9 ⟨⟨v9, rfl, o9⟩, hb9⟩
  obtain ⟨a9, c9, rfl⟩ := own_len2 o9
  obtain ⟨w10, hw10⟩ : ∃ w10, w10 = w9.alloc (.cells #[.string h.verb, .string h.target, .string h.host, .slice a9 h.fs.length c9, .string h.body] 25) := ⟨_, rfl⟩
  have hs9 := hb9.size
  have hs10 : w10.heap.size = w9.heap.size + 1 := by rw [hw10]; simp
  have hb910 : Below w9.heap.size w9 w10 := by rw [hw10]; exact (Below.refl _ _).alloc (Nat.le_refl _) _
  have hx10 : w10.heap[w9.heap.size]? = some (.cells #[.string h.verb, .string h.target, .string h.host, .slice a9 h.fs.length c9, .string h.body] 25 (0, 0)) := by rw [hw10]; exact heap_alloc_new w9 _
  have hb810 : Below w8.heap.size w8 w10 := hb9.trans (hb910.mono hs9)
  have hb010 := hb18.trans (hb810.mono hb18.size)
  have f9 := frow_own' (own_below o9 hb910)
  have f10 := f8.below (Nat.le_refl _) hb810
  have hx10' := (hb810.block w7.heap.size (by omega)).trans hx8
  have g1 := gd_head h _ _ w10 f10 f9 (by omega)
  unfold headV at g1
  have hall : ∀ W, Below w10.heap.size w10 W → Below w.heap.size w W ∧ FRow W (.slice a7 h.fs.length c7) h.fs ∧ Cls W ∧ Tab W ∧ Errs W ∧ W.heap[w7.heap.size]? = some (.cells #[.string h.verb, .string h.target, .string h.host, .slice a7 h.fs.length c7, .string h.body] 25 (0, 0)) := fun W hW => by
    have h0 := hb010.trans (hW.mono hb010.size)
    obtain ⟨k1, k2, k3⟩ := HX.out W h0
    exact ⟨h0, f10.below (Nat.le_refl _) hW, k1, k2, k3, (hW.block w7.heap.size (by omega)).trans hx10'⟩
  have HA := Lib.hid hall
  obtain ⟨x0, x1, x2, x3, x4, _⟩ := five_facts hx10'
  obtain ⟨y0, y1, y2, y3, y4, _⟩ := five_facts hx10
  rw [hw10] at x0 x1 x2 x3 x4 y0 y1 y2 y3 y4
  have HW10 := Lib.hid hw10
  clear c8 hb9 hb910 o9 hw10 hx10 hx10' hb810 hb010 f9 f10 hall hx8 hb18 f8 HX
  have eu : ((used : Int) != (used : Int)) = false := by simp
  have ew : ((what : Int) != (what : Int)) = false := by simp
  go_wp2_with fail
  rw [← HW10.out]
  refine g1.mono ?_
  rintro e w11 ⟨rfl, hb11⟩
  clear g1 x0 x1 x2 x3 x4 y0 y1 y2 y3 y4
  obtain ⟨hfin, f11, k1, k2, k3, xh⟩ := HA.out w11 hb11
  obtain ⟨x0, x1, x2, x3, x4, _⟩ := five_facts xh
  rcases HCase.out with ⟨⟨rfl, rfl⟩, hw⟩ | ⟨rfl, hh, hr2⟩
  · clear hb11 f11 k1 k2 k3 xh HA
    unfold noHd at x0 x1 x2 x3 x4
    dsimp only at x0 x1 x2 x3 x4
    have e0 := str_nil
    rcases hw with rfl | rfl
    all_goals
      go_wp2
      go_ret
      exact ⟨rfl, hfin⟩
  · have hh2 := Lib.hid hh
    obtain ⟨z1, z2, z3, z4, z5, z6⟩ := hed_sizes hh
    obtain ⟨S, hS⟩ : ∃ S : ByteArray, S = ⟨(hedT h).toArray⟩ := ⟨_, rfl⟩
    have zS : S.size = (hedT h).length := by rw [hS, size_len]
    have zle : S.size ≤ 320 := by rw [hS]; exact hedt_small h hh
    have iW : ∀ W, Below w10.heap.size w10 W → Calls Tryz.prog 13 #[.agg #[.string h.verb, .string h.target, .string h.host, .slice a7 h.fs.length c7, .string h.body]] W fun e w' => e = .returned (.string S) ∧ Below W.heap.size W w' := fun W hW => by
      obtain ⟨_, f, q1, q2, _, _⟩ := HA.out W hW
      have c := impl_hedwrite h _ W f (fok_mono z6 (by decide)) (by omega) (by omega) (by omega) (by omega) q1 q2
      rw [if_pos hh, ← hS] at c; exact c
    have iO : ∀ W, Below w10.heap.size w10 W → Calls Tryz.prog 15 #[.agg #[.string h.verb, .string h.target, .string h.host, .slice a7 h.fs.length c7, .string h.body]] W fun e w' => e = .returned (.bool true) ∧ Below W.heap.size W w' := fun W hW => by
      obtain ⟨_, f, q1, q2, _, _⟩ := HA.out W hW
      have c := impl_hedok h _ W f (fok_mono z6 (by decide)) (by omega) (by omega) (by omega) (by omega) q1 q2
      rw [hh] at c; exact c
    have iR1 : ∀ W, Below w10.heap.size w10 W → Calls Tryz.prog 18 #[.string S] W fun e w' => (∃ v, e = .returned (.tuple #[.agg #[.string h.verb, .string h.target, .string h.host, v, .string h.body], .int .i64 (S.size : Nat), .int .i64 (1 : Nat)]) ∧ w'.ownsRow W.heap.size 58 2 v h.fs.length (fcells h.fs)) ∧ Below W.heap.size W w' := fun W hW => by
      obtain ⟨_, _, q1, q2, q3, _⟩ := HA.out W hW
      have c := impl_hedread S W (by omega) q1 q2 q3
      have r1 := read_write hh []
      rw [List.append_nil] at r1
      rw [show S.data.toList = hedT h from by rw [hS], r1] at c
      unfold ReadPost at c
      dsimp only at c
      rw [← zS] at c; exact c
    have iR2 : ∀ W, Below w10.heap.size w10 W → Calls Tryz.prog 18 #[.string (s.extract 0 used)] W fun e w' => (∃ v, e = .returned (.tuple #[.agg #[.string h.verb, .string h.target, .string h.host, v, .string h.body], .int .i64 (used : Nat), .int .i64 (1 : Nat)]) ∧ w'.ownsRow W.heap.size 58 2 v h.fs.length (fcells h.fs)) ∧ Below W.heap.size W w' := fun W hW => by
      obtain ⟨_, _, q1, q2, q3, _⟩ := HA.out W hW
      have c := impl_hedread (s.extract 0 used) W (by simp only [ByteArray.size_extract]; omega) q1 q2 q3
      rw [show (s.extract 0 used).data.toList = s.data.toList.take used from by simp [ByteArray.data_extract], hr2] at c
      exact c
    have c11 := iW w11 hb11
    have HIW := Lib.hid iW; have HIO := Lib.hid iO; have HR1 := Lib.hid iR1; have HR2 := Lib.hid iR2
    have HB11 := Lib.hid hb11
    have hs11 := hb11.size
    have hui : (used : Int) ≤ (s.size : Int) := by omega
    clear iW iO iR1 iR2 hS zS hh hr2 hb11 f11 k1 k2 k3 xh hfin HCase
    go_wp2_with fail
    refine c11.mono ?_
    rintro e w12 ⟨rfl, hb12⟩
    have hb1012 := HB11.out.trans (hb12.mono hs11)
    have hs12 := hb1012.size
    have c12 := HR1.out w12 hb1012
    clear c11 hb12 x0 x1 x2 x3 x4
    go_wp2_with fail
    refine c12.mono ?_
    rintro e w13 ⟨⟨v13, rfl, o13⟩, hb13⟩
    obtain ⟨a13, c13, rfl⟩ := own_len2 o13
    obtain ⟨w14, hw14⟩ : ∃ w14, w14 = w13.alloc (.cells #[.string h.verb, .string h.target, .string h.host, .slice a13 h.fs.length c13, .string h.body] 25) := ⟨_, rfl⟩
    have hs13 := hb13.size
    have hs14 : w14.heap.size = w13.heap.size + 1 := by rw [hw14]; simp
    have hb1314 : Below w13.heap.size w13 w14 := by rw [hw14]; exact (Below.refl _ _).alloc (Nat.le_refl _) _
    have hx14 : w14.heap[w13.heap.size]? = some (.cells #[.string h.verb, .string h.target, .string h.host, .slice a13 h.fs.length c13, .string h.body] 25 (0, 0)) := by rw [hw14]; exact heap_alloc_new w13 _
    have hb1014 := hb1012.trans ((hb13.trans (hb1314.mono hs13)).mono hs12)
    have f14 := frow_own' (own_below o13 hb1314)
    have c14 := HR2.out w14 hb1014
    have HW14 := Lib.hid hw14
    clear c12 hb13 hb1314 o13 hw14 hb1012
    go_wp2_with fail
    rw [← HW14.out]
    refine c14.mono ?_
    rintro e w15 ⟨⟨v15, rfl, o15⟩, hb15⟩
    obtain ⟨a15, c15, rfl⟩ := own_len2 o15
    obtain ⟨w16, hw16⟩ : ∃ w16, w16 = w15.alloc (.cells #[.string h.verb, .string h.target, .string h.host, .slice a15 h.fs.length c15, .string h.body] 25) := ⟨_, rfl⟩
    have hs15 := hb15.size
    have hs16 : w16.heap.size = w15.heap.size + 1 := by rw [hw16]; simp
    have hb1516 : Below w15.heap.size w15 w16 := by rw [hw16]; exact (Below.refl _ _).alloc (Nat.le_refl _) _
    have hx16 : w16.heap[w15.heap.size]? = some (.cells #[.string h.verb, .string h.target, .string h.host, .slice a15 h.fs.length c15, .string h.body] 25 (0, 0)) := by rw [hw16]; exact heap_alloc_new w15 _
    have hb1416 : Below w14.heap.size w14 w16 := hb15.trans (hb1516.mono hs15)
    have hb1016 := hb1014.trans (hb1416.mono hb1014.size)
    have f15 := frow_own' (own_below o15 hb1516)
    have f16 := f14.below (Nat.le_refl _) hb1416
    have hx16' := (hb1416.block w13.heap.size (by omega)).trans hx14
    have hall2 : ∀ W, Below w16.heap.size w16 W → Below w10.heap.size w10 W ∧ Below w.heap.size w W ∧
        Calls Tryz.prog 19 #[headV h (.slice a13 h.fs.length c13), headV h (.slice a7 h.fs.length c7)] W (fun e w' => e = .returned (.bool true) ∧ Below W.heap.size W w') ∧
        Calls Tryz.prog 19 #[headV h (.slice a15 h.fs.length c15), headV h (.slice a7 h.fs.length c7)] W (fun e w' => e = .returned (.bool true) ∧ Below W.heap.size W w') ∧
        W.heap[w7.heap.size]? = some (.cells #[.string h.verb, .string h.target, .string h.host, .slice a7 h.fs.length c7, .string h.body] 25 (0, 0)) ∧ W.heap[w13.heap.size]? = some (.cells #[.string h.verb, .string h.target, .string h.host, .slice a13 h.fs.length c13, .string h.body] 25 (0, 0)) ∧ W.heap[w15.heap.size]? = some (.cells #[.string h.verb, .string h.target, .string h.host, .slice a15 h.fs.length c15, .string h.body] 25 (0, 0)) := fun W hW => by
      have hb := hb1016.trans (hW.mono hb1016.size)
      obtain ⟨h0, f, _, _, _, xh⟩ := HA.out W hb
      exact ⟨hb, h0, gd_head h _ _ W (f16.below (Nat.le_refl _) hW) f (by omega), gd_head h _ _ W (f15.below (Nat.le_refl _) hW) f (by omega), xh, (hW.block w13.heap.size (by omega)).trans hx16', (hW.block w15.heap.size (by omega)).trans hx16⟩
    unfold headV at hall2
    have HA2 := Lib.hid hall2
    obtain ⟨hbz, _, _, _, xh, _, _⟩ := hall2 w16 (Below.refl _ _)
    have c16 := HIO.out w16 hbz
    obtain ⟨x0, x1, x2, x3, x4, _⟩ := five_facts xh
    rw [hw16] at x0 x1 x2 x3 x4
    have HW16 := Lib.hid hw16
    clear c14 hb15 hb1516 o15 hw16 hx16 hx16' hb1416 hb1016 f15 f16 hall2 hx14 hb1014 f14 hbz xh HA HR1 HR2
    go_wp2_with fail
    rw [← HW16.out]
    refine c16.mono ?_
    rintro e w17 ⟨rfl, hb17⟩
    obtain ⟨hbz, _, _, _, xh, _, _⟩ := HA2.out w17 hb17
    have c17 := HIW.out w17 hbz
    have HB17 := Lib.hid hb17
    have hs17 := hb17.size
    clear c16 x0 x1 x2 x3 x4 hb17 hbz
    obtain ⟨x0, x1, x2, x3, x4, _⟩ := five_facts xh
    clear xh
    go_wp2_with fail
    refine c17.mono ?_
    rintro e w18 ⟨rfl, hb18⟩
    have hb18' := HB17.out.trans (hb18.mono hs17)
    obtain ⟨_, _, g1, _, xh, xh3, _⟩ := HA2.out w18 hb18'
    have HB18 := Lib.hid hb18'
    have hs18 := hb18'.size
    clear c17 x0 x1 x2 x3 x4 hb18 hb18'
    obtain ⟨x0, x1, x2, x3, x4, _⟩ := five_facts xh
    obtain ⟨y0, y1, y2, y3, y4, _⟩ := five_facts xh3
    clear xh xh3
    go_wp2_with fail
    refine g1.mono ?_
    rintro e w19 ⟨rfl, hb19⟩
    have hb19' := HB18.out.trans (hb19.mono hs18)
    obtain ⟨_, _, _, g2, xh, _, xh4⟩ := HA2.out w19 hb19'
    have HB19 := Lib.hid hb19'
    have hs19 := hb19'.size
    clear g1 x0 x1 x2 x3 x4 y0 y1 y2 y3 y4 hb19 hb19'
    obtain ⟨x0, x1, x2, x3, x4, _⟩ := five_facts xh
    obtain ⟨y0, y1, y2, y3, y4, _⟩ := five_facts xh4
    clear xh xh4
    go_wp2_with fail
    refine g2.mono ?_
    rintro e w20 ⟨rfl, hb20⟩
    have hfin := (HA2.out w20 (HB19.out.trans (hb20.mono hs19))).2.1
    clear g2 x0 x1 x2 x3 x4 y0 y1 y2 y3 y4 hb20
    go_wp2
    go_ret
    exact ⟨rfl, hfin⟩
namespace Lw
theorem fnHedRead (w : World) (hL : laidMetH Tryz.prog Rows.fnHedReadRow.laid w) (a : Option Addr) (len cap : Nat) (zs : List Int) (h : IsRow .u8 w a len cap zs) :
    Calls Tryz.prog 4 #[.slice a len cap] w fun e w' => e = .returned (.bool true) ∧ Below w.heap.size w w' := by
  have hL' : laidMet Tryz.prog Rows.fnHedReadRow.laid w := hL
  exact law_rd a len cap zs w h (cls_of_head hL'.tail.tail.tail.tail.tail.tail) (tab_of_head hL'.tail.tail) (errs_of_heads hL'.tail.tail.tail.tail)
end Lw
end Go.Proofs.YtfiggbhmpeffmaaGreatDoor

