import Derived.Test.YtfiggbhmpeffmaaGreatDoorGDrW
import Derived.Test.YtfiggbhmpeffmaaGreatDoorGGdH
import Derived.Test.YtfiggbhmpeffmaaGreatDoorGLr
import Derived.Test.YtfiggbhmpeffmaaGreatDoorGimp
import Derived.Test.YtfiggbhmpeffmaaGreatDoorLaidN
-- from XLTwo
/- The law on two requests one after the other, over drawn inputs. -/
namespace Go.Proofs.YtfiggbhmpeffmaaGreatDoor
open Go.RowKit Go.Maps

theorem fok_big {fs : List Fd} (h : FOk fs 40) (N : Nat) (hN : 40 ≤ N) : FOk fs N := fun f hf => ⟨Nat.le_trans (h f hf).1 hN, Nat.le_trans (h f hf).2 hN⟩

set_option maxRecDepth 100000 in
set_option maxHeartbeats 3200000 in
theorem law_hedtwo (a : Option Addr) (len cap : Nat) (zs : List Int) (w : World) (ha : IsRow .u8 w a len cap zs) (p : Option Addr) (plen pcap : Nat) (ys : List Int) (hp : IsRow .u8 w p plen pcap ys) (hcls : Cls w) (htab : Tab w) (herr : Errs w) :
    Calls Tryz.prog 7 #[.slice a len cap, .slice p plen pcap] w fun e w' => e = .returned (.bool true) ∧ Below w.heap.size w w' := by
  have hl := isrow_len ha
  have hl2 := isrow_len hp
  have hbigs : (1048576 < len ∨ 1048576 < plen) ∨ (len ≤ 1048576 ∧ plen ≤ 1048576) := by omega
  rcases hbigs with hbig | ⟨hb1, hb2⟩
  · clear hcls ha hp htab herr
    rcases hbig with hbig | hbig
    · go_enter Tryz.func7, Tryz.ntmps7
      go_wp2_with fail
      go_ret
      exact ⟨rfl, Below.refl _ _⟩
    · go_enter Tryz.func7, Tryz.ntmps7
      go_wp2_with fail
      all_goals (go_ret; exact ⟨rfl, Below.refl _ _⟩)
  have c1 := draw_hw a len cap zs w ha
  have c2 := fun W (hW : Below w.heap.size w W) => draw_hw p plen pcap ys W (isrow_below hp hW)
  have HC2 := Lib.hid c2
  clear ha hp c2
  have HX : Hid (∀ W, Below w.heap.size w W → Cls W ∧ Tab W ∧ Errs W) := Lib.hid fun W hW => ⟨hcls.below hW (Nat.le_refl _), htab.below hW (Nat.le_refl _), herr.below hW (Nat.le_refl _)⟩
  clear hcls htab herr
  go_enter Tryz.func7, Tryz.ntmps7
  go_wp2_with fail
  refine c1.mono ?_
  rintro e w1 ⟨g, ga, gc, rfl, go1, gok, gb1, gb2, gb3, gb4, gn, hb1'⟩
  clear c1
  obtain ⟨w2, hw2⟩ : ∃ w2, w2 = w1.alloc (.cells #[.string g.verb, .string g.target, .string g.host, .slice ga g.fs.length gc, .string g.body] 25) := ⟨_, rfl⟩
  have hs2 : w2.heap.size = w1.heap.size + 1 := by rw [hw2]; simp
  have hb12 : Below w1.heap.size w1 w2 := by rw [hw2]; exact (Below.refl _ _).alloc (Nat.le_refl _) _
  have hG2 : w2.heap[w1.heap.size]? = some (.cells #[.string g.verb, .string g.target, .string g.host, .slice ga g.fs.length gc, .string g.body] 25 (0, 0)) := by rw [hw2]; exact heap_alloc_new w1 _
  have hb02 := hb1'.trans (hb12.mono hb1'.size)
  have gr2 := frow_own' (own_below go1 hb12)
  have hs1 := hb1'.size
  have c2 := HC2.out w2 hb02
  have HW2 := Lib.hid hw2
  clear hw2 hb12 hb1' go1 HC2
  go_wp2_with fail
  rw [← HW2.out]
  refine c2.mono ?_
  rintro e w3 ⟨h, ha', hc', rfl, ho3, hok, q1, q2, q3, q4, hn, hb3⟩
  obtain ⟨w4, hw4⟩ : ∃ w4, w4 = w3.alloc (.cells #[.string h.verb, .string h.target, .string h.host, .slice ha' h.fs.length hc', .string h.body] 25) := ⟨_, rfl⟩
  have hs3 := hb3.size
  have hs4 : w4.heap.size = w3.heap.size + 1 := by rw [hw4]; simp
  have hb34 : Below w3.heap.size w3 w4 := by rw [hw4]; exact (Below.refl _ _).alloc (Nat.le_refl _) _
  have hH4 : w4.heap[w3.heap.size]? = some (.cells #[.string h.verb, .string h.target, .string h.host, .slice ha' h.fs.length hc', .string h.body] 25 (0, 0)) := by rw [hw4]; exact heap_alloc_new w3 _
  have hb24 := hb3.trans (hb34.mono hs3)
  have hb04 := hb02.trans (hb24.mono hb02.size)
  have hG4 := (hb24.block w1.heap.size (by omega)).trans hG2
  have gr4 := gr2.below (Nat.le_refl _) hb24
  have hr4 := frow_own' (own_below ho3 hb34)
  have hall : ∀ W, Below w4.heap.size w4 W → Below w.heap.size w W ∧ FRow W (.slice ga g.fs.length gc) g.fs ∧ FRow W (.slice ha' h.fs.length hc') h.fs ∧ Cls W ∧ Tab W ∧ Errs W ∧
      W.heap[w1.heap.size]? = some (.cells #[.string g.verb, .string g.target, .string g.host, .slice ga g.fs.length gc, .string g.body] 25 (0, 0)) ∧ W.heap[w3.heap.size]? = some (.cells #[.string h.verb, .string h.target, .string h.host, .slice ha' h.fs.length hc', .string h.body] 25 (0, 0)) := fun W hW => by
    have h0 := hb04.trans (hW.mono hb04.size)
    obtain ⟨k1, k2, k3⟩ := HX.out W h0
    exact ⟨h0, gr4.below (Nat.le_refl _) hW, hr4.below (Nat.le_refl _) hW, k1, k2, k3, (hW.block w1.heap.size (by omega)).trans hG4, (hW.block w3.heap.size (by omega)).trans hH4⟩
  have HA := Lib.hid hall
  obtain ⟨_, fg, fh, k1, k2, k3, _, _⟩ := hall w4 (Below.refl _ _)
  have iG := impl_hedwrite g _ w4 fg (fok_big gok _ (by decide)) (by omega) (by omega) (by omega) (by omega) k1 k2
  obtain ⟨S, hS⟩ : ∃ S : ByteArray, S = if hedB g = true then ⟨(hedT g).toArray⟩ else ⟨#[]⟩ := ⟨_, rfl⟩
  rw [← hS] at iG
  have HS := Lib.hid hS
  clear hS
  obtain ⟨x0, x1, x2, x3, x4, _⟩ := five_facts hG4
  rw [hw4] at x0 x1 x2 x3 x4
  have HW4 := Lib.hid hw4
  clear hw4 hb34 hH4 hb24 hb04 hG4 gr4 hr4 hall fg fh k1 k2 k3 gr2 hG2 hb02 hb3 ho3 c2
  go_wp2_with fail
  rw [← HW4.out]
  refine iG.mono ?_
  rintro e w5 ⟨rfl, hb5⟩
  obtain ⟨_, fg, fh, k1, k2, k3, xg, xh⟩ := HA.out w5 hb5
  have iH := impl_hedwrite h _ w5 fh (fok_big hok _ (by decide)) (by omega) (by omega) (by omega) (by omega) k1 k2
  obtain ⟨T, hT⟩ : ∃ T : ByteArray, T = if hedB h = true then ⟨(hedT h).toArray⟩ else ⟨#[]⟩ := ⟨_, rfl⟩
  rw [← hT] at iH
  have HT := Lib.hid hT
  clear hT
  obtain ⟨x0, x1, x2, x3, x4, _⟩ := five_facts xh
  have HB5 := Lib.hid hb5
  clear iG fg fh k1 k2 k3 xg xh hb5
  go_wp2_with fail
  refine iH.mono ?_
  rintro e w6 ⟨rfl, hb6⟩
  have hb46 := HB5.out.trans (hb6.mono HB5.out.size)
  clear iH hb6 x0 x1 x2 x3 x4 HB5
  obtain ⟨_, fg, fh, k1, k2, k3, xg, xh⟩ := HA.out w6 hb46
  have hlenT : ∀ k : Hd, hedB k = true → k.body.size ≤ 50 → (hedT k).length ≤ 400 ∧ 0 < (hedT k).length := fun k hk hb => by
    have hlen := (hedB_iff.1 hk).len
    have hTT : (hedT k).length = (headT k).length + k.body.data.toList.length := by simp [hedT]
    have hT : (headT k).length = (joinL (hedLines k)).length + 1 := by simp [headT]
    rw [size_len] at hb
    omega
  by_cases hboth : hedB g = true ∧ hedB h = true
  · obtain ⟨hg, hh⟩ := hboth
    obtain ⟨lg1, lg2⟩ := hlenT g hg gb4
    obtain ⟨lh1, lh2⟩ := hlenT h hh q4
    have eS := HS.out
    have eT := HT.out
    rw [if_pos hg] at eS
    rw [if_pos hh] at eT
    have zS : S.size = (hedT g).length := by rw [eS, size_len]
    have zT : T.size = (hedT h).length := by rw [eT, size_len]
    have r1 := read_write hg (hedT h)
    have r2 := read_write hh []
    rw [List.append_nil] at r2
    have dST : (S ++ T).data.toList = hedT g ++ hedT h := by rw [eS, eT]; simp
    have dT : ((S ++ T).extract S.size (S ++ T).size).data.toList = hedT h := by
      rw [ext_drop]
      show (((S ++ T).data.toList.drop S.size).toArray).toList = _
      rw [List.toList_toArray, dST, zS, List.drop_left]
    have n1 : (S.toList == []) = false := by
      rw [Lib.toList_data]
      have : S.data.toList ≠ [] := fun e => by rw [size_len, e] at zS; simp only [List.length_nil] at zS; omega
      simpa using this
    have n2 : (T.toList == []) = false := by
      rw [Lib.toList_data]
      have : T.data.toList ≠ [] := fun e => by rw [size_len, e] at zT; simp only [List.length_nil] at zT; omega
      simpa using this
    have zST : (S ++ T).size = S.size + T.size := ByteArray.size_append
    have iR := impl_hedread (S ++ T) w6 (by omega) k1 k2 k3
    rw [dST, r1] at iR
    have iR2 := fun W b1 b2 b3 => impl_hedread ((S ++ T).extract S.size (S ++ T).size) W (by rw [ext_size]; omega) b1 b2 b3
    rw [dT, r2] at iR2
    rw [zST] at iR2
    unfold ReadPost at iR iR2
    dsimp only at iR iR2
    rw [← zS] at iR
    rw [← zT] at iR2
    have HR2 := Lib.hid iR2
    have hS9 : S.size ≤ 400 := by omega
    have hT9 : T.size ≤ 400 := by omega
    have hs6 := hb46.size
    have HZ := Lib.hid (And.intro zS (And.intro zT (And.intro zST (And.intro dST (And.intro dT hb46)))))
    clear r1 r2 dST dT zS zT zST eS eT iR2 hb46 fg fh k1 k2 k3 xg xh hlenT lg1 lg2 lh1 lh2 HS HT hg hh
    go_wp2_with fail
    refine iR.mono ?_
    rintro e w7 ⟨⟨v7, rfl, o7⟩, hb7⟩
    obtain ⟨a7, c7, rfl⟩ := own_len2 o7
    obtain ⟨w8, hw8⟩ : ∃ w8, w8 = w7.alloc (.cells #[.string g.verb, .string g.target, .string g.host, .slice a7 g.fs.length c7, .string g.body] 25) := ⟨_, rfl⟩
    have hs7 := hb7.size
    have hs8 : w8.heap.size = w7.heap.size + 1 := by rw [hw8]; simp
    have hb78 : Below w7.heap.size w7 w8 := by rw [hw8]; exact (Below.refl _ _).alloc (Nat.le_refl _) _
    have hx8 : w8.heap[w7.heap.size]? = some (.cells #[.string g.verb, .string g.target, .string g.host, .slice a7 g.fs.length c7, .string g.body] 25 (0, 0)) := by rw [hw8]; exact heap_alloc_new w7 _
    have hb48 := HZ.out.2.2.2.2.2.trans ((hb7.trans (hb78.mono hs7)).mono hs6)
    obtain ⟨_, fg, _, _, _, _, xg, _⟩ := HA.out w8 hb48
    have iE := gd_head g _ _ w8 (frow_own' (own_below o7 hb78)) fg (by omega)
    unfold headV at iE
    obtain ⟨x0, x1, x2, x3, x4, _⟩ := five_facts xg
    obtain ⟨y0, y1, y2, y3, y4, _⟩ := five_facts hx8
    rw [hw8] at x0 x1 x2 x3 x4 y0 y1 y2 y3 y4
    have HW8 := Lib.hid hw8
    have HB8 := Lib.hid hb48
    have hs48 := hb48.size
    clear iR hb7 o7 hw8 hb78 hx8 hb48 fg xg
    go_wp2_with fail
    rw [← HW8.out]
    refine iE.mono ?_
    rintro e w9 ⟨rfl, hb9⟩
    have hb49 := HB8.out.trans (hb9.mono hs48)
    obtain ⟨_, _, _, k1, k2, k3, _, _⟩ := HA.out w9 hb49
    have iR2 := HR2.out w9 k1 k2 k3
    have hs9 := hb9.size
    have HB9 := Lib.hid hb49
    clear iE x0 x1 x2 x3 x4 y0 y1 y2 y3 y4 hb9 hb49 k1 k2 k3
    go_wp2_with fail
    refine iR2.mono ?_
    rintro e w10 ⟨⟨v10, rfl, o10⟩, hb10⟩
    obtain ⟨a10, c10, rfl⟩ := own_len2 o10
    obtain ⟨w11, hw11⟩ : ∃ w11, w11 = w10.alloc (.cells #[.string h.verb, .string h.target, .string h.host, .slice a10 h.fs.length c10, .string h.body] 25) := ⟨_, rfl⟩
    have hs10 := hb10.size
    have hs11 : w11.heap.size = w10.heap.size + 1 := by rw [hw11]; simp
    have hb1011 : Below w10.heap.size w10 w11 := by rw [hw11]; exact (Below.refl _ _).alloc (Nat.le_refl _) _
    have hx11 : w11.heap[w10.heap.size]? = some (.cells #[.string h.verb, .string h.target, .string h.host, .slice a10 h.fs.length c10, .string h.body] 25 (0, 0)) := by rw [hw11]; exact heap_alloc_new w10 _
    have hb411 := HB9.out.trans ((hb10.trans (hb1011.mono hs10)).mono (by omega))
    obtain ⟨_, _, fh, _, _, _, _, xh⟩ := HA.out w11 hb411
    have iE := gd_head h _ _ w11 (frow_own' (own_below o10 hb1011)) fh (by omega)
    unfold headV at iE
    obtain ⟨x0, x1, x2, x3, x4, _⟩ := five_facts xh
    obtain ⟨y0, y1, y2, y3, y4, _⟩ := five_facts hx11
    rw [hw11] at x0 x1 x2 x3 x4 y0 y1 y2 y3 y4
    have HW11 := Lib.hid hw11
    have HB11 := Lib.hid hb411
    have hs411 := hb411.size
    clear iR2 hb10 o10 hw11 hb1011 hx11 hb411 fh xh
    go_wp2_with fail
    rw [← HW11.out]
    refine iE.mono ?_
    rintro e w12 ⟨rfl, hb12⟩
    have hfin := (HA.out w12 (HB11.out.trans (hb12.mono hs411))).1
    clear iE x0 x1 x2 x3 x4 y0 y1 y2 y3 y4 hb12
    go_wp2
    go_ret
    exact ⟨rfl, hfin⟩
  · have fin : ∀ W, Below w4.heap.size w4 W → Below w.heap.size w W ∧ Calls Tryz.prog 17 #[] W fun e w' => e = .returned (.bool true) ∧ W = w' := fun W hW => by
      obtain ⟨h0, _, _, k1, _⟩ := HA.out W hW
      exact ⟨h0, gd_ok W k1⟩
    have HF := Lib.hid fin
    clear fin
    by_cases hg : hedB g = true
    · have hh : hedB h = false := by
        rw [Bool.eq_false_iff]; exact fun e => hboth ⟨hg, e⟩
      obtain ⟨lg1, lg2⟩ := hlenT g hg gb4
      have eS := HS.out
      have eT := HT.out
      rw [if_pos hg] at eS
      rw [hh, if_neg (by decide)] at eT
      have n1 : (S.toList == []) = false := by
        rw [Lib.toList_data]
        have : S.data.toList ≠ [] := fun e => by
          have h2 : (hedT g) = [] := by rw [eS] at e; simpa using e
          rw [h2] at lg2; simp at lg2
        simpa using this
      have n2 : (T.toList == []) = true := by rw [eT, Lib.toList_data]; rfl
      have oG := spec_hedok g _ w6 fg (by omega) (fok_big gok _ (by decide)) (by omega) (by omega) (by omega) (by omega)
      rw [hg] at oG
      have oH := fun W (hW : FRow W (.slice ha' h.fs.length hc') h.fs) => spec_hedok h _ W hW (by omega) (fok_big hok _ (by decide)) (by omega) (by omega) (by omega) (by omega)
      rw [hh] at oH
      obtain ⟨x0, x1, x2, x3, x4, _⟩ := five_facts xg
      have HB6 := Lib.hid hb46
      clear eS eT HS HT hlenT lg1 lg2 hboth hg hh fg fh k1 k2 k3 xg xh hb46
      go_wp2_with fail
      refine oG.mono ?_
      rintro e w7 ⟨rfl, hb7⟩
      have hb47 := HB6.out.trans (hb7.mono HB6.out.size)
      obtain ⟨_, _, fh, _, _, _, _, xh⟩ := HA.out w7 hb47
      have oH2 := oH w7 fh
      clear x0 x1 x2 x3 x4 oG oH hb7
      obtain ⟨x0, x1, x2, x3, x4, _⟩ := five_facts xh
      have HB7 := Lib.hid hb47
      clear xh fh hb47
      go_wp2_with fail
      refine oH2.mono ?_
      rintro e w8 ⟨rfl, hb8⟩
      obtain ⟨_, hG⟩ := HF.out w8 (HB7.out.trans (hb8.mono HB7.out.size))
      have hfin := (HF.out w8 (HB7.out.trans (hb8.mono HB7.out.size))).1
      clear x0 x1 x2 x3 x4 oH2 hb8
      go_wp2_with fail
      refine hG.mono ?_
      rintro e w9 ⟨rfl, rfl⟩
      clear hG
      go_wp2
      go_ret
      exact ⟨rfl, hfin⟩
    · have hg' : hedB g = false := by simpa using hg
      have eS := HS.out
      rw [hg', if_neg (by decide)] at eS
      have n1 : (S.toList == []) = true := by rw [eS, Lib.toList_data]; rfl
      have oG := spec_hedok g _ w6 fg (by omega) (fok_big gok _ (by decide)) (by omega) (by omega) (by omega) (by omega)
      rw [hg'] at oG
      obtain ⟨x0, x1, x2, x3, x4, _⟩ := five_facts xg
      have HB6 := Lib.hid hb46
      clear eS HS HT hlenT hboth hg hg' fg fh k1 k2 k3 xg xh hb46
      go_wp2_with fail
      refine oG.mono ?_
      rintro e w7 ⟨rfl, hb7⟩
      obtain ⟨_, hG⟩ := HF.out w7 (HB6.out.trans (hb7.mono HB6.out.size))
      have hfin := (HF.out w7 (HB6.out.trans (hb7.mono HB6.out.size))).1
      clear x0 x1 x2 x3 x4 oG hb7
      go_wp2_with fail
      refine hG.mono ?_
      rintro e w8 ⟨rfl, rfl⟩
      clear hG
      go_wp2
      go_ret
      exact ⟨rfl, hfin⟩
namespace Lw
theorem fnHedTwo (w : World) (hL : laidMetH Tryz.prog Rows.fnHedTwoRow.laid w) (a : Option Addr) (len cap : Nat) (zs : List Int) (h : IsRow .u8 w a len cap zs) (p : Option Addr) (plen pcap : Nat) (ys : List Int) (h' : IsRow .u8 w p plen pcap ys) :
    Calls Tryz.prog 7 #[.slice a len cap, .slice p plen pcap] w fun e w' => e = .returned (.bool true) ∧ Below w.heap.size w w' := by
  have hL' : laidMet Tryz.prog Rows.fnHedTwoRow.laid w := hL
  exact law_hedtwo a len cap zs w h p plen pcap ys h' (cls_of_head hL'.tail.tail.tail.tail.tail.tail) (tab_of_head hL'.tail.tail) (errs_of_heads hL'.tail.tail.tail.tail)
end Lw
end Go.Proofs.YtfiggbhmpeffmaaGreatDoor

