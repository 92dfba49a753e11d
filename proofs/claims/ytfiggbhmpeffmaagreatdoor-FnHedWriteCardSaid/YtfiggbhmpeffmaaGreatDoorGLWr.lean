import Derived.Test.YtfiggbhmpeffmaaGreatDoorGDrW
import Derived.Test.YtfiggbhmpeffmaaGreatDoorGDrR
import Derived.Test.YtfiggbhmpeffmaaGreatDoorGGdH
import Derived.Test.YtfiggbhmpeffmaaGreatDoorGLr
import Derived.Test.YtfiggbhmpeffmaaGreatDoorGimp
import Derived.Test.YtfiggbhmpeffmaaGreatDoorLaidN
-- from XLWr
/- The law on a request's text, over drawn inputs. -/
namespace Go.Proofs.YtfiggbhmpeffmaaGreatDoor
open Go.RowKit Go.Maps

set_option maxRecDepth 100000 in
set_option maxHeartbeats 3200000 in
theorem law_hedwrite (a : Option Addr) (len cap : Nat) (zs : List Int) (w : World) (ha : IsRow .u8 w a len cap zs) (p : Option Addr) (plen pcap : Nat) (ys : List Int) (hp : IsRow .u8 w p plen pcap ys) (hcls : Cls w) (htab : Tab w) (herr : Errs w) :
    Calls Tryz.prog 3 #[.slice a len cap, .slice p plen pcap] w fun e w' => e = .returned (.bool true) ∧ Below w.heap.size w w' := by
  have hl := isrow_len ha
  have hl2 := isrow_len hp
  have hbigs : (1048576 < len ∨ 1048576 < plen) ∨ (len ≤ 1048576 ∧ plen ≤ 1048576) := by omega
  rcases hbigs with hbig | ⟨hb1, hb2⟩
  · clear hcls ha hp htab herr
    rcases hbig with hbig | hbig
    · go_enter Tryz.func3, Tryz.ntmps3
      go_wp2_with fail
      go_ret
      exact ⟨rfl, Below.refl _ _⟩
    · go_enter Tryz.func3, Tryz.ntmps3
      go_wp2_with fail
      all_goals (go_ret; exact ⟨rfl, Below.refl _ _⟩)
  have c1 := draw_hw a len cap zs w ha
  have c2 := fun W (hW : Below w.heap.size w W) => draw_hr p plen pcap ys W (isrow_below hp hW)
  have HC2 := Lib.hid c2
  clear ha hp c2
  have HX : Hid (∀ W, Below w.heap.size w W → Cls W ∧ Tab W ∧ Errs W) := Lib.hid fun W hW => ⟨hcls.below hW (Nat.le_refl _), htab.below hW (Nat.le_refl _), herr.below hW (Nat.le_refl _)⟩
  clear hcls htab herr
  go_enter Tryz.func3, Tryz.ntmps3
  go_wp2_with fail
  refine c1.mono ?_
  rintro e w1 ⟨h, a', c', rfl, ho1, hok, b1, b2, b3, b4, hn, hb1'⟩
  clear c1
  obtain ⟨w2, hw2⟩ : ∃ w2, w2 = w1.alloc (.cells #[.string h.verb, .string h.target, .string h.host, .slice a' h.fs.length c', .string h.body] 25) := ⟨_, rfl⟩
  have hs2 : w2.heap.size = w1.heap.size + 1 := by rw [hw2]; simp
  have hb12 : Below w1.heap.size w1 w2 := by rw [hw2]; exact (Below.refl _ _).alloc (Nat.le_refl _) _
  have hG2 : w2.heap[w1.heap.size]? = some (.cells #[.string h.verb, .string h.target, .string h.host, .slice a' h.fs.length c', .string h.body] 25 (0, 0)) := by rw [hw2]; exact heap_alloc_new w1 _
  have hb02 := hb1'.trans (hb12.mono hb1'.size)
  have hs1 := hb1'.size
  have gr2 := frow_own' (own_below ho1 hb12)
  have hall : ∀ W, Below w2.heap.size w2 W → Below w.heap.size w W ∧ FRow W (.slice a' h.fs.length c') h.fs ∧ Cls W ∧ Tab W ∧ Errs W ∧ W.heap[w1.heap.size]? = some (.cells #[.string h.verb, .string h.target, .string h.host, .slice a' h.fs.length c', .string h.body] 25 (0, 0)) := fun W hW => by
    have h0 := hb02.trans (hW.mono hb02.size)
    obtain ⟨k1, k2, k3⟩ := HX.out W h0
    exact ⟨h0, gr2.below (Nat.le_refl _) hW, k1, k2, k3, (hW.block w1.heap.size (by omega)).trans hG2⟩
  have HA := Lib.hid hall
  have c2 := HC2.out w2 hb02
  have HW2 := Lib.hid hw2
  have hd1 := hok
  have o1 := fok_mono hok (show 40 ≤ 281474976710656 by decide)
  have o2 := fok_mono hok (show 40 ≤ 2000000 by decide)
  obtain ⟨k1, k2, k3, k4, ok, hOk⟩ : h.verb.size ≤ 1048576 ∧ h.target.size ≤ 1048576 ∧ h.host.size ≤ 1048576 ∧ h.body.size ≤ 1048576 ∧ ∃ ok, ok = hedB h := ⟨by omega, by omega, by omega, by omega, _, rfl⟩
  have hn2 : h.fs.length ≤ 2000000 := by omega
  obtain ⟨S, hS⟩ : ∃ S : ByteArray, S = if hedB h = true then ⟨(hedT h).toArray⟩ else ⟨#[]⟩ := ⟨_, rfl⟩
  have iW : ∀ W, Below w2.heap.size w2 W → Calls Tryz.prog 13 #[.agg #[.string h.verb, .string h.target, .string h.host, .slice a' h.fs.length c', .string h.body]] W fun e w' => e = .returned (.string S) ∧ Below W.heap.size W w' := fun W hW => by
    obtain ⟨_, f, q1, q2, _, _⟩ := hall W hW
    rw [hS]; exact impl_hedwrite h _ W f o1 k1 k2 k3 k4 q1 q2
  have sW : ∀ W, Below w2.heap.size w2 W → Calls Tryz.prog 14 #[.agg #[.string h.verb, .string h.target, .string h.host, .slice a' h.fs.length c', .string h.body]] W fun e w' => e = .returned (.string S) ∧ Below W.heap.size W w' := fun W hW => by
    obtain ⟨_, f, q1, q2, _, _⟩ := hall W hW
    rw [hS]; exact spec_hedwrite h _ W f hn2 o2 k1 k2 k3 k4
  have iO : ∀ W, Below w2.heap.size w2 W → Calls Tryz.prog 15 #[.agg #[.string h.verb, .string h.target, .string h.host, .slice a' h.fs.length c', .string h.body]] W fun e w' => e = .returned (.bool ok) ∧ Below W.heap.size W w' := fun W hW => by
    obtain ⟨_, f, q1, q2, _, _⟩ := hall W hW
    rw [hOk]; exact impl_hedok h _ W f o1 k1 k2 k3 k4 q1 q2
  have sO : ∀ W, Below w2.heap.size w2 W → Calls Tryz.prog 16 #[.agg #[.string h.verb, .string h.target, .string h.host, .slice a' h.fs.length c', .string h.body]] W fun e w' => e = .returned (.bool ok) ∧ Below W.heap.size W w' := fun W hW => by
    obtain ⟨_, f, q1, q2, _, _⟩ := hall W hW
    rw [hOk]; exact spec_hedok h _ W f hn2 o2 k1 k2 k3 k4
  have HIW := Lib.hid iW; have HSW := Lib.hid sW; have HIO := Lib.hid iO; have HSO := Lib.hid sO
  have HS := Lib.hid hS; have HOk := Lib.hid hOk
  obtain ⟨x0, x1, x2, x3, x4, _⟩ := five_facts hG2
  rw [hw2] at x0 x1 x2 x3 x4
  clear iW sW iO sO hS hOk hw2 hb12 hG2 hb02 gr2 hall hok o1 o2 k1 k2 k3 k4 HX HC2 ho1 hb1'
  go_wp2_with fail
  rw [← HW2.out]
  refine c2.mono ?_
  rintro e w3 ⟨T, rfl, hT, hb3⟩
  obtain ⟨x0, x1, x2, x3, x4, _⟩ := five_facts (HA.out w3 hb3).2.2.2.2.2
  have c3 := HIW.out w3 hb3
  have HB3 := Lib.hid hb3
  clear c2 hb3 x0 x1 x2 x3 x4
  obtain ⟨x0, x1, x2, x3, x4, _⟩ := five_facts (HA.out w3 HB3.out).2.2.2.2.2
  go_wp2_with fail
  refine c3.mono ?_
  rintro e w4 ⟨rfl, hb4⟩
  have hb24 := HB3.out.trans (hb4.mono HB3.out.size)
  clear c3 hb4 x0 x1 x2 x3 x4 HB3
  go_wp2_with fail
  refine wp_region_last (by kernel_rfl) 10 (by kernel_rfl) (by kernel_rfl) (by kernel_rfl)
    (fun u => { tmps := #[.slice a len cap, .slice p plen pcap, undef, undef, .bool false, .pointer (some ⟨w1.heap.size, 0, none⟩), .string T, .string S, undef, undef, undef, undef, undef, undef, .slice a len cap, .int .i64 (len : Int), .bool (decide ((1048576 : Int) < (len : Int))), .bool (decide ((1048576 : Int) < (len : Int))), .slice p plen pcap, .int .i64 (plen : Int), .bool (decide ((1048576 : Int) < (plen : Int))), .bool (decide ((1048576 : Int) < (len : Int)) || decide ((1048576 : Int) < (plen : Int))), .slice a len cap, .agg #[.string h.verb, .string h.target, .string h.host, .slice a' h.fs.length c', .string h.body], .slice p plen pcap, .string T, .agg #[.string h.verb, .string h.target, .string h.host, .slice a' h.fs.length c', .string h.body], .string S, u 0, u 1, u 2, u 3, u 4, u 5, u 6, u 7, u 8, u 9, u 10, undef, undef, undef, undef, undef, undef, undef, undef, undef, undef, undef, undef, undef, undef, undef, undef, undef, undef, undef, undef, undef, undef, undef, undef, undef, undef, undef, undef, undef, undef, undef, undef, undef, undef, undef, undef, undef, undef, undef, undef, undef, undef, undef, undef, undef, undef, undef, undef, undef], defers := [] })
    (fun _ W => Below w2.heap.size w2 W)
    (RAt [REq (.string S), REq (.agg #[.string h.verb, .string h.target, .string h.host, .slice a' h.fs.length c', .string h.body]), REq (.string S), REq (.bool false), REq (.bool false), REq (.agg #[.string h.verb, .string h.target, .string h.host, .slice a' h.fs.length c', .string h.body]), REq (.bool ok), REq (.agg #[.string h.verb, .string h.target, .string h.host, .slice a' h.fs.length c', .string h.body]), REq (.bool ok), REq (.bool false)])
    (fun _ _ => True) (fun _ => undef) hb24.drew
    (fun i v w w' hi hR _ => blind_at (by intro R hR; simp only [List.mem_cons, List.not_mem_nil, or_false] at hR; rcases hR with rfl | rfl | rfl | rfl | rfl | rfl | rfl | rfl | rfl | rfl <;> exact blind_eq _) hR) ?_ ?_
  · intro i hi u w5 k hk hC hd
    match i, hi with
      | 0, _ =>
        refine wpOp_step rfl (fun K hK => ?_)
        clear hd
        go_simp
        exact hK _ _ ⟨_, rfl, rfl, trivial, hC⟩
      | 1, _ =>
        obtain ⟨x0, x1, x2, x3, x4, _⟩ := five_facts (HA.out w5 hC).2.2.2.2.2
        refine wpOp_step rfl (fun K hK => ?_)
        clear hd
        go_simp
        exact hK _ _ ⟨_, rfl, rfl, trivial, hC⟩
      | 2, _ =>
        have c := HSW.out w5 hC
        have e1 : u 1 = .agg #[.string h.verb, .string h.target, .string h.host, .slice a' h.fs.length c', .string h.body] := hd 1 (dep_of (by kernel_rfl))
        refine wpOp_step rfl (fun K hK => ?_)
        clear hd
        go_simp
        refine c.mono ?_
        rintro e w6 ⟨rfl, hb6⟩
        exact hK _ _ ⟨_, by simp [upd, e1], rfl, trivial, hC.trans (hb6.mono hC.size)⟩
      | 3, _ =>
        have e0 : u 0 = .string S := hd 0 (dep_of (by kernel_rfl))
        have e2 : u 2 = .string S := hd 2 (dep_of (by kernel_rfl))
        have er : (S.toList != S.toList) = false := by simp
        refine wpOp_step rfl (fun K hK => ?_)
        clear hd
        go_simp
        exact hK _ _ ⟨_, by simp [upd, e0, e2], rfl, trivial, hC⟩
      | 4, _ =>
        have e3 : u 3 = .bool false := hd 3 (dep_of (by kernel_rfl))
        refine wpOp_step rfl (fun K hK => ?_)
        clear hd
        go_simp
        exact hK _ _ ⟨_, by simp [upd, e3], rfl, trivial, hC⟩
      | 5, _ =>
        obtain ⟨x0, x1, x2, x3, x4, _⟩ := five_facts (HA.out w5 hC).2.2.2.2.2
        have e4 : u 4 = .bool false := hd 4 (dep_of (by kernel_rfl))
        refine wpOp_step rfl (fun K hK => ?_)
        clear hd
        go_simp
        exact hK _ _ ⟨_, by simp [upd, e4], rfl, trivial, hC⟩
      | 6, _ =>
        have c := HIO.out w5 hC
        have e5 : u 5 = .agg #[.string h.verb, .string h.target, .string h.host, .slice a' h.fs.length c', .string h.body] := hd 5 (dep_of (by kernel_rfl))
        have e4 : u 4 = .bool false := hd 4 (dep_of (by kernel_rfl))
        refine wpOp_step rfl (fun K hK => ?_)
        clear hd
        go_simp
        refine c.mono ?_
        rintro e w6 ⟨rfl, hb6⟩
        exact hK _ _ ⟨_, by simp [upd, e5, e4], rfl, trivial, hC.trans (hb6.mono hC.size)⟩
      | 7, _ =>
        obtain ⟨x0, x1, x2, x3, x4, _⟩ := five_facts (HA.out w5 hC).2.2.2.2.2
        have e4 : u 4 = .bool false := hd 4 (dep_of (by kernel_rfl))
        refine wpOp_step rfl (fun K hK => ?_)
        clear hd
        go_simp
        exact hK _ _ ⟨_, by simp [upd, e4], rfl, trivial, hC⟩
      | 8, _ =>
        have c := HSO.out w5 hC
        have e7 : u 7 = .agg #[.string h.verb, .string h.target, .string h.host, .slice a' h.fs.length c', .string h.body] := hd 7 (dep_of (by kernel_rfl))
        have e4 : u 4 = .bool false := hd 4 (dep_of (by kernel_rfl))
        refine wpOp_step rfl (fun K hK => ?_)
        clear hd
        go_simp
        refine c.mono ?_
        rintro e w6 ⟨rfl, hb6⟩
        exact hK _ _ ⟨_, by simp [upd, e7, e4], rfl, trivial, hC.trans (hb6.mono hC.size)⟩
      | 9, _ =>
        have e4 : u 4 = .bool false := hd 4 (dep_of (by kernel_rfl))
        have e6 : u 6 = .bool ok := hd 6 (dep_of (by kernel_rfl))
        have e8 : u 8 = .bool ok := hd 8 (dep_of (by kernel_rfl))
        have er : (ok != ok) = false := by simp
        refine wpOp_step rfl (fun K hK => ?_)
        clear hd
        go_simp
        exact hK _ _ ⟨_, by simp [upd, e4, e6, e8], rfl, trivial, hC⟩
  · intro u w5 k hk hC hd
    have e4 : u 4 = .bool false := hd 4 (by decide)
    have e9 : u 9 = .bool false := hd 9 (by decide)
    refine wpOp_step rfl (fun K hK => ?_)
    clear hd
    go_simp
    refine hK _ _ ?_
    clear hK K e4 e9 hb24
    have c5 := HSO.out w5 hC
    obtain ⟨x0, x1, x2, x3, x4, _⟩ := five_facts (HA.out w5 hC).2.2.2.2.2
    have HB5 := Lib.hid hC
    have hs5 := hC.size
    clear hC
    cases ok
    · have hh : hedB h = false := HOk.out.symm
      have eS := HS.out
      rw [hh, if_neg (by decide)] at eS
      have n1 : (S.toList == []) = true := by rw [eS, Lib.toList_data]; rfl
      clear eS hh HS HOk
      go_wp2_with fail
      refine c5.mono ?_
      rintro e w6 ⟨rfl, hb6⟩
      have hb26 := HB5.out.trans (hb6.mono hs5)
      obtain ⟨hfin, _, q1, _, _, _⟩ := HA.out w6 hb26
      have hG := gd_ok w6 q1
      clear c5 x0 x1 x2 x3 x4 hb6 hb26 q1
      go_wp2_with fail
      refine hG.mono ?_
      rintro e w7 ⟨rfl, rfl⟩
      clear hG
      go_wp2
      go_ret
      exact ⟨rfl, hfin⟩
    · have hh : hedB h = true := HOk.out.symm
      have eS := HS.out
      rw [if_pos hh] at eS
      have zS : S.size = (hedT h).length := by rw [eS, size_len]
      have zle : S.size ≤ 320 := by rw [eS]; exact hedt_small h hh
      have r1 := read_write hh []
      rw [List.append_nil] at r1
      have r2 := read_write hh T.data.toList
      have dS : S.data.toList = hedT h := by rw [eS]
      have dST : (S ++ T).data.toList = hedT h ++ T.data.toList := by rw [eS]; simp
      have zST : (S ++ T).size = S.size + T.size := ByteArray.size_append
      have iR : ∀ W, Below w2.heap.size w2 W → Calls Tryz.prog 18 #[.string S] W fun e w' => (∃ v, e = .returned (.tuple #[.agg #[.string h.verb, .string h.target, .string h.host, v, .string h.body], .int .i64 (S.size : Nat), .int .i64 1]) ∧ w'.ownsRow W.heap.size 58 2 v h.fs.length (fcells h.fs)) ∧ Below W.heap.size W w' := fun W hW => by
        obtain ⟨_, _, q1, q2, q3, _⟩ := HA.out W hW
        have c := impl_hedread S W (by omega) q1 q2 q3
        rw [dS, r1] at c
        unfold ReadPost at c
        dsimp only at c
        rw [← zS] at c
        exact c
      have iR2 : ∀ W, Below w2.heap.size w2 W → Calls Tryz.prog 18 #[.string (S ++ T)] W fun e w' => (∃ v, e = .returned (.tuple #[.agg #[.string h.verb, .string h.target, .string h.host, v, .string h.body], .int .i64 (S.size : Nat), .int .i64 1]) ∧ w'.ownsRow W.heap.size 58 2 v h.fs.length (fcells h.fs)) ∧ Below W.heap.size W w' := fun W hW => by
        obtain ⟨_, _, q1, q2, q3, _⟩ := HA.out W hW
        have c := impl_hedread (S ++ T) W (by omega) q1 q2 q3
        rw [dST, r2] at c
        unfold ReadPost at c
        dsimp only at c
        rw [← zS] at c
        exact c
      have HR := Lib.hid iR; have HR2 := Lib.hid iR2
      have hzz : ¬ (9223372036854775807 < S.size + T.size) := by omega
      clear eS hh HS HOk zS r1 r2 dS dST zST iR iR2
      go_wp2_with fail
      refine c5.mono ?_
      rintro e w6 ⟨rfl, hb6⟩
      have hb26 := HB5.out.trans (hb6.mono hs5)
      have c6 := HR.out w6 hb26
      have hs6 := hb26.size
      clear c5 x0 x1 x2 x3 x4 hb6
      go_wp2_with fail
      refine c6.mono ?_
      rintro e w7 ⟨⟨v7, rfl, o7⟩, hb7⟩
      obtain ⟨a7, c7, rfl⟩ := own_len2 o7
      obtain ⟨w8, hw8⟩ : ∃ w8, w8 = w7.alloc (.cells #[.string h.verb, .string h.target, .string h.host, .slice a7 h.fs.length c7, .string h.body] 25) := ⟨_, rfl⟩
      have hs7 := hb7.size
      have hs8 : w8.heap.size = w7.heap.size + 1 := by rw [hw8]; simp
      have hb78 : Below w7.heap.size w7 w8 := by rw [hw8]; exact (Below.refl _ _).alloc (Nat.le_refl _) _
      have hx8 : w8.heap[w7.heap.size]? = some (.cells #[.string h.verb, .string h.target, .string h.host, .slice a7 h.fs.length c7, .string h.body] 25 (0, 0)) := by rw [hw8]; exact heap_alloc_new w7 _
      have hb28 := hb26.trans ((hb7.trans (hb78.mono hs7)).mono hs6)
      have fx := frow_own' (own_below o7 hb78)
      have c8 := HR2.out w8 hb28
      have HW8 := Lib.hid hw8
      clear c6 hb7 hb78 o7 hw8
      go_wp2_with fail
      rw [← HW8.out]
      refine c8.mono ?_
      rintro e w9 ⟨⟨v9, rfl, o9⟩, hb9⟩
      obtain ⟨a9, c9, rfl⟩ := own_len2 o9
      obtain ⟨w10, hw10⟩ : ∃ w10, w10 = w9.alloc (.cells #[.string h.verb, .string h.target, .string h.host, .slice a9 h.fs.length c9, .string h.body] 25) := ⟨_, rfl⟩
      have hs9 := hb9.size
      have hs10 : w10.heap.size = w9.heap.size + 1 := by rw [hw10]; simp
      have hb910 : Below w9.heap.size w9 w10 := by rw [hw10]; exact (Below.refl _ _).alloc (Nat.le_refl _) _
      have hx10 : w10.heap[w9.heap.size]? = some (.cells #[.string h.verb, .string h.target, .string h.host, .slice a9 h.fs.length c9, .string h.body] 25 (0, 0)) := by rw [hw10]; exact heap_alloc_new w9 _
      have hb810 : Below w8.heap.size w8 w10 := hb9.trans (hb910.mono hs9)
      have hb210 := hb28.trans (hb810.mono hb28.size)
      have fy := frow_own' (own_below o9 hb910)
      have fx10 := fx.below (Nat.le_refl _) hb810
      have hx10' := (hb810.block w7.heap.size (by omega)).trans hx8
      obtain ⟨_, fh, _, _, _, xh⟩ := HA.out w10 hb210
      have g1 := gd_head h _ _ w10 fx10 fh (by omega)
      have hg2 : ∀ W, Below w10.heap.size w10 W → Calls Tryz.prog 19 #[headV h (.slice a9 h.fs.length c9), headV h (.slice a' h.fs.length c')] W (fun e w' => e = .returned (.bool true) ∧ Below W.heap.size W w') ∧ W.heap[w9.heap.size]? = some (.cells #[.string h.verb, .string h.target, .string h.host, .slice a9 h.fs.length c9, .string h.body] 25 (0, 0)) ∧ Below w2.heap.size w2 W := fun W hW => by
        have hb := hb210.trans (hW.mono hb210.size)
        obtain ⟨_, fh, _, _, _, xh⟩ := HA.out W hb
        exact ⟨gd_head h _ _ W (fy.below (Nat.le_refl _) hW) fh (by omega), (hW.block w9.heap.size (by omega)).trans hx10, hb⟩
      unfold headV at g1 hg2
      have HG2 := Lib.hid hg2
      obtain ⟨x0, x1, x2, x3, x4, _⟩ := five_facts xh
      obtain ⟨y0, y1, y2, y3, y4, _⟩ := five_facts hx10'
      rw [hw10] at x0 x1 x2 x3 x4 y0 y1 y2 y3 y4
      have HW10 := Lib.hid hw10
      clear c8 hb9 hb910 o9 hw10 hx10 hx10' hb810 hb210 fy fx fx10 fh xh hg2 hx8 hb28 hb26
      go_wp2_with fail
      rw [← HW10.out]
      refine g1.mono ?_
      rintro e w11 ⟨rfl, hb11⟩
      obtain ⟨g2, xy, hb211⟩ := HG2.out w11 hb11
      obtain ⟨_, _, _, _, _, xh⟩ := HA.out w11 hb211
      clear g1 x0 x1 x2 x3 x4 y0 y1 y2 y3 y4
      obtain ⟨x0, x1, x2, x3, x4, _⟩ := five_facts xh
      obtain ⟨y0, y1, y2, y3, y4, _⟩ := five_facts xy
      have HB11 := Lib.hid hb211
      have hs11 := hb211.size
      clear xh xy hb11 hb211
      go_wp2_with fail
      refine g2.mono ?_
      rintro e w12 ⟨rfl, hb12⟩
      have hfin := (HA.out w12 (HB11.out.trans (hb12.mono hs11))).1
      clear g2 x0 x1 x2 x3 x4 y0 y1 y2 y3 y4 hb12
      go_wp2
      go_ret
      exact ⟨rfl, hfin⟩

namespace Lw
theorem fnHedWrite (w : World) (hL : laidMetH Tryz.prog Rows.fnHedWriteRow.laid w) (a : Option Addr) (len cap : Nat) (zs : List Int) (h : IsRow .u8 w a len cap zs) (p : Option Addr) (plen pcap : Nat) (ys : List Int) (h' : IsRow .u8 w p plen pcap ys) :
    Calls Tryz.prog 3 #[.slice a len cap, .slice p plen pcap] w fun e w' => e = .returned (.bool true) ∧ Below w.heap.size w w' := by
  have hL' : laidMet Tryz.prog Rows.fnHedWriteRow.laid w := hL
  exact law_hedwrite a len cap zs w h p plen pcap ys h' (cls_of_head hL'.tail.tail.tail.tail.tail.tail) (tab_of_head hL'.tail.tail) (errs_of_heads hL'.tail.tail.tail.tail)
end Lw
end Go.Proofs.YtfiggbhmpeffmaaGreatDoor

