import Derived.Test.YtfiggbhmpeffmaaGreatDoorGDrW
import Derived.Test.YtfiggbhmpeffmaaGreatDoorGBeh
import Derived.Test.YtfiggbhmpeffmaaGreatDoorGsc
import Derived.Test.YtfiggbhmpeffmaaGreatDoorGLr
import Derived.Test.YtfiggbhmpeffmaaGreatDoorGimp
import Derived.Test.YtfiggbhmpeffmaaGreatDoorLaidN
-- from XLStrict
/- The law on texts that may be read in two ways, over drawn inputs. -/
namespace Go.Proofs.YtfiggbhmpeffmaaGreatDoor
open Go.RowKit Go.Maps

theorem bad_read (X : ByteArray) (hX : readL X.data.toList = (noHd, 0, 3)) (hz : X.size ≤ 1048576) (W : World) (k1 : Cls W) (k2 : Tab W) (k3 : Errs W) :
    Calls Tryz.prog 18 #[.string X] W fun e w' => (∃ a c, e = .returned (.tuple #[.agg #[.string ⟨#[]⟩, .string ⟨#[]⟩, .string ⟨#[]⟩, .slice a 0 c, .string ⟨#[]⟩], .int .i64 0, .int .i64 3])) ∧ Below W.heap.size W w' := by
  have hR := impl_hedread X W hz k1 k2 k3
  rw [hX] at hR
  refine hR.mono ?_
  rintro e w' ⟨⟨v, rfl, ho⟩, hb⟩
  obtain ⟨a, c, rfl⟩ := own_len2 ho
  exact ⟨⟨a, c, rfl⟩, hb⟩
theorem beh_make (h : Hd) (hk : HOk h) (line : ByteArray) (h2 : line.size ≤ 300) (hz : (hedT h).length ≤ 400) (hbad : readL (behL h [line.data.toList]) = (noHd, 0, 3)) :
    ∃ X : ByteArray, X.size ≤ 1000 ∧ readL X.data.toList = (noHd, 0, 3) ∧ ∀ w, Calls Tryz.prog 21 #[.string ⟨(hedT h).toArray⟩, .string line] w fun e w' => e = .returned (.string X) ∧ Below w.heap.size w w' := by
  obtain ⟨d, nl⟩ := hed_cut hk
  have e1 : (ByteArray.mk (hedT h).toArray).data.toList = topL h ++ 10 :: (joinL (tailLines h) ++ 10 :: h.body.data.toList) := by rw [← d]
  refine ⟨⟨(behL h [line.data.toList]).toArray⟩, ?_, hbad, fun w => ?_⟩
  · rw [← beh_text, size_len]
    rw [d] at hz
    have := size_len line
    simp only [List.length_append, List.length_cons] at hz ⊢
    omega
  · have := gd_behind ⟨(hedT h).toArray⟩ line _ _ w e1 nl (by rw [size_len]; simp only; omega) (by omega)
    rw [beh_text] at this
    exact this
theorem beh_make2 (h : Hd) (hk : HOk h) (line line2 : ByteArray) (h1 : line.size ≤ 300) (h2 : line2.size ≤ 300) (hz : (hedT h).length ≤ 400) (hbad : readL (behL h [line2.data.toList, line.data.toList]) = (noHd, 0, 3)) :
    ∃ X Y : ByteArray, Y.size ≤ 2000 ∧ readL Y.data.toList = (noHd, 0, 3) ∧ (∀ w, Calls Tryz.prog 21 #[.string ⟨(hedT h).toArray⟩, .string line] w fun e w' => e = .returned (.string X) ∧ Below w.heap.size w w') ∧
      ∀ w, Calls Tryz.prog 21 #[.string X, .string line2] w fun e w' => e = .returned (.string Y) ∧ Below w.heap.size w w' := by
  obtain ⟨d, nl⟩ := hed_cut hk
  have e1 : (ByteArray.mk (hedT h).toArray).data.toList = topL h ++ 10 :: (joinL (tailLines h) ++ 10 :: h.body.data.toList) := by rw [← d]
  have hz2 := hz
  rw [d] at hz2
  have z1 := size_len line
  have z2 := size_len line2
  simp only [List.length_append, List.length_cons] at hz2
  refine ⟨⟨(topL h ++ 10 :: (line.data.toList ++ 10 :: (joinL (tailLines h) ++ 10 :: h.body.data.toList))).toArray⟩, ⟨(behL h [line2.data.toList, line.data.toList]).toArray⟩, ?_, hbad, fun w => ?_, fun w => ?_⟩
  · rw [← beh_text2, size_len]
    simp only [List.length_append, List.length_cons]
    omega
  · exact gd_behind ⟨(hedT h).toArray⟩ line _ _ w e1 nl (by rw [size_len]; simp only; omega) (by omega)
  · have := gd_behind ⟨(topL h ++ 10 :: (line.data.toList ++ 10 :: (joinL (tailLines h) ++ 10 :: h.body.data.toList))).toArray⟩ line2 _ _ w (by exact List.toList_toArray) nl (by rw [size_len]; simp only [List.length_append, List.length_cons]; omega) (by omega)
    rw [beh_text2] at this
    exact this

set_option maxRecDepth 100000 in
set_option maxHeartbeats 3200000 in
theorem law_hedstrict (a : Option Addr) (len cap : Nat) (zs : List Int) (w : World) (h : IsRow .u8 w a len cap zs) (hcls : Cls w) (htab : Tab w) (herr : Errs w) :
    Calls Tryz.prog 6 #[.slice a len cap] w fun e w' => e = .returned (.bool true) ∧ Below w.heap.size w w' := by
  have hl := isrow_len h
  by_cases hbig : 1048576 < len
  · clear hcls h htab herr
    go_enter Tryz.func6, Tryz.ntmps6
    go_wp2_with fail
    go_ret
    exact ⟨rfl, Below.refl _ _⟩
  have c1 := draw_hw a len cap zs w h
  clear h
  have HX : Hid (∀ W, Below w.heap.size w W → Cls W ∧ Tab W ∧ Errs W) := Lib.hid fun W hW => ⟨hcls.below hW (Nat.le_refl _), htab.below hW (Nat.le_refl _), herr.below hW (Nat.le_refl _)⟩
  clear hcls htab herr
  go_enter Tryz.func6, Tryz.ntmps6
  go_wp2_with fail
  refine c1.mono ?_
  rintro e w1 ⟨hd, a', c', rfl, ho1, hok, b1, b2, b3, b4, hn, hb1⟩
  clear c1
  obtain ⟨w2, hw2⟩ : ∃ w2, w2 = w1.alloc (.cells #[.string hd.verb, .string hd.target, .string hd.host, .slice a' hd.fs.length c', .string hd.body] 25) := ⟨_, rfl⟩
  have hs2 : w2.heap.size = w1.heap.size + 1 := by rw [hw2]; simp
  have hb12 : Below w1.heap.size w1 w2 := by rw [hw2]; exact (Below.refl _ _).alloc (Nat.le_refl _) _
  have hX2 : w2.heap[w1.heap.size]? = some (.cells #[.string hd.verb, .string hd.target, .string hd.host, .slice a' hd.fs.length c', .string hd.body] 25 (0, 0)) := by rw [hw2]; exact heap_alloc_new w1 _
  have hb02 := hb1.trans (hb12.mono hb1.size)
  have hr2 := frow_own' (own_below ho1 hb12)
  have hs1 := hb1.size
  obtain ⟨k1, k2, k3⟩ := HX.out _ hb02
  have hI := impl_hedwrite hd _ w2 hr2 (fun f hf => ⟨Nat.le_trans (hok f hf).1 (by decide), Nat.le_trans (hok f hf).2 (by decide)⟩) (by omega) (by omega) (by omega) (by omega) k1 k2
  obtain ⟨x0, x1, x2, x3, x4, _⟩ := five_facts hX2
  rw [hw2] at x0 x1 x2 x3 x4
  have HW2 := Lib.hid hw2
  have HR2 := Lib.hid hr2
  clear hw2 hb12 hb1 k1 k2 k3 hr2 ho1
  go_wp2_with fail
  rw [← HW2.out]
  refine hI.mono ?_
  rintro e w3 ⟨rfl, hb3⟩
  have hb03 := hb02.trans (hb3.mono hb02.size)
  have hr3 := HR2.out.below (Nat.le_refl _) hb3
  have hX3 := (hb3.block w1.heap.size (by omega)).trans hX2
  have hs3 := hb3.size
  have hall : ∀ W, Below w3.heap.size w3 W → Below w.heap.size w W ∧ Cls W ∧ Tab W ∧ Errs W ∧
      W.heap[w1.heap.size]? = some (.cells #[.string hd.verb, .string hd.target, .string hd.host, .slice a' hd.fs.length c', .string hd.body] 25 (0, 0)) := fun W hW => by
    have h0 := hb03.trans (hW.mono hb03.size)
    obtain ⟨k1, k2, k3⟩ := HX.out W h0
    exact ⟨h0, k1, k2, k3, (hW.block w1.heap.size (by omega)).trans hX3⟩
  have HA := Lib.hid hall
  have hO := spec_hedok hd _ w3 hr3 (by omega) (fun f hf => ⟨Nat.le_trans (hok f hf).1 (by decide), Nat.le_trans (hok f hf).2 (by decide)⟩) (by omega) (by omega) (by omega) (by omega)
  clear x0 x1 x2 x3 x4
  obtain ⟨x0, x1, x2, x3, x4, _⟩ := five_facts hX3
  clear hall hr3 hX3 hb3 hI hX2 hb02 hb03
  by_cases hb : hedB hd = true
  · have hk := hedB_iff.1 hb
    have hlen : (hedT hd).length ≤ 400 := by
      have hlen := hk.len
      have hTT : (hedT hd).length = (headT hd).length + hd.body.data.toList.length := by simp [hedT]
      have hz := size_len hd.body
      omega
    have hhost : hd.host.size ≤ 50 := b3
    obtain ⟨X1, z1, r1, g1⟩ := beh_make hd hk (⟨#[72, 111, 115, 116, 58, 32]⟩ ++ hd.host) (by rw [ByteArray.size_append]; have : (ByteArray.mk #[72, 111, 115, 116, 58, 32]).size = 6 := rfl; omega) hlen (by
      have : ((⟨#[72, 111, 115, 116, 58, 32]⟩ : ByteArray) ++ hd.host).data.toList = bHostU ++ 58 :: 32 :: hd.host.data.toList := by simp [bHostU]
      rw [this]; exact strict_host hk)
    obtain ⟨X2, z2, r2, g2⟩ := beh_make hd hk ⟨#[116, 114, 97, 110, 115, 102, 101, 114, 58, 32, 99, 104, 117, 110, 107, 101, 100]⟩ (by decide) hlen (strict_transfer hk)
    obtain ⟨X3, X4, z4, r4, g3, g4⟩ := beh_make2 hd hk ⟨#[108, 101, 110, 103, 116, 104, 58, 32, 48]⟩ ⟨#[76, 69, 78, 71, 84, 72, 58, 32, 48]⟩ (by decide) (by decide) hlen (strict_length hk)
    have q1 := fun W a b c => bad_read X1 r1 (by omega) W a b c
    have q2 := fun W a b c => bad_read X2 r2 (by omega) W a b c
    have q4 := fun W a b c => bad_read X4 r4 (by omega) W a b c
    have q5 : ∀ N : ByteArray, N.size = 10 → hostB N.data.toList = true → N.data.toList ≠ hd.host.data.toList → ∀ W, Cls W → Tab W → Errs W →
        Calls Tryz.prog 18 #[.string (hd.verb ++ ⟨#[32, 104, 116, 116, 112, 58, 47, 47]⟩ ++ N ++ (ByteArray.mk (hedT hd).toArray).extract (hd.verb.size + 1) (hedT hd).length)] W fun e w' => (∃ a c, e = .returned (.tuple #[.agg #[.string ⟨#[]⟩, .string ⟨#[]⟩, .string ⟨#[]⟩, .slice a 0 c, .string ⟨#[]⟩], .int .i64 0, .int .i64 3])) ∧ Below W.heap.size W w' := fun N zN n1 n2 W a b c => by
      have hd8 : (hd.verb ++ ⟨#[32, 104, 116, 116, 112, 58, 47, 47]⟩ ++ N ++ (ByteArray.mk (hedT hd).toArray).extract (hd.verb.size + 1) (hedT hd).length).data.toList = namedL hd N.data.toList := by
        rw [← named_text hk]
        have e5 : ((ByteArray.mk (hedT hd).toArray).extract (hd.verb.size + 1) (hedT hd).length).data.toList = (hedT hd).drop (hd.verb.data.toList.length + 1) := by
          have hz : (hedT hd).length = (ByteArray.mk (hedT hd).toArray).size := by rw [size_len]
          rw [hz, ext_drop, size_len hd.verb]
        simp only [ByteArray.data_append, Array.toList_append, e5]
        simp [bHttp]
      refine bad_read _ (by rw [hd8]; exact strict_named hk n1 n2) ?_ W a b c
      rw [size_len, hd8, ← named_text hk]
      have z1 := size_len hd.verb
      have z2 := size_len N
      simp only [List.length_append, List.length_cons, List.length_drop, bHttp, List.length_nil]
      omega
    have hS : (if hedB hd = true then (⟨(hedT hd).toArray⟩ : ByteArray) else ⟨#[]⟩) = ⟨(hedT hd).toArray⟩ := if_pos hb
    rw [hS]
    rw [hb] at hO
    have zS : (ByteArray.mk (hedT hd).toArray).size = (hedT hd).length := by rw [size_len]
    have zV : hd.verb.size + 1 ≤ (hedT hd).length := by
      have e := (hed_cut hk).1
      have z := size_len hd.verb
      rw [e]
      simp only [List.length_append, List.length_cons, topL]
      omega
    rw [← zS] at zV hlen q5
    generalize (ByteArray.mk (hedT hd).toArray) = S at *
    have HQ := Lib.hid q5
    clear q5 r1 r2 r4 hS zS hk hb
    go_wp2_with fail
    refine hO.mono ?_
    rintro e w4 ⟨rfl, hb4⟩
    obtain ⟨_, k1, k2, k3, xx⟩ := HA.out w4 hb4
    clear x0 x1 x2 x3 x4 hO
    obtain ⟨x0, x1, x2, x3, x4, _⟩ := five_facts xx
    have HB4 := Lib.hid hb4
    clear xx hb4 k1 k2 k3
    go_wp2_with fail
    refine (g1 _).mono ?_
    rintro e w5 ⟨rfl, hb⟩
    have hb5 := HB4.out.trans (hb.mono HB4.out.size)
    obtain ⟨_, k1, k2, k3, _⟩ := HA.out w5 hb5
    have q := q1 w5 k1 k2 k3
    have HB5 := Lib.hid hb5
    clear hb k1 k2 k3 g1 q1 hb5 x0 x1 x2 x3 x4
    go_wp2_with fail
    refine q.mono ?_
    rintro e w6 ⟨⟨a6, c6, rfl⟩, hb⟩
    have hb6 := HB5.out.trans (hb.mono HB5.out.size)
    have HB6 := Lib.hid (hb6.alloc (o := .cells #[.string ⟨#[]⟩, .string ⟨#[]⟩, .string ⟨#[]⟩, .slice a6 0 c6, .string ⟨#[]⟩] 25) hb6.size)
    clear hb6
    clear hb q
    go_wp2_with fail
    refine (g2 _).mono ?_
    rintro e w7 ⟨rfl, hb⟩
    have hb7 := HB6.out.trans (hb.mono HB6.out.size)
    obtain ⟨_, k1, k2, k3, _⟩ := HA.out w7 hb7
    have q := q2 w7 k1 k2 k3
    have HB7 := Lib.hid hb7
    clear hb k1 k2 k3 g2 q2 hb7
    go_wp2_with fail
    refine q.mono ?_
    rintro e w8 ⟨⟨a8, c8, rfl⟩, hb⟩
    have hb8 := HB7.out.trans (hb.mono HB7.out.size)
    have HB8 := Lib.hid (hb8.alloc (o := .cells #[.string ⟨#[]⟩, .string ⟨#[]⟩, .string ⟨#[]⟩, .slice a8 0 c8, .string ⟨#[]⟩] 25) hb8.size)
    clear hb8
    clear hb q
    go_wp2_with fail
    refine (g3 _).mono ?_
    rintro e w9 ⟨rfl, hb⟩
    have HB9 := Lib.hid (HB8.out.trans (hb.mono HB8.out.size))
    clear hb g3
    go_wp2_with fail
    refine (g4 _).mono ?_
    rintro e w10 ⟨rfl, hb⟩
    have hb10 := HB9.out.trans (hb.mono HB9.out.size)
    obtain ⟨_, k1, k2, k3, _⟩ := HA.out w10 hb10
    have q := q4 w10 k1 k2 k3
    have HB10 := Lib.hid hb10
    clear hb k1 k2 k3 g4 q4 hb10
    go_wp2_with fail
    refine q.mono ?_
    rintro e w11 ⟨⟨a11, c11, rfl⟩, hb⟩
    have hb11 := HB10.out.trans (hb.mono HB10.out.size)
    have hb11 := hb11.alloc (o := .cells #[.string ⟨#[]⟩, .string ⟨#[]⟩, .string ⟨#[]⟩, .slice a11 0 c11, .string ⟨#[]⟩] 25) hb11.size
    obtain ⟨_, k1, k2, k3, xx⟩ := HA.out _ hb11
    obtain ⟨x0, x1, x2, x3, x4, _⟩ := five_facts xx
    have HB11 := Lib.hid hb11
    have wr1 : IntKind.i64.wrap ((hd.verb.size : Int) + 1) = ((hd.verb.size + 1 : Nat) : Int) := by rw [IntKind.wrap_i64]; omega
    have zV2 : ((hd.verb.size + 1 : Nat) : Int) ≤ (S.size : Int) := by omega
    clear hb q xx hb11
    by_cases hn : hd.host = ⟨#[101, 108, 115, 101, 46, 119, 104, 101, 114, 101]⟩
    · have n1 : (hd.host.toList == [101, 108, 115, 101, 46, 119, 104, 101, 114, 101]) = true := by rw [hn, Lib.toList_data]; rfl
      have q := fun n => HQ.out ⟨#[115, 111, 109, 101, 46, 119, 104, 101, 114, 101]⟩ rfl (by decide) (by rw [hn]; decide) _ (HA.out _ (below_drewN (n := n) HB11.out)).2.1 (HA.out _ (below_drewN (n := n) HB11.out)).2.2.1 (HA.out _ (below_drewN (n := n) HB11.out)).2.2.2.1
      have Hn := Lib.hid hn
      clear hn k1 k2 k3
      go_wp2_with fail
      go_quiet (fail)
      go_wp2_with fail
      refine (q _).mono ?_
      rintro e w12 ⟨⟨a12, c12, rfl⟩, hb⟩
      have hfin := (HA.out w12 ((below_drewN HB11.out).trans (hb.mono HB11.out.size))).1
      clear hb q x0 x1 x2 x3 x4 wr1 zV2
      go_wp2
      go_ret
      exact ⟨rfl, hfin.alloc hfin.size _⟩
    · have n1 : (hd.host.toList == [101, 108, 115, 101, 46, 119, 104, 101, 114, 101]) = false := by
        rw [Lib.toList_data]
        have : hd.host.data.toList ≠ [101, 108, 115, 101, 46, 119, 104, 101, 114, 101] := fun e => hn (str_inj2 e)
        simpa using this
      have q := fun n => HQ.out ⟨#[101, 108, 115, 101, 46, 119, 104, 101, 114, 101]⟩ rfl (by decide) (fun e => hn (str_inj2 e.symm)) _ (HA.out _ (below_drewN (n := n) HB11.out)).2.1 (HA.out _ (below_drewN (n := n) HB11.out)).2.2.1 (HA.out _ (below_drewN (n := n) HB11.out)).2.2.2.1
      have Hn := Lib.hid hn
      clear hn k1 k2 k3
      go_wp2_with fail
      go_quiet (fail)
      go_wp2_with fail
      refine (q _).mono ?_
      rintro e w12 ⟨⟨a12, c12, rfl⟩, hb⟩
      have hfin := (HA.out w12 ((below_drewN HB11.out).trans (hb.mono HB11.out.size))).1
      clear hb q x0 x1 x2 x3 x4 wr1 zV2
      go_wp2
      go_ret
      exact ⟨rfl, hfin.alloc hfin.size _⟩
  · have hbf : hedB hd = false := by simpa using hb
    have hS : (if hedB hd = true then (⟨(hedT hd).toArray⟩ : ByteArray) else ⟨#[]⟩) = ⟨#[]⟩ := if_neg hb
    rw [hS]
    rw [hbf] at hO
    clear hS hb hbf
    go_wp2_with fail
    refine hO.mono ?_
    rintro e w4 ⟨rfl, hb4⟩
    obtain ⟨hfin, k1, _⟩ := HA.out w4 hb4
    have hG := gd_ok w4 k1
    clear x0 x1 x2 x3 x4 hO hb4 k1
    go_wp2_with fail
    refine hG.mono ?_
    rintro e w5 ⟨rfl, rfl⟩
    clear hG
    go_wp2
    go_ret
    exact ⟨rfl, hfin⟩
namespace Lw
theorem fnHedStrict (w : World) (hL : laidMetH Tryz.prog Rows.fnHedStrictRow.laid w) (a : Option Addr) (len cap : Nat) (zs : List Int) (h : IsRow .u8 w a len cap zs) :
    Calls Tryz.prog 6 #[.slice a len cap] w fun e w' => e = .returned (.bool true) ∧ Below w.heap.size w w' := by
  have hL' : laidMet Tryz.prog Rows.fnHedStrictRow.laid w := hL
  exact law_hedstrict a len cap zs w h (cls_of_head hL'.tail.tail.tail.tail.tail.tail) (tab_of_head hL'.tail.tail) (errs_of_heads hL'.tail.tail.tail.tail)
end Lw
end Go.Proofs.YtfiggbhmpeffmaaGreatDoor

