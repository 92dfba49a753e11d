import Derived.Test.YtfiggbhmpeffmaaGreatDoorGDrW
import Derived.Test.YtfiggbhmpeffmaaGreatDoorGsc
import Derived.Test.YtfiggbhmpeffmaaGreatDoorGLr
import Derived.Test.YtfiggbhmpeffmaaGreatDoorGimp
import Derived.Test.YtfiggbhmpeffmaaGreatDoorLaidN
-- from XLPart
/- The law on beginnings of a request's text, over drawn inputs. -/
namespace Go.Proofs.YtfiggbhmpeffmaaGreatDoor
open Go.RowKit Go.Maps

theorem ext0 (s : ByteArray) (j : Nat) : (s.extract 0 j).data.toList = s.data.toList.take j := by
  simp [ByteArray.data_extract]

set_option maxRecDepth 100000 in
set_option maxHeartbeats 3200000 in
theorem law_hedpart (a : Option Addr) (len cap : Nat) (zs : List Int) (w : World) (h : IsRow .u8 w a len cap zs) (hcls : Cls w) (htab : Tab w) (herr : Errs w) :
    Calls Tryz.prog 5 #[.slice a len cap] w fun e w' => e = .returned (.bool true) ∧ Below w.heap.size w w' := by
  have hl := isrow_len h
  by_cases hbig : 1048576 < len
  · clear hcls h htab herr
    go_enter Tryz.func5, Tryz.ntmps5
    go_wp2_with fail
    go_ret
    exact ⟨rfl, Below.refl _ _⟩
  have c1 := draw_hw a len cap zs w h
  clear h
  have HX : Hid (∀ W, Below w.heap.size w W → Cls W ∧ Tab W ∧ Errs W) := Lib.hid fun W hW => ⟨hcls.below hW (Nat.le_refl _), htab.below hW (Nat.le_refl _), herr.below hW (Nat.le_refl _)⟩
  clear hcls htab herr
  go_enter Tryz.func5, Tryz.ntmps5
  go_wp2_with fail
  refine c1.mono ?_
  rintro e w1 ⟨hd, a', c', rfl, ho1, hok, b1, b2, b3, b4, hn, hb1⟩
  clear c1
  obtain ⟨w2, hw2⟩ : ∃ w2, w2 = w1.alloc (.cells #[.string hd.verb, .string hd.target, .string hd.host, .slice a' hd.fs.length c', .string hd.body] 25) := ⟨_, rfl⟩
  have hs2 : w2.heap.size = w1.heap.size + 1 := by rw [hw2]; simp
  have hb12 : Below w1.heap.size w1 w2 := by rw [hw2]; exact (Below.refl _ _).alloc (Nat.le_refl _) _
  have hX2 : w2.heap[w1.heap.size]? = some (.cells #[.string hd.verb, .string hd.target, .string hd.host, .slice a' hd.fs.length c', .string hd.body] 25 (0, 0)) := by rw [hw2]; exact heap_alloc_new w1 _
  have hb02 := hb1.trans (hb12.mono hb1.size)
  have hr2 := frow_own' (own_below ho1 hb12)
  have hs1 := hb1.size
  obtain ⟨k1, k2, k3⟩ := HX.out _ hb02
  have hI := impl_hedwrite hd _ w2 hr2 (fun f hf => ⟨Nat.le_trans (hok f hf).1 (by decide), Nat.le_trans (hok f hf).2 (by decide)⟩) (by omega) (by omega) (by omega) (by omega) k1 k2
  obtain ⟨x0, x1, x2, x3, x4, _⟩ := five_facts hX2
  rw [hw2] at x0 x1 x2 x3 x4
  have HW2 := Lib.hid hw2
  have HR2 := Lib.hid hr2
  clear hw2 hb12 hb1 k1 k2 k3 hr2 ho1
  go_wp2_with fail
  rw [← HW2.out]
  refine hI.mono ?_
  rintro e w3 ⟨rfl, hb3⟩
  have hb03 := hb02.trans (hb3.mono hb02.size)
  have hr3 := HR2.out.below (Nat.le_refl _) hb3
  have hX3 := (hb3.block w1.heap.size (by omega)).trans hX2
  have hs3 := hb3.size
  obtain ⟨S, hS⟩ : ∃ S : ByteArray, S = if hedB hd = true then ⟨(hedT hd).toArray⟩ else ⟨#[]⟩ := ⟨_, rfl⟩
  rw [← hS]
  obtain ⟨hS1, hcut, hSz⟩ : S.size ≤ 1000 ∧ (∀ j, j < S.size → readL (S.data.toList.take j) = (noHd, 0, 2)) ∧ decide (0 < S.size) = hedB hd := by
    rw [hS]
    by_cases hb : hedB hd = true
    · rw [if_pos hb, hb]
      have hlen := (hedB_iff.1 hb).len
      have hTT : (hedT hd).length = (headT hd).length + hd.body.data.toList.length := by simp [hedT]
      have hT : (headT hd).length = (joinL (hedLines hd)).length + 1 := by simp [headT]
      have hz : (ByteArray.mk (hedT hd).toArray).size = (hedT hd).length := by rw [size_len]
      have hb4 := b4
      rw [size_len] at hb4
      refine ⟨by omega, fun j hj => ?_, by simp only [decide_eq_true_eq]; omega⟩
      show readL ((hedT hd).toArray.toList.take j) = _
      rw [List.toList_toArray]
      exact read_part hb (by omega)
    · have hbf : hedB hd = false := by simpa using hb
      rw [if_neg hb, hbf]
      exact ⟨by decide, fun j hj => absurd hj (Nat.not_lt_zero j), by decide⟩
  have HS := Lib.hid (And.intro hS1 (And.intro hcut hSz))
  have HR3 := Lib.hid hr3
  clear hI hb3 hb02 hX2 x0 x1 x2 x3 x4 hr3 hS hcut hSz
  go_wp2_with fail
  go_loopw [2, 5, 6, 7, 8] (fun z k _ _ _ wr => z = .bool false ∧ ∃ j : Nat, k = .int .i64 j ∧ Below w3.heap.size w3 wr) (fun _ k _ _ _ _ => 2000 - (intOf k).toNat)
  case atStart => exact ⟨rfl, 0, rfl, Below.refl _ _⟩
  case round =>
    obtain ⟨rfl, j, rfl, hbr⟩ := hrel
    by_cases hlt : j < S.size
    · have hc := HS.out.2.1 j hlt
      obtain ⟨k1, k2, k3⟩ := HX.out wr (hb03.trans (hbr.mono hb03.size))
      have hR := impl_hedread (S.extract 0 j) wr (by rw [ext_size]; omega) k1 k2 k3
      rw [ext0 S j, hc] at hR
      unfold ReadPost noHd at hR
      dsimp only at hR
      have hsr := hbr.size
      have HB := Lib.hid hbr
      clear hc k1 k2 k3 hbr
      go_wp2_with fail
      refine hR.mono ?_
      rintro e w4 ⟨⟨v4, rfl, ho4⟩, hb4⟩
      obtain ⟨a4, c4, rfl⟩ := own_len2 ho4
      have hb34 := HB.out.trans (hb4.mono hsr)
      have hf34 := hb34.alloc (o := .cells #[.string ⟨#[]⟩, .string ⟨#[]⟩, .string ⟨#[]⟩, .slice a4 0 c4, .string ⟨#[]⟩] 25) hb34.size
      have HB4 := Lib.hid hf34
      clear hR ho4 hb4 hb34 hf34
      go_wp2_with fail
      go_roundw
      case rel => exact ⟨rfl, j + 1, by go_num, HB4.out⟩
      case measure => simp [intOf]; omega
    · have hbr3 := hb03.trans (hbr.mono hb03.size)
      obtain ⟨k1, k2, k3⟩ := HX.out wr hbr3
      have hX4 := (hbr.block w1.heap.size (by omega)).trans hX3
      have hr4 := HR3.out.below (Nat.le_refl _) hbr
      have hO := spec_hedok hd _ wr hr4 (by omega) (fun f hf => ⟨Nat.le_trans (hok f hf).1 (by decide), Nat.le_trans (hok f hf).2 (by decide)⟩) (by omega) (by omega) (by omega) (by omega)
      obtain ⟨x0, x1, x2, x3, x4, _⟩ := five_facts hX4
      have hSz := HS.out.2.2
      rw [← hSz] at hO
      have HB := Lib.hid hbr3
      clear hbr hbr3 hX4 hr4 hSz k1 k2 k3 hX3
      go_wp2_with fail
      refine hO.mono ?_
      rintro e w4 ⟨rfl, hb4⟩
      have hb04 := HB.out.trans (hb4.mono HB.out.size)
      have hG := gd_ok w4 (HX.out w4 hb04).1
      have HB4 := Lib.hid hb04
      clear hO hb4 hb04 x0 x1 x2 x3 x4
      go_wp2_with fail
      refine hG.mono ?_
      rintro e w5 ⟨rfl, rfl⟩
      clear hG
      go_wp2
      go_ret
      exact ⟨rfl, HB4.out⟩
namespace Lw
theorem fnHedPart (w : World) (hL : laidMetH Tryz.prog Rows.fnHedPartRow.laid w) (a : Option Addr) (len cap : Nat) (zs : List Int) (h : IsRow .u8 w a len cap zs) :
    Calls Tryz.prog 5 #[.slice a len cap] w fun e w' => e = .returned (.bool true) ∧ Below w.heap.size w w' := by
  have hL' : laidMet Tryz.prog Rows.fnHedPartRow.laid w := hL
  exact law_hedpart a len cap zs w h (cls_of_head hL'.tail.tail.tail.tail.tail.tail) (tab_of_head hL'.tail.tail) (errs_of_heads hL'.tail.tail.tail.tail)
end Lw
end Go.Proofs.YtfiggbhmpeffmaaGreatDoor

