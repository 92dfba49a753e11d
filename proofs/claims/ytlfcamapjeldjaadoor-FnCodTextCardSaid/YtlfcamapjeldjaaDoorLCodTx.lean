/- The law on a set's text, drawn. -/
import Derived.Test.YtlfcamapjeldjaaDoorCodX
import Derived.Test.YtlfcamapjeldjaaDoorCodOf
import Derived.Test.YtlfcamapjeldjaaDoorCodD
import Derived.Test.YtlfcamapjeldjaaDoorGdOk
import Derived.Test.YtlfcamapjeldjaaDoorLaidN
namespace Go.Proofs.YtlfcamapjeldjaaDoor
open Go.RowKit Go.Maps

theorem text_back : ∀ m : Fin 8, (codParse (codT (m.val : Int))).map maskL = some m.val := by decide +kernel
theorem codT_len (m : Int) : (codT m).length ≤ 20 := by
  by_cases hm : 0 ≤ m ∧ m < 8
  · rw [codT_in hm]; unfold codTB; split <;> split <;> split <;> decide
  · rw [codT_out hm]; decide
theorem codOf_one (s : ByteArray) {ws : List Wt} (h : codParse s.data.toList = some ws) : codOfF [(bAccept, s)] = maskL ws := by
  refine codOf_yes (v := s) ?_ h
  have : allTo [(bAccept, s)] bAccept 1 = [s] := by
    rw [allTo_at (f := (bAccept, s)) bAccept rfl, if_pos rfl]
    simp [allTo]
  show oneOf (allTo [(bAccept, s)] bAccept 1) = _
  rw [this]; rfl
theorem frow_one (w : World) (x y : ByteArray) : FRow (w.alloc (.cells #[.string x, .string y] 32)) (.slice (some ⟨w.heap.size, 0, none⟩) 1 1) [(x, y)] := by
  refine ⟨_, 1, rfl, Nat.le_refl _, by unfold maxLen; omega, fun j f hj => ?_⟩
  match j, hj with
  | 0, hj =>
    have hf : (x, y) = f := by simpa using hj
    subst hf
    exact ⟨_, _, rfl, by simp, World.cell?_alloc_at _ _ _ _ rfl, World.cell?_alloc_at _ _ _ _ rfl⟩
  | j + 1, hj => simp at hj

set_option maxRecDepth 100000 in
set_option maxHeartbeats 3200000 in
theorem law_codtext (a : Option Addr) (len cap : Nat) (zs : List Int) (w : World) (h : IsRow .u8 w a len cap zs) (hd : Cds w) (hc : Cls w) (he : Errs w) :
    Calls Tryd.prog 3 #[.slice a len cap] w fun e w' => e = .returned (.bool true) ∧ Below w.heap.size w w' := by
  have hlen := isrow_len h
  have HI := Lib.hid h
  have HX : Hid (∀ W, Below w.heap.size w W → Cds W ∧ Cls W ∧ Errs W) := Lib.hid fun W hW => ⟨hd.below hW (Nat.le_refl _), hc.below hW (Nat.le_refl _), he.below hW (Nat.le_refl _)⟩
  clear h hd hc he
  by_cases hbig : 1048576 < len
  · go_enter Tryd.func3, Tryd.ntmps3
    go_wp2_with fail
    go_ret
    exact ⟨rfl, Below.refl _ _⟩
  go_enter Tryd.func3, Tryd.ntmps3
  go_wp2_with fail
  refine (draw_codtext a len cap zs _ HI.out).mono ?_
  rintro e w1 ⟨⟨m, rfl, hm0, hm1⟩, hb1⟩
  have hT1 := fun W (h : Cds W) => impl_codtext m W h
  have hT2 := fun W => spec_codtext m W
  have htl := codT_len m
  by_cases hm : 0 ≤ m ∧ m < 8
  · obtain ⟨p, rfl⟩ := Int.eq_ofNat_of_zero_le hm.1
    have hback := text_back ⟨p, by omega⟩
    simp only at hback
    generalize codT (p : Int) = l at *
    obtain ⟨ws, hws, hmk⟩ := Option.map_eq_some_iff.1 hback
    unfold strV at hT1 hT2
    have hsz : (ByteArray.mk l.toArray).size ≤ 20 := by rw [size_len]; exact htl
    have hof : codOfF [(bAccept, ⟨l.toArray⟩)] = p := by rw [codOf_one _ hws, hmk]
    have hP : ∀ W, Below w.heap.size w W → Calls Tryd.prog 14 #[.string ⟨l.toArray⟩] W fun e w' => PRet W.heap.size l e w' ∧ Below W.heap.size W w' := fun W hW => by
      obtain ⟨k1, k2, k3⟩ := HX.out W hW
      exact impl_codparse ⟨l.toArray⟩ W (by omega) k1 k2 k3
    unfold PRet at hP
    rw [hws] at hP
    generalize (ByteArray.mk l.toArray) = s at *
    have hF : ∀ W, Below w.heap.size w W → Calls Tryd.prog 16 #[.slice (some ⟨W.heap.size, 0, none⟩) 1 1] (W.alloc (.cells #[.string ⟨#[97, 99, 99, 101, 112, 116]⟩, .string s] 32)) fun e w' => e = .returned (.int .i64 (p : Int)) ∧ Below (W.alloc (.cells #[.string ⟨#[97, 99, 99, 101, 112, 116]⟩, .string s] 32)).heap.size (W.alloc (.cells #[.string ⟨#[97, 99, 99, 101, 112, 116]⟩, .string s] 32)) w' := fun W hW => by
      obtain ⟨k1, k2, k3⟩ := HX.out _ (hW.alloc hW.size (.cells #[.string ⟨#[97, 99, 99, 101, 112, 116]⟩, .string s] 32))
      have := impl_codof _ [(bAccept, s)] _ (frow_one W bAccept s) (fun f hf => by
        have : f = (bAccept, s) := by simpa using hf
        subst this; exact ⟨(show bAccept.size ≤ 1048576 from by decide), by simp only; omega⟩) (by simp) k1 k2 k3
      rw [hof] at this
      exact this
    have HT1 := Lib.hid hT1; have HT2 := Lib.hid hT2; have HP := Lib.hid hP; have HF := Lib.hid hF; have HMK := Lib.hid hmk
    have hss : (s.toList != s.toList) = false := by simp
    obtain ⟨i0, i1⟩ := hm
    clear hT1 hT2 hP hF hback hws hmk hof htl
    go_wp2_with fail
    refine (HT1.out _ (HX.out _ hb1).1).mono ?_
    rintro e w2 ⟨rfl, rfl⟩
    go_wp2_with fail
    refine (HT2.out _).mono ?_
    rintro e w3 ⟨rfl, hb3⟩
    have hb03 := hb1.trans (hb3.mono hb1.size)
    go_wp2_with fail
    refine (HP.out _ hb03).mono ?_
    rintro e w4 ⟨⟨u, ws2, rfl, hw2, ho⟩, hb4⟩
    have hw0 : ws2 = ws := hw2
    subst hw0
    have hb04 := hb03.trans (hb4.mono hb03.size)
    have hmm := impl_mask u ws2 w4 (wrow_of_own ho)
    rw [HMK.out] at hmm
    have HMM := Lib.hid hmm
    simp only [Option.isSome_some]
    clear ho hw2 hmm hb4 hb3
    go_wp2_with fail
    refine HMM.out.mono ?_
    rintro e w5 ⟨rfl, hb5⟩
    have hb05 := hb04.trans (hb5.mono hb04.size)
    go_wp2_with fail
    refine (HF.out _ hb05).mono ?_
    rintro e w6 ⟨rfl, hb6⟩
    have hba := hb05.alloc hb05.size (.cells #[.string ⟨#[97, 99, 99, 101, 112, 116]⟩, .string s] 32)
    have hb06 := hba.trans (hb6.mono hba.size)
    clear hb6 hba
    go_wp2
    go_ret
    exact ⟨rfl, hb06⟩
  · rw [codT_out hm] at hT1 hT2
    have HT1 := Lib.hid hT1; have HT2 := Lib.hid hT2
    have hcc : m < 0 ∨ (¬ m < 0 ∧ 8 ≤ m) := by omega
    clear hT1 hT2 hm htl
    unfold strV at HT1 HT2
    rcases hcc with c1 | ⟨c1, c2⟩
    all_goals
      go_wp2_with fail
      refine (HT1.out _ (HX.out _ hb1).1).mono ?_
      rintro e w2 ⟨rfl, rfl⟩
      go_wp2_with fail
      refine (HT2.out _).mono ?_
      rintro e w3 ⟨rfl, hb3⟩
      have hb03 := hb1.trans (hb3.mono hb1.size)
      go_wp2_with fail
      refine (gd_ok _ (HX.out _ hb03).2.1).mono ?_
      rintro e w4 ⟨rfl, rfl⟩
      go_wp2
      go_ret
      exact ⟨rfl, hb03⟩
namespace Lw
theorem fnCodText (w : World) (hL : laidMetH Tryd.prog Rows.fnCodTextRow.laid w) (a : Option Addr) (len cap : Nat) (zs : List Int) (h : IsRow .u8 w a len cap zs) :
    Calls Tryd.prog 3 #[.slice a len cap] w fun e w' => e = .returned (.bool true) ∧ Below w.heap.size w w' := by
  have hL' : laidMet Tryd.prog Rows.fnCodTextRow.laid w := hL
  exact law_codtext a len cap zs w h (cds_of_head hL'.tail.tail.tail.tail.tail.tail.tail) (cls_of_head hL'.tail.tail.tail.tail.tail.tail) (errs_of_heads hL'.tail.tail.tail.tail)
end Lw
end Go.Proofs.YtlfcamapjeldjaaDoor
