/- The law on the set of codings that a request would take, drawn. -/
import Derived.Test.YtlfcamapjeldjaaGreatDoorCodOs
import Derived.Test.YtlfcamapjeldjaaGreatDoorDrawLo
import Derived.Test.YtlfcamapjeldjaaGreatDoorWants
import Derived.Test.YtlfcamapjeldjaaGreatDoorGdOk
import Derived.Test.YtlfcamapjeldjaaGreatDoorLaidN
namespace Go.Proofs.YtlfcamapjeldjaaGreatDoor
open Go.RowKit Go.Maps

set_option maxRecDepth 100000 in
set_option maxHeartbeats 3200000 in
theorem draw_codof (a : Option Addr) (len cap : Nat) (zs : List Int) (w : World) (h : IsRow .u8 w a len cap zs) :
    Calls Tryz.prog 5 #[.slice a len cap] w fun e w' => (∃ g c fs, e = .returned (.slice (some ⟨g, 0, none⟩) (fs : List Fd).length c) ∧ (∃ B, w'.ownsRow B 27 2 (.slice (some ⟨g, 0, none⟩) fs.length c) fs.length (fcells fs)) ∧ FOk fs 70 ∧ fs.length ≤ 5) ∧ Below w.heap.size w w' := by
  obtain ⟨i0, hi, hz0, hz1, hz2⟩ := info_parts Tryz.infoFd
  have HI := Lib.hid h; have HIN := Lib.hid hi
  clear h hi
  go_enter Tryz.func5, Tryz.ntmps5
  go_wp2_with fail
  refine (open_any a len cap zs _ HI.out).mono ?_
  rintro e w1 ⟨g, rfl, hr, hb⟩
  have hg := hr.lt
  go_wp2_with fail
  refine (fields_own g w.heap.size 0 9 _ (by omega) (by omega) (by omega) hr).mono ?_
  rintro e w2 ⟨v, fs, rfl, ho, hne, hok, hn, hd⟩
  have hform : ∃ gb c, v = .slice (some ⟨gb, 0, none⟩) fs.length c := by
    rcases ho.2 with ⟨h, _⟩ | ⟨gb, c, _, h, _⟩
    · exact absurd h hne
    · exact ⟨gb, c, h⟩
  obtain ⟨gb, c, rfl⟩ := hform
  clear hne
  go_wp2_with fail
  refine (pick_lit g 2 2 rfl (by decide) w.heap.size _ _ (by omega) (by decide) hd.1).mono ?_
  rintro e w3 ⟨r, rfl, hr2, -, hd3⟩
  have ho3 := own_drawn ho hg hd3.2
  have hD3 := hd.trans hd3
  clear ho hd hd3
  by_cases h0 : r = 0
  · subst h0
    go_wp2_with fail
    refine (wants_any g w.heap.size _ _ (by omega) hD3.1).mono ?_
    rintro e w4 ⟨s, rfl, hs, hd4⟩
    have ho4 := own_drawn ho3 hg hd4.2
    have hD4 := hD3.trans hd4
    have hvl := ho4.lt
    clear ho3 hd4 hD3
    have hsz4 := hD4.2.size
    go_wp2_with (at_builtin; go_must (refine wpList_append_lies _ rfl _ _ 23 (by rfl) w1.heap.size 27 i0 _ 2 32 Tryz.underlying23 HIN.out hz0 hz1 hz2 (by rfl) (by decide) _ fs.length (fcells fs) (by rfl) (ho4.alloc _) ⟨w4.heap.size, 0, none⟩ 1 1 [.string ⟨#[97, 99, 99, 101, 112, 116]⟩, .string s] (by rfl) (by rfl) (pair_new w4 _ s _) (by intro x hx; simp at hx; rcases hx with rfl | rfl <;> rfl) (by omega) (by unfold maxLen; omega) (by omega) (by simp; omega) (w4.heap.size + 1) (by simp) ?_); intro g5 cap5 w5 ho5 hg5 hat5 hlt5)
    have hD5 := drawn_grown (hD4.alloc (.cells #[.string ⟨#[97, 99, 99, 101, 112, 116]⟩, .string s] 27)) hg5 hg (fun r hr => (hvl r hr).1)
    have HF := Lib.hid (hb.trans ((hD5.below hg).mono (by exact Nat.le_refl _)))
    have HO : Hid (w5.ownsRow w1.heap.size 27 2 (.slice (some ⟨g5, 0, none⟩) (fs ++ [(bAccept, s)]).length cap5) (fs ++ [(bAccept, s)]).length (fcells (fs ++ [(bAccept, s)]))) := Lib.hid (by
      rw [fcells_app, List.length_append]
      exact ho5)
    clear hg5 hD4 hD5 ho4 ho5
    go_wp2
    go_ret
    refine ⟨⟨g5, cap5, fs ++ [(bAccept, s)], by rw [List.length_append]; rfl, ⟨_, HO.out⟩, ?_, by simp; omega⟩, HF.out⟩
    intro f hf
    rcases List.mem_append.1 hf with hf | hf
    · exact ⟨Nat.le_trans (hok f hf).1 (by omega), Nat.le_trans (hok f hf).2 (by omega)⟩
    · have : f = (bAccept, s) := by simpa using hf
      subst this; exact ⟨(show bAccept.size ≤ 70 from by decide), hs⟩
  · have hz : ((r : Int) == 0) = false := beq_eq_false_iff_ne.2 (by omega)
    have HF := Lib.hid (hb.trans ((hD3.below hg).mono (by exact Nat.le_refl _)))
    have HO := Lib.hid ho3
    clear h0 hD3 ho3
    go_wp2
    go_ret
    exact ⟨⟨_, _, fs, rfl, ⟨_, HO.out⟩, fun f hf => ⟨Nat.le_trans (hok f hf).1 (by omega), Nat.le_trans (hok f hf).2 (by omega)⟩, by omega⟩, HF.out⟩

set_option maxHeartbeats 1600000 in
theorem gd_wants (v1 v2 : Value) (fs : List Wt) (w : World) (hF1 : WRow w v1 fs) (hF2 : WRow w v2 fs) (hn : fs.length ≤ 2000000) :
    Calls Tryz.prog 12 #[v1, v2] w fun e w' => e = .returned (.bool true) ∧ ∃ n, w' = w.drewN n := by
  obtain ⟨a1, c1, rfl, _, _, h1⟩ := hF1
  obtain ⟨a2, c2, rfl, _, _, h2⟩ := hF2
  have H1 := Lib.hid h1; have H2 := Lib.hid h2; clear h1 h2
  go_enter Tryz.func12, Tryz.ntmps12
  go_wp2
  go_loopw [5] (fun i wr => ∃ k : Nat, k ≤ fs.length ∧ i = .int .i64 k ∧ ∃ n, wr = w.drewN n) (fun i _ => fs.length - (intOf i).toNat)
  case atStart => exact ⟨0, Nat.zero_le _, rfl, 0, rfl⟩
  case round =>
    obtain ⟨k, hk, rfl, n, rfl⟩ := hrel
    by_cases hlt : k < fs.length
    · obtain ⟨b1, o1, rfl, hb1, c1, d1⟩ := H1.out k fs[k] (List.getElem?_eq_getElem hlt)
      obtain ⟨b2, o2, rfl, hb2, c2, d2⟩ := H2.out k fs[k] (List.getElem?_eq_getElem hlt)
      generalize fs[k] = f at *
      obtain ⟨x, y⟩ := f
      simp only at c1 d1 c2 d2
      clear H1 H2
      have i1 : (k : Int) < (fs.length : Int) := by omega
      go_wp2_with fail
      go_quiet (fail)
      all_goals go_wp2
      go_roundw
      case rel => exact ⟨k + 1, by omega, by go_num, _, rfl⟩
      case measure => simp [intOf]; omega
    · have hkn : k = fs.length := by omega
      subst hkn
      go_wp2
      go_ret
      exact ⟨rfl, n, rfl⟩

theorem allTo_cons (f : Fd) (fs : List Fd) (s : ByteArray) : ∀ k, k ≤ fs.length → allTo (f :: fs) s (k + 1) = (if f.1 = s then [f.2] else []) ++ allTo fs s k := by
  intro k
  induction k with
  | zero =>
    intro _
    rw [allTo_at (f := f) s rfl]
    split <;> simp [allTo]
  | succ k ih =>
    intro hk
    have hf := List.getElem?_eq_getElem (show k < fs.length from by omega)
    have hf2 : (f :: fs)[k + 1]? = some fs[k] := by simp
    rw [allTo_at s hf2, allTo_at s hf, ih (by omega)]
    split
    · rw [List.append_assoc]
    · rfl
theorem codOf_more (x y : ByteArray) (fs : List Fd) (h : x ≠ bAccept) : codOfF ((x, y) :: fs) = codOfF fs := by
  unfold codOfF
  rw [List.length_cons, allTo_cons _ _ _ _ (Nat.le_refl _), if_neg h, List.nil_append]
theorem fcells_one (fs : List Fd) : ∀ u ∈ fcells fs, u.oneCell' = true := by
  intro u hu
  obtain ⟨f, _, hf⟩ := List.mem_flatMap.1 hu
  simp at hf
  rcases hf with rfl | rfl <;> rfl
theorem own_frow {w : World} {B : Nat} {T : TypeId} {v : Value} {fs : List Fd} (h : w.ownsRow B T 2 v fs.length (fcells fs)) : FRow w v fs := by
  rcases h.2 with ⟨rfl, h0⟩ | ⟨b, cap, cur, rfl, hb, hh, hn, hm, _, _⟩
  · have : fs = [] := List.eq_nil_of_length_eq_zero h0
    subst this
    exact ⟨none, 0, rfl, Nat.le_refl _, Nat.zero_le _, fun j f hj => by simp at hj⟩
  · have hadd : ∀ k, (⟨b, 0, none⟩ : Addr).add k = ⟨b, k, none⟩ := fun k => by unfold Addr.add; split <;> simp_all
    refine ⟨_, cap, rfl, hn, hm, fun j f hj => ⟨b, 0, rfl, (Array.getElem?_eq_some_iff.1 hh).1, ?_, ?_⟩⟩
    · have := h.cells (g := b) rfl _ _ (fcells_at hj).1
      rw [hadd] at this
      rw [Nat.zero_add]; exact this
    · have := h.cells (g := b) rfl _ _ (fcells_at hj).2
      rw [hadd] at this
      rw [Nat.zero_add]; exact this

set_option maxRecDepth 100000 in
set_option maxHeartbeats 6400000 in
theorem law_codof (a : Option Addr) (len cap : Nat) (zs : List Int) (w : World) (h : IsRow .u8 w a len cap zs) (hd : Cds w) (hc : Cls w) (he : Errs w) :
    Calls Tryz.prog 3 #[.slice a len cap] w fun e w' => e = .returned (.bool true) ∧ Below w.heap.size w w' := by
  obtain ⟨i0, hi, hz0, hz1, hz2⟩ := info_parts Tryz.infoFd
  have hlen := isrow_len h
  have HI := Lib.hid h; have HIN := Lib.hid hi
  have HX : Hid (∀ W, Below w.heap.size w W → Cds W ∧ Cls W ∧ Errs W) := Lib.hid fun W hW => ⟨hd.below hW (Nat.le_refl _), hc.below hW (Nat.le_refl _), he.below hW (Nat.le_refl _)⟩
  clear h hi hd hc he
  by_cases hbig : 1048576 < len
  · go_enter Tryz.func3, Tryz.ntmps3
    go_wp2_with fail
    go_ret
    exact ⟨rfl, Below.refl _ _⟩
  go_enter Tryz.func3, Tryz.ntmps3
  go_wp2_with fail
  refine (draw_codof a len cap zs _ HI.out).mono ?_
  rintro e w1 ⟨⟨g, c, fs, rfl, ⟨B, ho⟩, hok, hn⟩, hb1⟩
  have HOK : Hid (FOk fs 1048576) := Lib.hid fun f hf => ⟨Nat.le_trans (hok f hf).1 (by omega), Nat.le_trans (hok f hf).2 (by omega)⟩
  have HO : Hid (∀ W, Below w1.heap.size w1 W → W.ownsRow B 27 2 (.slice (some ⟨g, 0, none⟩) fs.length c) fs.length (fcells fs)) := Lib.hid fun W hW => own_below ho hW
  have HF : Hid (∀ W, Below w1.heap.size w1 W → FRow W (.slice (some ⟨g, 0, none⟩) fs.length c) fs) := Lib.hid fun W hW => own_frow (HO.out W hW)
  have hn2 : fs.length ≤ 2000000 := by omega
  have hs1 := hb1.size
  obtain ⟨k1, k2, k3⟩ := HX.out _ hb1
  have HC1 := Lib.hid (impl_codof _ fs _ (HF.out _ (Below.refl _ _)) HOK.out hn2 k1 k2 k3)
  have HB1 := Lib.hid hb1
  clear ho k1 k2 k3 hb1
  go_wp2_with fail
  refine HC1.out.mono ?_
  rintro e w2 ⟨rfl, hb2⟩
  have HC2 := Lib.hid (spec_codof _ fs _ (HF.out _ hb2) HOK.out hn2)
  clear HC1
  go_wp2_with fail
  refine HC2.out.mono ?_
  rintro e w3 ⟨rfl, hb3⟩
  have hb13 := hb2.trans (hb3.mono hb2.size)
  clear hb2 hb3 HC2
  have HM : Hid ((w3.alloc (.cells #[.string ⟨#[120, 45, 49]⟩, .string ⟨#[98, 114]⟩] 27)).ownsRow w3.heap.size 27 2 (.slice (some ⟨w3.heap.size, 0, none⟩) 1 1) 1 [.string ⟨#[120, 45, 49]⟩, .string ⟨#[98, 114]⟩]) := Lib.hid ⟨rfl, .inr ⟨w3.heap.size, 1, _, rfl, Nat.le_refl _, heap_alloc_new w3 _, Nat.le_refl _, by unfold maxLen; omega, rfl, rfl⟩⟩
  have HA : Hid (Below w3.heap.size w3 (w3.alloc (.cells #[.string ⟨#[120, 45, 49]⟩, .string ⟨#[98, 114]⟩] 27))) := Lib.hid ((Below.refl _ _).alloc (Nat.le_refl _) _)
  have hsrc : ∀ j u, (fcells fs)[j]? = some u → (w3.alloc (.cells #[.string ⟨#[120, 45, 49]⟩, .string ⟨#[98, 114]⟩] 27)).cell? ((⟨g, 0, none⟩ : Addr).add j) = some u := (HO.out _ (hb13.alloc hb13.size _)).cells rfl
  have HS := Lib.hid hsrc
  have hs13 := hb13.size
  have HB13 := Lib.hid hb13
  have hone := one_sizeK HOK.out bAccept
  have hno := fun v (h : oneOf (allTo fs bAccept fs.length) = (v, false)) => codOf_no h
  have hbad := fun v (h : oneOf (allTo fs bAccept fs.length) = (v, true)) (k : codParse v.data.toList = none) => codOf_bad h k
  have hI1 : ∀ W, Below w1.heap.size w1 W → Calls Tryz.prog 8 #[.slice (some ⟨g, 0, none⟩) fs.length c, .string bAccept] W fun e w' => e = .returned (.tuple #[.string (oneOf (allTo fs bAccept fs.length)).1, .bool (oneOf (allTo fs bAccept fs.length)).2]) ∧ Below W.heap.size W w' := fun W hW =>
    impl_one _ fs bAccept W (HF.out W hW) (fun f hf => ⟨Nat.le_trans (hok f hf).1 (by omega), Nat.le_trans (hok f hf).2 (by omega)⟩) hn2 (by decide)
  have HMore : Hid (codOfF ((⟨#[120, 45, 49]⟩, ⟨#[98, 114]⟩) :: fs) = codOfF fs) := Lib.hid (codOf_more _ _ fs (by unfold bAccept; intro e; injection e with e; revert e; decide))
  clear hsrc hb13
  go_wp2_with (at_builtin; go_must (refine wpList_append_own _ rfl _ _ 23 (by rfl) w3.heap.size 27 i0 _ 2 32 Tryz.underlying23 HIN.out hz0 hz1 hz2 (by rfl) (by decide) _ 1 _ (by rfl) HM.out ⟨g, 0, none⟩ fs.length c (fcells fs) (by rfl) (fcells_len fs) HS.out (fcells_one fs) (by unfold maxLen; omega) (by omega) (by simp) ?_); intro v4 w4 ho4 hg4 _)
  have hb4 := HA.out.grown hg4 (by simp) (fun k hk => by cases hk; exact Nat.le_refl _)
  have ho5 : w4.ownsRow w3.heap.size 27 2 v4 (((⟨#[120, 45, 49]⟩, ⟨#[98, 114]⟩) : Fd) :: fs).length (fcells ((⟨#[120, 45, 49]⟩, ⟨#[98, 114]⟩) :: fs)) := by
    rw [List.length_cons, Nat.add_comm]; exact ho4
  have hr5 := own_frow ho5
  have hb14 := HB13.out.trans (hb4.mono hs13)
  have hb04 := HB1.out.trans (hb14.mono hs1)
  obtain ⟨k1, k2, k3⟩ := HX.out _ hb04
  have HC3 := impl_codof _ _ _ hr5 (fun f hf => by
    rcases List.mem_cons.1 hf with rfl | hf
    · exact ⟨(show (ByteArray.mk #[120, 45, 49]).size ≤ 1048576 from by decide), (show (ByteArray.mk #[98, 114]).size ≤ 1048576 from by decide)⟩
    · exact HOK.out f hf) (by rw [List.length_cons]; omega) k1 k2 k3
  rw [HMore.out] at HC3
  have HC4 := Lib.hid HC3
  clear ho4 ho5 hr5 hg4 HC3 hb4 k1 k2 k3 HM HA HS
  refine HC4.out.mono ?_
  rintro e w5 ⟨rfl, hb5⟩
  have hb15 := hb14.trans (hb5.mono hb14.size)
  have HI1 := Lib.hid (hI1 w5 hb15)
  clear HC4 hb14 hI1
  generalize codOfF fs = M at *
  generalize oneOf (allTo fs bAccept fs.length) = O at *
  obtain ⟨x, one⟩ := O
  simp only at hone HI1
  unfold bAccept at HI1
  go_wp2_with fail
  refine HI1.out.mono ?_
  rintro e w6 ⟨rfl, hb6⟩
  have hb16 := hb15.trans (hb6.mono hb15.size)
  have hb06 := HB1.out.trans (hb16.mono hs1)
  cases one
  · have hM := hno x rfl
    subst hM
    go_wp2_with fail
    refine (gd_ok _ (HX.out _ hb06).2.1).mono ?_
    rintro e w7 ⟨rfl, rfl⟩
    go_wp2
    go_ret
    exact ⟨rfl, hb06⟩
  · obtain ⟨k1, k2, k3⟩ := HX.out _ hb06
    have HP1 := impl_codparse x w6 hone k1 k2 k3
    have HP2 : ∀ W, Calls Tryz.prog 11 #[.string x] W fun e w' => PRet W.heap.size x.data.toList e w' ∧ Below W.heap.size W w' := fun W => spec_codparse x W hone
    have hbd := hbad x rfl
    unfold PRet at HP1 HP2
    have hl5 : ((codParse x.data.toList).getD []).length ≤ 2000000 := by
      unfold codParse
      split
      · cases h : codAll (partsL x.data.toList 44) with
        | none => exact Nat.zero_le _
        | some ws => simp only [Option.getD_some]; rw [codAll_len h]; omega
      · exact Nat.zero_le _
    generalize codParse x.data.toList = R at *
    have HP1' := Lib.hid HP1; have HP2' := Lib.hid HP2
    clear HP1 HP2 k1 k2 k3
    go_wp2_with fail
    refine HP1'.out.mono ?_
    rintro e w7 ⟨⟨u1, wsx, rfl, hwx, ho7⟩, hb7⟩
    rw [hwx] at ho7
    clear hwx wsx
    have hr7 := Lib.hid (wrow_of_own ho7)
    have hb07 := hb06.trans (hb7.mono hb06.size)
    clear ho7 hb7
    go_wp2_with fail
    refine (HP2'.out _).mono ?_
    rintro e w8 ⟨⟨u2, wsx, rfl, hwx, ho8⟩, hb8⟩
    rw [hwx] at ho8
    clear hwx wsx
    have hr8 := wrow_of_own ho8
    have hr78 := hr7.out.below (Nat.le_refl _) hb8
    have hb08 := hb07.trans (hb8.mono hb07.size)
    clear ho8 hb8
    go_wp2_with fail
    refine (gd_wants u1 u2 _ _ hr78 hr8 hl5).mono ?_
    rintro e w9 ⟨rfl, n9, rfl⟩
    have HBF := Lib.hid (below_drewN (n := n9) hb08)
    cases R with
    | none =>
      have hM := hbd rfl
      subst hM
      simp only [Option.isSome_none]
      go_wp2
      go_ret
      exact ⟨rfl, HBF.out⟩
    | some ws =>
      simp only [Option.isSome_some]
      clear hbd
      go_wp2
      go_ret
      exact ⟨rfl, HBF.out⟩
namespace Lw
theorem fnCodOf (w : World) (hL : laidMetH Tryz.prog Rows.fnCodOfRow.laid w) (a : Option Addr) (len cap : Nat) (zs : List Int) (h : IsRow .u8 w a len cap zs) :
    Calls Tryz.prog 3 #[.slice a len cap] w fun e w' => e = .returned (.bool true) ∧ Below w.heap.size w w' := by
  have hL' : laidMet Tryz.prog Rows.fnCodOfRow.laid w := hL
  exact law_codof a len cap zs w h (cds_of_head hL'.tail.tail.tail.tail.tail.tail.tail) (cls_of_head hL'.tail.tail.tail.tail.tail.tail) (errs_of_heads hL'.tail.tail.tail.tail)
end Lw
end Go.Proofs.YtlfcamapjeldjaaGreatDoor
