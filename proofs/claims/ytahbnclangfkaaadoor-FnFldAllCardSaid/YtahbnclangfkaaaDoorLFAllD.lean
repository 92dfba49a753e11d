/- The law on all values of a name, drawn. -/
import Derived.Test.YtahbnclangfkaaaDoorDrawL2
import Derived.Test.YtahbnclangfkaaaDoorFOne
import Derived.Test.YtahbnclangfkaaaDoorGdT
namespace Go.Proofs.YtahbnclangfkaaaDoor
open Go.RowKit Go.Maps

theorem str_refl (a : ByteArray) : (a.toList != a.toList) = false := by simp
theorem sV_map (L : List ByteArray) : L.map sV = (L.map fun s => s.data.toList).map strV := by
  rw [List.map_map]
  refine List.map_congr_left fun s _ => ?_
  simp [sV, strV]
theorem all_prefix (fs : List Fd) (s : ByteArray) (k N : Nat) (h : k ≤ N) : ∃ t, allTo fs s N = allTo fs s k ++ t := by
  induction N with
  | zero => have : k = 0 := by omega
            subst this; exact ⟨[], by simp⟩
  | succ N ih =>
    rcases Nat.lt_or_ge N k with hk | hk
    · have : k = N + 1 := by omega
      subst this; exact ⟨[], by simp⟩
    · obtain ⟨t, ht⟩ := ih hk
      cases hf : fs[N]? with
      | none => exact ⟨t, by rw [← ht]; simp [allTo, hf]⟩
      | some f =>
        rw [allTo_at s hf]
        split
        · exact ⟨t ++ [f.2], by rw [ht, List.append_assoc]⟩
        · exact ⟨t, ht⟩
/-- The next value of the name is where it should be. -/
theorem all_next {fs : List Fd} {s : ByteArray} {k : Nat} {f : Fd} (hf : fs[k]? = some f) (hs : f.1 = s) : (allTo fs s k).length < (allTo fs s fs.length).length ∧ (allTo fs s fs.length)[(allTo fs s k).length]? = some f.2 := by
  have hk : k < fs.length := (List.getElem?_eq_some_iff.1 hf).1
  obtain ⟨t, ht⟩ := all_prefix fs s (k + 1) fs.length (by omega)
  rw [allTo_at s hf, if_pos hs] at ht
  rw [ht]
  constructor
  · simp
  · rw [List.append_assoc, List.getElem?_append_right (Nat.le_refl _), Nat.sub_self]; rfl
theorem all_step_len {fs : List Fd} {s : ByteArray} {k : Nat} {f : Fd} (hf : fs[k]? = some f) : (allTo fs s (k + 1)).length = (allTo fs s k).length + if f.1 = s then 1 else 0 := by
  rw [allTo_at s hf]
  split <;> simp

theorem oneOf_cases (l : List ByteArray) : (∃ x, l = [x] ∧ oneOf l = (x, true)) ∨ (l.length ≠ 1 ∧ oneOf l = (⟨#[]⟩, false)) := by
  by_cases h : l.length = 1
  · exact .inl (oneOf_one h)
  · exact .inr ⟨h, oneOf_not h⟩

theorem FOk.mono {fs : List Fd} {K K' : Nat} (h : FOk fs K) (hK : K ≤ K') : FOk fs K' := fun f hf => ⟨Nat.le_trans (h f hf).1 hK, Nat.le_trans (h f hf).2 hK⟩

set_option maxRecDepth 100000 in
set_option maxHeartbeats 3200000 in
theorem law_fldall (a : Option Addr) (len cap : Nat) (zs : List Int) (w : World) (h : IsRow .u8 w a len cap zs) (hcls : Cls w) :
    Calls Tryd.prog 5 #[.slice a len cap] w fun e w' => e = .returned (.bool true) ∧ Below w.heap.size w w' := by
  have hlen := isrow_len h
  have HI := Lib.hid h
  have hCl : ∀ W, Below w.heap.size w W → Cls W := fun W hW => hcls.below hW (Nat.le_refl _)
  have HC := Lib.hid hCl
  clear h hcls hCl
  by_cases hbig : 1048576 < len
  · go_enter Tryd.func5, Tryd.ntmps5
    go_wp2_with fail
    go_ret
    exact ⟨rfl, Below.refl _ _⟩
  · go_enter Tryd.func5, Tryd.ntmps5
    go_wp2_with fail
    refine (draw_fldall a len cap zs _ HI.out).mono ?_
    rintro e w1 ⟨v, fs, s, rfl, hF, hok, hn, hs, hb1⟩
    have hn' : fs.length ≤ 2000000 := by omega
    have hs' : s.size ≤ maxLen := by unfold maxLen; omega
    have hok' : FOk fs 281474976710656 := hok.mono (by omega)
    have HF := Lib.hid hF; have HS := Lib.hid hs'; have HO := Lib.hid hok'
    have hvl : ∃ va vc, v = .slice va fs.length vc := by
      obtain ⟨va, vc, e, _⟩ := hF
      exact ⟨va, vc, e⟩
    obtain ⟨va, vc, rfl⟩ := hvl
    clear hF hok hok' hs'
    go_wp2_with fail
    refine (impl_all _ fs s _ HF.out HO.out hn' HS.out).mono ?_
    rintro e w2 ⟨u1, rfl, ho2, hb2⟩
    have hF2 := Lib.hid (HF.out.below (Nat.le_refl _) hb2)
    have hb02 := hb1.trans (hb2.mono hb1.size)
    go_wp2_with fail
    refine (impl_one _ fs s _ hF2.out HO.out hn' HS.out).mono ?_
    rintro e w3 ⟨rfl, hb3⟩
    have hF3 := Lib.hid (hF2.out.below (Nat.le_refl _) hb3)
    have hb03 := hb02.trans (hb3.mono hb02.size)
    have ho3 := own_below ho2 hb3
    have hpre := fun (k : Nat) (f : Fd) (hf : fs[k]? = some f) (e : f.1 = s) => all_next hf e
    have hstp := fun (k : Nat) (f : Fd) (hf : fs[k]? = some f) => all_step_len (s := s) hf
    have hall := all_len fs s fs.length
    generalize hL : allTo fs s fs.length = L at *
    have HL := Lib.hid hL
    clear hL ho2
    have hone := oneOf_cases L
    generalize hO : oneOf L = O at *
    have HOne := Lib.hid hO
    clear hO
    obtain ⟨os, ob⟩ := O
    have hrf := str_refl os
    go_wp2_with fail
    refine (spec_one _ fs s _ hF3.out hn').mono ?_
    rintro e w4 ⟨rfl, hb4⟩
    rw [HL.out, HOne.out]
    have hF4 := Lib.hid (hF3.out.below (Nat.le_refl _) hb4)
    have hb04 := hb03.trans (hb4.mono hb03.size)
    have ho4 := own_below ho3 hb4
    clear ho3
    go_wp2_with fail
    refine (spec_all _ fs s _ hF4.out hn').mono ?_
    rintro e w5 ⟨u2, rfl, ho52, hb5⟩
    rw [HL.out] at ho52
    have hF5 := Lib.hid (hF4.out.below (Nat.le_refl _) hb5)
    have hb05 := hb04.trans (hb5.mono hb04.size)
    have ho5 := own_below ho4 hb5
    have hr1 : Rd1 w5 u1 ((L.map fun s => s.data.toList).map strV) := by rw [← sV_map]; exact Rd1.of_own ho5
    have hr2 : Rd1 w5 u2 ((L.map fun s => s.data.toList).map strV) := by rw [← sV_map]; exact Rd1.of_own ho52
    clear ho4 ho52 hF2 hF3 hF4 HF hb2 hb3 hb4 hb5 hb02 hb03 hb04
    go_wp2_with fail
    refine (gd_texts _ _ _ _ hr1 hr2).mono ?_
    rintro e w6 ⟨rfl, n6, rfl⟩
    have HC5 := Lib.hid (HC.out _ hb05)
    have HB5 := Lib.hid hb05
    have hu1 : ∃ ua uc, u1 = .slice ua L.length uc ∧ ∀ j x, L[j]? = some x → ∃ g, ua = some ⟨g, 0, none⟩ ∧ w5.cell? ⟨g, j, none⟩ = some (.string x) := by
      rcases ho5.2 with ⟨e1, e2⟩ | ⟨g, cap', cur, e1, _⟩
      · exact ⟨none, 0, by rw [e1, e2], fun j x hj => by rw [List.eq_nil_of_length_eq_zero e2] at hj; simp at hj⟩
      · refine ⟨some ⟨g, 0, none⟩, cap', e1, fun j x hj => ⟨g, rfl, ?_⟩⟩
        rw [e1] at ho5
        exact own_cell ho5 (by rw [List.getElem?_map, hj]; rfl)
    obtain ⟨ua, uc, rfl, hua⟩ := hu1
    obtain ⟨fa, fc, hfe, _, _, hfc⟩ := hF5.out
    injection hfe with hfe1 hfe2 hfe3
    subst hfe1
    have HUA := Lib.hid hua; have HFC := Lib.hid hfc; have HPre := Lib.hid hpre; have HStp := Lib.hid hstp; have HOn := Lib.hid hone
    clear hua hfc hpre hstp hone hr1 hr2 ho5 hF5 hb05 HI HO hfe2 hfe3 HC
    go_wp2
    go_loopw [10, 11] (fun n i wr => ∃ k c : Nat, k ≤ fs.length ∧ i = .int .i64 k ∧ n = .int .i64 (c : Int) ∧ Hid (c = (allTo fs s k).length) ∧ c ≤ k ∧ ∃ d, wr = w5.drewN d) (fun _ i _ => fs.length - (intOf i).toNat)
    case atStart => exact ⟨0, 0, Nat.zero_le _, rfl, rfl, Lib.hid rfl, Nat.le_refl _, n6, rfl⟩
    case round =>
      obtain ⟨k, c, hk, rfl, rfl, hc, hck, d, rfl⟩ := hrel
      by_cases hlt : k < fs.length
      · obtain ⟨b1, o1, rfl, hb1, c1, c2⟩ := HFC.out k fs[k] (List.getElem?_eq_getElem hlt)
        obtain ⟨f, hf⟩ : ∃ f, f = fs[k] := ⟨_, rfl⟩
        rw [← hf] at c1 c2
        have hfk : fs[k]? = some f := by rw [hf]; exact List.getElem?_eq_getElem hlt
        clear hf
        have hstep := HStp.out k f hfk
        have hpr := HPre.out k f hfk
        rw [← hc.out] at hstep hpr
        obtain ⟨nm, vl⟩ := f
        simp only at c1 c2 hstep hpr
        by_cases he : nm = s
        · obtain ⟨p1, p2⟩ := hpr he
          obtain ⟨g, rfl, c3⟩ := HUA.out c vl p2
          rw [if_pos he] at hstep
          have HS2 := Lib.hid hstep
          clear hstep hpr p2 hfk
          subst he
          have i1 : (c : Int) < (L.length : Int) := by omega
          have i2 : (k : Int) < (fs.length : Int) := by omega
          have i3 : decide ((L.length : Int) ≤ (c : Int)) = false := by simp; omega
          have i4 := str_refl vl
          go_wp2_with fail
          go_quiet (fail)
          go_wp2
          go_roundw
          case rel => exact ⟨k + 1, c + 1, by omega, by go_num, by go_num, Lib.hid HS2.out.symm, by omega, _, rfl⟩
          case measure => simp [intOf]; omega
        · rw [if_neg he] at hstep
          have HS2 := Lib.hid hstep
          have hse := str_ne he
          clear hstep hpr hfk
          go_wp2
          go_roundw
          case rel => exact ⟨k + 1, c, by omega, by go_num, by go_num, Lib.hid HS2.out.symm, by omega, _, rfl⟩
          case measure => simp [intOf]; omega
      · have hkn : k = fs.length := by omega
        subst hkn
        have hcL : c = L.length := by rw [hc.out, HL.out]
        subst hcL
        have hcl2 := HC5.out.drewN d
        have hbl := below_drewN (n := d) HB5.out
        rcases HOn.out with ⟨x, hx, ho⟩ | ⟨hx, ho⟩
        · injection ho with ho1 ho2
          subst ho1 ho2 hx
          obtain ⟨g, rfl, c3⟩ := HUA.out 0 os rfl
          simp only [List.length_singleton] at *
          have i4 : (os.toList == os.toList) = true := by simp
          go_wp2_with fail
          refine (gd_ok _ hcl2).mono ?_
          rintro e w9 ⟨rfl, rfl⟩
          go_wp2
          go_ret
          exact ⟨rfl, hbl⟩
        · injection ho with ho1 ho2
          subst ho1 ho2
          have hx1 : ((L.length : Int) == 1) = false := by simp; omega
          go_wp2_with fail
          refine (gd_ok _ hcl2).mono ?_
          rintro e w9 ⟨rfl, rfl⟩
          go_wp2
          go_ret
          exact ⟨rfl, hbl⟩
namespace Lw
theorem fnFldAll (w : World) (hL : laidMetH Tryd.prog Rows.fnFldAllRow.laid w) (a : Option Addr) (len cap : Nat) (zs : List Int) (h : IsRow .u8 w a len cap zs) :
    Calls Tryd.prog 5 #[.slice a len cap] w fun e w' => e = .returned (.bool true) ∧ Below w.heap.size w w' := law_fldall a len cap zs w h (cls_of_head hL)
end Lw
end Go.Proofs.YtahbnclangfkaaaDoor
