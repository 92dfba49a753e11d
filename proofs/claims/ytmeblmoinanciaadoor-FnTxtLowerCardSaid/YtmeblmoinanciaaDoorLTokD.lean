/- The law on names, over drawn inputs. -/
import Derived.Test.YtmeblmoinanciaaDoorLLow
namespace Go.Proofs.YtmeblmoinanciaaDoor
open Go.RowKit

theorem smalls_low {l : List UInt8} (h : smalls l = true) : lowL l = l := by
  unfold lowL
  have : ∀ c ∈ l, lowB c = c := fun c hc => by
    have h1 := (List.all_eq_true.1 h) c hc
    unfold lowB
    rw [if_neg]
    unfold isSmall at h1; unfold isGreat
    simp at h1 ⊢; omega
  calc l.map lowB = l.map id := List.map_congr_left this
    _ = l := by simp
theorem smalls_trim {l : List UInt8} (h : smalls l = true) : Lib.trimB l 32 = l := by
  have hne : ∀ (j : Nat) b, l[j]? = some b → b ≠ 32 := fun j b hb e => by
    have h1 := (List.all_eq_true.1 h) b (List.mem_of_getElem? hb)
    rw [e] at h1; exact absurd h1 (by decide)
  unfold Lib.trimB
  rw [Lib.trimRightB_take l 32 l.length (Nat.le_refl _) (fun j b hj hb => by rw [List.getElem?_eq_none hj] at hb; cases hb) (fun b _ hb => hne _ b hb)]
  rw [List.take_length, Lib.trimLeftB_drop l 32 0 (by omega) (fun j b hj _ => by omega) (fun b hb => hne _ b hb)]
  rfl

set_option maxRecDepth 100000 in
set_option maxHeartbeats 3200000 in
theorem law_tokd (a : Option Addr) (len cap : Nat) (zs : List Int) (w : World) (h : IsRow .u8 w a len cap zs) (hc : Cls w) :
    Calls Tryd.prog 3 #[.slice a len cap] w fun e w' => e = .returned (.bool true) ∧ Below w.heap.size w w' := by
  have hlm : len ≤ 9223372036854775807 := by
    rcases h with ⟨_, rfl, _⟩ | ⟨x, _, h1, h2, _⟩
    · omega
    · unfold maxLen at h2; omega
  by_cases hbig : 1048576 < len
  · clear h hc
    go_enter Tryd.func3, Tryd.ntmps3
    go_wp2_with fail
    go_ret
    exact ⟨rfl, Below.refl _ _⟩
  · have HC := Lib.hid hc; clear hc
    go_enter Tryd.func3, Tryd.ntmps3
    go_wp2_with fail
    refine (draw_tok _ _ _ _ _ h).mono ?_
    rintro e w1 ⟨s, rfl, hs, hb1⟩
    clear h
    have HC1 := Lib.hid (HC.out.below hb1 (Nat.le_refl _))
    have hok0 : ∃ b0 : Bool, b0 = (decide (1 ≤ s.size) && decide (s.size ≤ 12)) := ⟨_, rfl⟩
    obtain ⟨b0, hb0⟩ := hok0
    have HB0 := Lib.hid hb0; clear hb0
    have hsp : s.size = 0 ∨ (1 ≤ s.size ∧ s.size ≤ 12) ∨ (1 ≤ s.size ∧ 12 < s.size) := by omega
    have key : tokB s.data.toList = (b0 && smalls s.data.toList) := by unfold tokB; rw [← size_len, ← HB0.out]
    have KEY := Lib.hid key; clear key
    rcases hsp with hsp | ⟨hs1, hs2⟩ | ⟨hs1, hs2⟩
    · have hb0 : b0 = false := by rw [HB0.out]; simp [hsp]
      subst hb0
      go_wp2_with fail
      go_loop [4, 5] (fun b i => ∃ k : Nat, k ≤ s.size ∧ i = .int .i64 k ∧ b = .bool false) (fun _ i => s.size - (intOf i).toNat)
      case atStart => exact ⟨0, Nat.zero_le _, rfl, rfl⟩
      case round =>
        obtain ⟨k, hk, rfl, rfl⟩ := hrel
        by_cases hlt : k < s.size
        · exfalso; omega
        · have hkk : tokB s.data.toList = false := by rw [KEY.out]; rfl
          have HK := Lib.hid hkk; clear hkk
          go_wp2_with fail
          refine (impl_tok s _ (by unfold maxLen; omega) HC1.out).mono ?_
          rintro e w2 ⟨rfl, rfl⟩
          rw [HK.out]
          go_wp2_with fail
          refine (spec_tok s _ (by unfold maxLen; omega)).mono ?_
          rintro e w2 ⟨rfl, rfl⟩
          rw [HK.out]
          go_wp2_with fail
          refine (gd_ok _ HC1.out).mono ?_
          rintro e w5 ⟨rfl, rfl⟩
          go_wp2
          go_ret
          exact ⟨rfl, hb1⟩
    · have hb0 : b0 = true := by rw [HB0.out]; simp [hs1, hs2]
      subst hb0
      go_wp2_with fail
      go_loop [4, 5] (fun b i => ∃ k : Nat, k ≤ s.size ∧ i = .int .i64 k ∧ b = .bool (smalls (s.data.toList.take k))) (fun _ i => s.size - (intOf i).toNat)
      case atStart => exact ⟨0, Nat.zero_le _, rfl, by simp [smalls]; omega⟩
      case round =>
        obtain ⟨k, hk, rfl, rfl⟩ := hrel
        by_cases hlt : k < s.size
        · have hstep : smalls (s.data.toList.take (k + 1)) = (smalls (s.data.toList.take k) && isSmall s[k]) := by
            unfold smalls
            rw [take_succ_at (at_get s k hlt), List.all_append]; simp
          have hsm : isSmall s[k] = ((decide (97 ≤ s[k].toNat) && decide (s[k].toNat ≤ 122)) || (decide (48 ≤ s[k].toNat) && decide (s[k].toNat ≤ 57)) || s[k].toNat == 45) := rfl
          generalize smalls (s.data.toList.take k) = b at *
          have HST := Lib.hid hstep; have HSM := Lib.hid hsm; clear hstep hsm
          cases b
          · go_wp2
            go_round
            case rel => exact ⟨k + 1, by omega, by go_num, by rw [HST.out]; rfl⟩
            case measure => simp [intOf]; omega
          · have h8 := s[k].toNat_lt
            have hr : s[k].toNat < 45 ∨ s[k].toNat = 45 ∨ (46 ≤ s[k].toNat ∧ s[k].toNat ≤ 47) ∨ (48 ≤ s[k].toNat ∧ s[k].toNat ≤ 57) ∨ (58 ≤ s[k].toNat ∧ s[k].toNat ≤ 96) ∨ (97 ≤ s[k].toNat ∧ s[k].toNat ≤ 122) ∨ 123 ≤ s[k].toNat := by omega
            rcases hr with hr | hr | ⟨h1, h2⟩ | ⟨h1, h2⟩ | ⟨h1, h2⟩ | ⟨h1, h2⟩ | hr
            all_goals
              go_wp2
              go_round
              case rel =>
                refine ⟨k + 1, by omega, by go_num, ?_⟩
                rw [HST.out, HSM.out, Bool.true_and]
                refine congrArg Value.bool ?_
                rw [Bool.eq_iff_iff]
                first | (simp; done) | (simp; omega)
              case measure => simp [intOf]; omega
        · have hks : s.data.toList.length ≤ k := by rw [← size_len]; omega
          rw [List.take_of_length_le hks]
          have hkk : tokB s.data.toList = smalls s.data.toList := by rw [KEY.out]; rfl
          generalize hbb : smalls s.data.toList = b at hkk ⊢
          have HK := Lib.hid hkk; clear hkk
          have HBB := Lib.hid hbb; clear hbb
          cases b
          · go_wp2_with fail
            refine (impl_tok s _ (by unfold maxLen; omega) HC1.out).mono ?_
            rintro e w2 ⟨rfl, rfl⟩
            rw [HK.out]
            go_wp2_with fail
            refine (spec_tok s _ (by unfold maxLen; omega)).mono ?_
            rintro e w2 ⟨rfl, rfl⟩
            rw [HK.out]
            go_wp2_with fail
            refine (gd_ok _ HC1.out).mono ?_
            rintro e w5 ⟨rfl, rfl⟩
            go_wp2
            go_ret
            exact ⟨rfl, hb1⟩
          · go_wp2_with fail
            refine (impl_tok s _ (by unfold maxLen; omega) HC1.out).mono ?_
            rintro e w2 ⟨rfl, rfl⟩
            rw [HK.out]
            go_wp2_with fail
            refine (spec_tok s _ (by unfold maxLen; omega)).mono ?_
            rintro e w2 ⟨rfl, rfl⟩
            rw [HK.out]
            have hsm : smalls s.data.toList = true := by have := HK.out; rw [KEY.out] at this; simpa using this
            have hlow : strV (lowL s.data.toList) = .string s := by rw [smalls_low hsm]
            have htrim : strV (Lib.trimB s.data.toList 32) = .string s := by rw [smalls_trim hsm]
            have HL := Lib.hid hlow; have HTR := Lib.hid htrim; clear hlow htrim hsm
            go_wp2_with fail
            refine (impl_lower s _ (by unfold maxLen; omega) HC1.out).mono ?_
            rintro e w3 ⟨rfl, hb3⟩
            rw [HL.out]
            have hc3 := HC1.out.below hb3 (Nat.le_refl _)
            go_wp2_with fail
            refine (impl_trim s _ (by omega)).mono ?_
            rintro e w4 ⟨rfl, hb4⟩
            rw [HTR.out]
            have hc4 := hc3.below hb4 (Nat.le_refl _)
            have HC4 := Lib.hid hc4; clear hc3 hc4
            go_wp2_with fail
            refine (gd_ok _ HC4.out).mono ?_
            rintro e w5 ⟨rfl, rfl⟩
            go_wp2
            go_ret
            exact ⟨rfl, hb1.trans ((hb3.trans (hb4.mono hb3.size)).mono hb1.size)⟩
    · have hb0 : b0 = false := by rw [HB0.out]; simp; intro _; omega  -- hs1
      subst hb0
      go_wp2_with fail
      go_loop [4, 5] (fun b i => ∃ k : Nat, k ≤ s.size ∧ i = .int .i64 k ∧ b = .bool false) (fun _ i => s.size - (intOf i).toNat)
      case atStart => exact ⟨0, Nat.zero_le _, rfl, by simp; omega⟩
      case round =>
        obtain ⟨k, hk, rfl, rfl⟩ := hrel
        by_cases hlt : k < s.size
        · go_wp2
          go_round
          case rel => exact ⟨k + 1, by omega, by go_num, rfl⟩
          case measure => simp [intOf]; omega
        · have hkk : tokB s.data.toList = false := by rw [KEY.out]; rfl
          have HK := Lib.hid hkk; clear hkk
          go_wp2_with fail
          refine (impl_tok s _ (by unfold maxLen; omega) HC1.out).mono ?_
          rintro e w2 ⟨rfl, rfl⟩
          rw [HK.out]
          go_wp2_with fail
          refine (spec_tok s _ (by unfold maxLen; omega)).mono ?_
          rintro e w2 ⟨rfl, rfl⟩
          rw [HK.out]
          go_wp2_with fail
          refine (gd_ok _ HC1.out).mono ?_
          rintro e w5 ⟨rfl, rfl⟩
          go_wp2
          go_ret
          exact ⟨rfl, hb1⟩
namespace Lw
theorem fnTok (w : World) (hL : laidMetH Tryd.prog Rows.fnTokRow.laid w) (a : Option Addr) (len cap : Nat) (zs : List Int) (h : IsRow .u8 w a len cap zs) :
    Calls Tryd.prog 3 #[.slice a len cap] w fun e w' => e = .returned (.bool true) ∧ Below w.heap.size w w' := by
  have hL' : laidMet Tryd.prog Rows.fnTokRow.laid w := hL
  exact law_tokd a len cap zs w h (cls_of_head hL'.tail)
theorem fnTxtLower (w : World) (hL : laidMetH Tryd.prog Rows.fnTxtLowerRow.laid w) (a : Option Addr) (len cap : Nat) (zs : List Int) (h : IsRow .u8 w a len cap zs) :
    Calls Tryd.prog 6 #[.slice a len cap] w fun e w' => e = .returned (.bool true) ∧ Below w.heap.size w w' := by
  have hL' : laidMet Tryd.prog Rows.fnTxtLowerRow.laid w := hL
  exact law_txtlower a len cap zs w h (cls_of_head hL')
end Lw
end Go.Proofs.YtmeblmoinanciaaDoor
