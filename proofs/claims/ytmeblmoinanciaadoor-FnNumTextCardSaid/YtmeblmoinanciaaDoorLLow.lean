/- The laws on names and small letters, over drawn inputs. -/
import Derived.Test.YtmeblmoinanciaaDoorLaid
import Derived.Test.YtmeblmoinanciaaDoorLower
import Derived.Test.YtmeblmoinanciaaDoorTrim
import Derived.Test.YtmeblmoinanciaaDoorDrawD
namespace Go.Proofs.YtmeblmoinanciaaDoor
open Go.RowKit

set_option maxHeartbeats 400000 in
theorem gd_ok (w : World) (h : Cls w) :
    Calls Tryd.prog 17 #[] w fun e w' => e = .returned (.bool true) ∧ w = w' := by
  have ht := impl_tok ⟨#[97]⟩ w (by decide) h
  rw [show tokB (ByteArray.mk #[97]).data.toList = true from by decide] at ht
  have HT := Lib.hid ht; clear ht h
  go_enter Tryd.func17, Tryd.ntmps17
  go_wp2_with fail
  refine HT.out.mono ?_
  rintro e w' ⟨rfl, rfl⟩
  go_wp2
  go_ret
  exact ⟨rfl, rfl⟩

theorem lowB_idem (c : UInt8) : lowB (lowB c) = lowB c := by
  have hc := c.toNat_lt
  unfold lowB
  by_cases h : isGreat c = true
  · rw [if_pos h]
    have h2 : 65 ≤ c.toNat ∧ c.toNat ≤ 90 := by unfold isGreat at h; simpa using h
    have h3 : (c + 32).toNat = c.toNat + 32 := by
      rw [UInt8.toNat_add]
      have : (32 : UInt8).toNat = 32 := rfl
      rw [this]; omega
    rw [if_neg]
    unfold isGreat; rw [h3]; simp; omega
  · rw [if_neg h, if_neg h]
theorem lowL_idem (l : List UInt8) : lowL (lowL l) = lowL l := by
  unfold lowL
  rw [List.map_map]
  apply List.map_congr_left
  intro c _
  exact lowB_idem c

theorem lowB_cases (c : UInt8) : (65 ≤ c.toNat ∧ c.toNat ≤ 90 ∧ (lowB c).toNat = c.toNat + 32) ∨ (c.toNat < 65 ∧ lowB c = c) ∨ (90 < c.toNat ∧ lowB c = c) := by
  have hc := c.toNat_lt
  unfold lowB
  by_cases h : isGreat c = true
  · rw [if_pos h]
    have h2 : 65 ≤ c.toNat ∧ c.toNat ≤ 90 := by unfold isGreat at h; simpa using h
    refine .inl ⟨h2.1, h2.2, ?_⟩
    rw [UInt8.toNat_add]
    have : (32 : UInt8).toNat = 32 := rfl
    rw [this]; omega
  · rw [if_neg h]
    have h2 : ¬ (65 ≤ c.toNat ∧ c.toNat ≤ 90) := fun hh => h (by unfold isGreat; simpa using hh)
    rcases Nat.lt_or_ge c.toNat 65 with h3 | h3
    · exact .inr (.inl ⟨h3, rfl⟩)
    · exact .inr (.inr ⟨by omega, rfl⟩)

set_option maxRecDepth 100000 in
set_option maxHeartbeats 1600000 in
theorem law_txtlower (a : Option Addr) (len cap : Nat) (zs : List Int) (w : World) (h : IsRow .u8 w a len cap zs) (hc : Cls w) :
    Calls Tryd.prog 6 #[.slice a len cap] w fun e w' => e = .returned (.bool true) ∧ Below w.heap.size w w' := by
  have hlm : len ≤ 9223372036854775807 := by
    rcases h with ⟨_, rfl, _⟩ | ⟨x, _, h1, h2, _⟩
    · omega
    · unfold maxLen at h2; omega
  by_cases hbig : 1048576 < len
  · clear h hc
    go_enter Tryd.func6, Tryd.ntmps6
    go_wp2_with fail
    go_ret
    exact ⟨rfl, Below.refl _ _⟩
  · have HC := Lib.hid hc; clear hc
    go_enter Tryd.func6, Tryd.ntmps6
    go_wp2_with fail
    refine (draw_lower _ _ _ _ _ h).mono ?_
    rintro e w1 ⟨s, rfl, hs, hb1⟩
    clear h
    have hc1 := HC.out.below hb1 (Nat.le_refl _)
    go_wp2_with fail
    refine (impl_lower s _ (by unfold maxLen; omega) hc1).mono ?_
    rintro e w2 ⟨rfl, hb2⟩
    have hbel2 := hb1.trans (hb2.mono hb1.size)
    clear hc1
    go_wp2_with fail
    refine (spec_lower s _ (by omega)).mono ?_
    rintro e w3 ⟨rfl, hb3⟩
    have hbel3 := hbel2.trans (hb3.mono hbel2.size)
    have hc3 := HC.out.below hbel3 (Nat.le_refl _)
    have htd : (ByteArray.mk (lowL s.data.toList).toArray).data.toList = lowL s.data.toList := by simp
    have hts : (ByteArray.mk (lowL s.data.toList).toArray).size = s.size := by rw [size_len, size_len]; simp [lowL]
    simp only [strV]
    generalize ht : ByteArray.mk (lowL s.data.toList).toArray = t at *
    have hidem : strV (lowL t.data.toList) = .string t := by rw [htd, lowL_idem]; exact congrArg Value.string ht
    have HTD := Lib.hid htd; have HTS := Lib.hid hts; have HID := Lib.hid hidem; have HT := Lib.hid ht
    clear htd hts hidem ht
    have htz : t.size ≤ 60 := by rw [HTS.out]; exact hs
    have hne : ((t.size : Int) != (s.size : Int)) = false := by rw [HTS.out]; simp
    go_wp2_with fail
    refine (impl_lower t _ (by unfold maxLen; omega) hc3).mono ?_
    rintro e w4 ⟨rfl, hb4⟩
    have hbel4 := hbel3.trans (hb4.mono hbel3.size)
    have hc4 := HC.out.below hbel4 (Nat.le_refl _)
    have HC4 := Lib.hid hc4; clear hc4 hc3
    rw [HID.out]
    clear hbel2 hbel3 hb1 hb2 hb3 hb4
    go_wp2_with fail
    go_loopw [5] (fun i wr => ∃ k : Nat, k ≤ s.size ∧ i = .int .i64 k ∧ ∃ n, wr = w4.drewN n) (fun i _ => s.size - (intOf i).toNat)
    case atStart => exact ⟨0, Nat.zero_le _, rfl, 0, rfl⟩
    case round =>
      obtain ⟨k, hk, rfl, n, rfl⟩ := hrel
      by_cases hlt : k < s.size
      · have hkt : k < t.size := by rw [HTS.out]; exact hlt
        have htk : t[k] = lowB s[k] := by
          have h1 := at_get t k hkt
          rw [HTD.out] at h1
          unfold lowL at h1
          rw [List.getElem?_map, at_get s k hlt] at h1
          exact (Option.some.inj h1).symm
        have hcs := lowB_cases s[k]
        rw [← htk] at hcs
        have h8 := s[k].toNat_lt
        clear htk
        rcases hcs with ⟨h1, h2, h3⟩ | ⟨h1, h3⟩ | ⟨h1, h3⟩
        · have e1 : ((t[k].toNat : Int) != (s[k].toNat : Int)) = true := by rw [bne_iff_ne]; omega
          have e2 : IntKind.u8.wrap ((s[k].toNat : Int) + 32) = (s[k].toNat : Int) + 32 := IntWalk.u8_in _ (by omega)
          have e3 : ((t[k].toNat : Int) != (s[k].toNat : Int) + 32) = false := by rw [h3]; simp
          have g1 : decide ((65 : Int) ≤ (t[k].toNat : Int)) = true := decide_eq_true (by omega)
          have g2 : decide ((t[k].toNat : Int) ≤ 90) = false := decide_eq_false (by omega)
          have H3 := Lib.hid h3; clear h3
          go_wp2_with fail
          go_quiet (fail)
          go_wp2
          go_roundw
          case rel => exact ⟨k + 1, by omega, by go_num, _, rfl⟩
          case measure => simp [intOf]; omega
        · have e1 : ((t[k].toNat : Int) != (s[k].toNat : Int)) = false := by rw [h3]; simp
          have g1 : decide ((65 : Int) ≤ (t[k].toNat : Int)) = false := decide_eq_false (by rw [h3]; omega)
          have H3 := Lib.hid h3; clear h3
          go_wp2_with fail
          go_quiet (fail)
          go_wp2
          go_roundw
          case rel => exact ⟨k + 1, by omega, by go_num, _, rfl⟩
          case measure => simp [intOf]; omega
        · have e1 : ((t[k].toNat : Int) != (s[k].toNat : Int)) = false := by rw [h3]; simp
          have g1 : decide ((65 : Int) ≤ (t[k].toNat : Int)) = true := decide_eq_true (by rw [h3]; omega)
          have g2 : decide ((t[k].toNat : Int) ≤ 90) = false := decide_eq_false (by rw [h3]; omega)
          have H3 := Lib.hid h3; clear h3
          go_wp2_with fail
          go_quiet (fail)
          go_wp2
          go_roundw
          case rel => exact ⟨k + 1, by omega, by go_num, _, rfl⟩
          case measure => simp [intOf]; omega
      · go_wp2_with fail
        refine (gd_ok _ (HC4.out.drewN n)).mono ?_
        rintro e w5 ⟨rfl, rfl⟩
        go_wp2
        go_ret
        exact ⟨rfl, below_drewN hbel4⟩
end Go.Proofs.YtmeblmoinanciaaDoor
