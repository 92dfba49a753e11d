/- Walks: cutting spaces off. -/
import Derived.Test.YtncegikmpapldaaGreatDoorTok
import Derived.Test.YtncegikmpapldaaGreatDoorShelf
import Derived.Lib.TrimByte
namespace Go.Proofs.YtncegikmpapldaaGreatDoor
open Go.RowKit

def Head32 (l : List UInt8) (k : Nat) : Prop := ∀ (j : Nat) b, j < k → l[j]? = some b → b = 32
def Stop32 (l : List UInt8) (k : Nat) : Prop := ∀ b, l[k]? = some b → b ≠ 32
def Tail32 (l : List UInt8) (m : Nat) : Prop := ∀ (j : Nat) b, m ≤ j → l[j]? = some b → b = 32

theorem byte_ne32 {b : UInt8} (h : b ≠ 32) : ((b.toNat : Int) == 32) = false := by
  rw [beq_eq_false_iff_ne]
  intro e
  apply h
  apply UInt8.toNat_inj.mp
  have : (32 : UInt8).toNat = 32 := rfl
  omega
theorem byte_eq32 {b : UInt8} (h : b = 32) : ((b.toNat : Int) == 32) = true := by subst h; rfl
theorem head32_step {s : ByteArray} {k : Nat} (hk : k < s.size) (h : Head32 s.data.toList k) (hb : s[k] = 32) : Head32 s.data.toList (k + 1) := by
  intro j b hj hjb
  rcases Nat.lt_or_ge j k with h1 | h1
  · exact h j b h1 hjb
  · have : j = k := by omega
    subst this
    rw [at_get s j hk] at hjb
    injection hjb with e
    rw [← e, hb]
theorem tail32_end (s : ByteArray) : Tail32 s.data.toList s.size := by
  intro j b hj hjb
  rw [List.getElem?_eq_none (by rw [← size_len]; exact hj)] at hjb; cases hjb
theorem tail32_step {s : ByteArray} {m : Nat} (hm : m < s.size) (h : Tail32 s.data.toList (m + 1)) (hb : s[m] = 32) : Tail32 s.data.toList m := by
  intro j b hj hjb
  rcases Nat.lt_or_ge m j with h1 | h1
  · exact h j b h1 hjb
  · have : j = m := by omega
    subst this
    rw [at_get s j hm] at hjb
    injection hjb with e
    rw [← e, hb]

theorem trim_fin (s : ByteArray) (k m : Nat) (hkm : k ≤ m) (hm : m ≤ s.size) (h1 : Head32 s.data.toList k) (h2 : Stop32 s.data.toList k) (h3 : Tail32 s.data.toList m)
    (h4 : m = k ∨ ∀ b, s.data.toList[m - 1]? = some b → b ≠ 32) : s.extract k m = ⟨(Lib.trimB s.data.toList 32).toArray⟩ := by
  have hlen := size_len s
  have hex : s.extract k m = ⟨((s.data.toList.take m).drop k).toArray⟩ := by
    apply ByteArray.ext
    apply Array.toList_inj.mp
    rw [ByteArray.data_extract, Array.toList_extract, List.extract_eq_take_drop, List.drop_take]
  rw [hex]
  congr 2
  unfold Lib.trimB
  rcases Nat.lt_or_ge k m with hlt | hge
  · have h4' := h4.resolve_left (by omega)
    rw [Lib.trimRightB_take s.data.toList 32 m (by omega) (fun j b hj hb => h3 j b hj hb) (fun b _ hb => h4' b hb)]
    rw [Lib.trimLeftB_drop (s.data.toList.take m) 32 k (by rw [List.length_take]; omega) (fun j b hj hb => ?_) (fun b hb => ?_)]
    · rw [List.getElem?_take, if_pos (by omega)] at hb
      exact h1 j b hj hb
    · rw [List.getElem?_take, if_pos hlt] at hb
      exact h2 b hb
  · have e : m = k := by omega
    subst e
    have hall : ∀ (j : Nat) b, s.data.toList[j]? = some b → b = 32 := fun j b hb => by
      rcases Nat.lt_or_ge j m with h | h
      · exact h1 j b h hb
      · exact h3 j b h hb
    rw [Lib.trimRightB_take s.data.toList 32 0 (by omega) (fun j b _ hb => hall j b hb) (fun b h0 _ => by omega)]
    rw [List.drop_of_length_le (by rw [List.length_take]; omega)]
    rfl

set_option maxHeartbeats 800000 in
theorem spec_trim (s : ByteArray) (w : World) (hs : s.size ≤ maxLen) :
    Calls Tryz.prog 151 #[.string s] w fun e w' => e = .returned (strV (Lib.trimB s.data.toList 32)) ∧ w = w' := by
  unfold maxLen at hs
  go_enter Tryz.func151, Tryz.ntmps151
  go_wp2_with fail
  go_loop [3] (fun i => ∃ k : Nat, k ≤ s.size ∧ i = .int .i64 k ∧ Head32 s.data.toList k) (fun i => s.size - (intOf i).toNat)
  case atStart => exact ⟨0, Nat.zero_le _, rfl, fun j b hj _ => by omega⟩
  case round =>
    obtain ⟨k, hk, rfl, hlo⟩ := hrel
    have HLO := Lib.hid hlo; clear hlo
    by_cases hlt : k < s.size
    · by_cases hb : s[k] = 32
      · have he : ((s[k].toNat : Int) == 32) = true := byte_eq32 hb
        have hst := head32_step hlt HLO.out hb
        have HST := Lib.hid hst; clear hst hb
        go_wp2
        go_round
        case rel => exact ⟨k + 1, by omega, by go_num, HST.out⟩
        case measure => simp [intOf]; omega
      · have he : ((s[k].toNat : Int) == 32) = false := byte_ne32 hb
        have hex : Stop32 s.data.toList k := by
          intro b hb2
          rw [at_get s k hlt] at hb2
          exact fun e => hb ((Option.some.inj hb2).trans e)
        have HEX := Lib.hid hex; clear hex hb
        go_wp2_with fail
        have hk2 : k ≤ s.size := hk
        clear hk
        go_loop [4] (fun i => ∃ m : Nat, k ≤ m ∧ m ≤ s.size ∧ i = .int .i64 m ∧ Tail32 s.data.toList m) (fun i => (intOf i).toNat)
        case atStart => exact ⟨s.size, hk2, Nat.le_refl _, rfl, tail32_end s⟩
        case round =>
          obtain ⟨m, hkm, hm, rfl, ht⟩ := hrel
          have HT := Lib.hid ht; clear ht
          by_cases hgt : k < m
          · obtain ⟨m', rfl⟩ : ∃ m', m = m' + 1 := ⟨m - 1, by omega⟩
            have hml : m' < s.size := by omega
            by_cases hb : s[m'] = 32
            · have he : ((s[m'].toNat : Int) == 32) = true := byte_eq32 hb
              have hst := tail32_step hml HT.out hb
              have HST := Lib.hid hst; clear hst hb
              go_wp2
              go_round
              case rel => exact ⟨m', by omega, by omega, by go_num, HST.out⟩
              case measure => first | (simp [intOf]; done) | (simp [intOf]; omega)
            · have he : ((s[m'].toNat : Int) == 32) = false := byte_ne32 hb
              have hfin := trim_fin s k (m' + 1) hkm hm HLO.out HEX.out HT.out (.inr (by
                intro b hb2
                rw [Nat.add_sub_cancel, at_get s m' hml] at hb2
                exact fun e => hb ((Option.some.inj hb2).trans e)))
              have HF := Lib.hid hfin; clear hfin hb
              go_wp2
              go_ret
              exact ⟨congrArg (fun x => Ending.returned (Value.string x)) HF.out, rfl⟩
          · have hkm' : m = k := by omega
            subst hkm'
            have hfin := trim_fin s m m (Nat.le_refl _) hm HLO.out HEX.out HT.out (.inl rfl)
            rw [show s.extract m m = ByteArray.empty from by simp] at hfin
            have HF := Lib.hid hfin; clear hfin
            go_wp2
            go_ret
            exact ⟨congrArg (fun x => Ending.returned (Value.string x)) HF.out, rfl⟩
    · have hex : Stop32 s.data.toList k := by
        intro b hb2
        rw [List.getElem?_eq_none (by rw [← size_len]; omega)] at hb2; cases hb2
      have HEX := Lib.hid hex; clear hex
      go_wp2_with fail
      have hk2 : k ≤ s.size := hk
      clear hk
      go_loop [4] (fun i => ∃ m : Nat, k ≤ m ∧ m ≤ s.size ∧ i = .int .i64 m ∧ Tail32 s.data.toList m) (fun i => (intOf i).toNat)
      case atStart => exact ⟨s.size, hk2, Nat.le_refl _, rfl, tail32_end s⟩
      case round =>
        obtain ⟨m, hkm, hm, rfl, ht⟩ := hrel
        have HT := Lib.hid ht; clear ht
        by_cases hgt : k < m
        · exfalso; omega
        · have hkm' : m = k := by omega
          subst hkm'
          have hfin := trim_fin s m m (Nat.le_refl _) hm HLO.out HEX.out HT.out (.inl rfl)
          rw [show s.extract m m = ByteArray.empty from by simp] at hfin
          have HF := Lib.hid hfin; clear hfin
          go_wp2
          go_ret
          exact ⟨congrArg (fun x => Ending.returned (Value.string x)) HF.out, rfl⟩

set_option maxHeartbeats 400000 in
theorem fresh_t (s : ByteArray) (w : World) (hs : s.size ≤ 281474976710656) :
    Calls Tryz.prog 51 #[.string s] w fun e w' => e = .returned (.string s) ∧ Below w.heap.size w w' := by
  go_enter Tryz.func51, Tryz.ntmps51
  go_wp2_with (first | (go_at_call 133; refine (Tryz.stringslite_Clone _ _ hs).mono ?_; rintro e w' ⟨rfl, hb⟩) | go_in)
  go_ret
  exact ⟨rfl, hb⟩

set_option maxHeartbeats 400000 in
theorem text_trim (s : ByteArray) (w : World) (hs : s.size ≤ maxLen) :
    Calls Tryz.prog 146 #[.string s] w fun e w' => e = .returned (strV (Lib.trimB s.data.toList 32)) ∧ ∃ n, w' = w.drewN n := by
  go_enter Tryz.func146, Tryz.ntmps146
  go_wp2_with fail
  refine (Tryz.strings_Trim_one s 32 (by decide) _ (by unfold maxLen at hs; omega)).mono ?_
  rintro e w1 ⟨rfl, hw⟩
  have hw' : ∃ n, w1 = w.drewN n := by
    rcases hw with rfl | rfl
    · exact ⟨0, rfl⟩
    · exact ⟨1, rfl⟩
  obtain ⟨n, rfl⟩ := hw'
  clear hw
  go_wp2
  go_ret
  exact ⟨rfl, n, rfl⟩

theorem trimB_len (l : List UInt8) (c : UInt8) : (Lib.trimB l c).length ≤ l.length := by
  unfold Lib.trimB Lib.trimLeftB Lib.trimRightB
  have h1 := (List.dropWhile_sublist (· == c) (l := (l.reverse.dropWhile (· == c)).reverse)).length_le
  have h2 := (List.dropWhile_sublist (· == c) (l := l.reverse)).length_le
  simp at h1 h2 ⊢
  omega

set_option maxHeartbeats 400000 in
theorem impl_trim (s : ByteArray) (w : World) (hs : s.size ≤ 281474976710656) :
    Calls Tryz.prog 139 #[.string s] w fun e w' => e = .returned (strV (Lib.trimB s.data.toList 32)) ∧ Below w.heap.size w w' := by
  have hl := trimB_len s.data.toList 32
  have hl2 : (ByteArray.mk (Lib.trimB s.data.toList 32).toArray).size ≤ 281474976710656 := by rw [size_len] at hs ⊢; simp only; omega
  clear hl
  generalize hq : Lib.trimB s.data.toList 32 = q at *
  have HQ := Lib.hid hq; clear hq
  go_enter Tryz.func139, Tryz.ntmps139
  go_wp2_with fail
  refine (text_trim _ _ (by unfold maxLen; omega)).mono ?_
  rintro e w1 ⟨rfl, n, rfl⟩
  rw [HQ.out]
  go_wp2_with fail
  refine (fresh_t _ _ hl2).mono ?_
  rintro e w2 ⟨rfl, hb⟩
  go_wp2
  go_ret
  exact ⟨rfl, below_drewN_left hb⟩

namespace Lw
end Lw
end Go.Proofs.YtncegikmpapldaaGreatDoor
