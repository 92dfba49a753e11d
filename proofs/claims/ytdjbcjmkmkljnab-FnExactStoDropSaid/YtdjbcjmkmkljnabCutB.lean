/- Walks: cutting a text at a byte. -/
import Derived.Test.YtdjbcjmkmkljnabRows
import Derived.Test.YtdjbcjmkmkljnabPure
import Derived.Test.YtdjbcjmkmkljnabShelf
import Derived.WalkKit
import Derived.WalkSpells
import Derived.WalkLawsBesides
import Derived.BigQuiet
import Derived.Lib.Hide
namespace Go.Proofs.Ytdjbcjmkmkljnab
open Go.RowKit

theorem idx (s : ByteArray) (c : UInt8) (w : World) : Calls Try.prog 54 #[.string s, .int .u8 c.toNat] w fun e w' => e = .returned (.int .i64 (Lib.indexByte s.data.toList c)) ∧ w = w' := by
  have h := Try.strings_IndexByte s c.toNat w
  rw [show (c.toNat : Int).toNat.toUInt8 = c from by simp] at h
  exact h.mono fun e w' ⟨a, b⟩ => ⟨a, b.symm⟩

set_option maxHeartbeats 400000 in
theorem textcut_no (s : ByteArray) (c : UInt8) (w : World) (h : Lib.indexByte s.data.toList c < 0) :
    Calls Try.prog 46 #[.string s, .int .u8 c.toNat] w fun e w' => e = .returned (.tuple #[.string s, .string ⟨#[]⟩, .bool false]) ∧ w = w' := by
  go_enter Try.func46, Try.ntmps46
  go_wp2_with fail
  refine (idx _ _ _).mono ?_
  rintro e w' ⟨rfl, rfl⟩
  go_wp2_with fail
  go_ret3
  exact ⟨rfl, rfl⟩

set_option maxHeartbeats 400000 in
theorem textcut_yes (s : ByteArray) (c : UInt8) (k : Nat) (w : World) (h : Lib.indexByte s.data.toList c = k) (hs : s.size ≤ maxLen) (hk : k < s.size) :
    Calls Try.prog 46 #[.string s, .int .u8 c.toNat] w fun e w' => e = .returned (.tuple #[.string (s.extract 0 k), .string (s.extract (k+1) s.size), .bool true]) ∧ ∃ n, w' = w.drewN n := by
  unfold maxLen at hs
  have H := Lib.hid h; clear h
  go_enter Try.func46, Try.ntmps46
  go_wp2_with fail
  refine (idx _ _ _).mono ?_
  rintro e w' ⟨rfl, rfl⟩
  rw [H.out]
  go_wp2_with fail
  go_quiet (fail)
  go_wp2
  go_ret3
  exact ⟨rfl, _, rfl⟩

theorem textcut (s : ByteArray) (c : UInt8) (w : World) (hs : s.size ≤ maxLen) :
    Calls Try.prog 46 #[.string s, .int .u8 c.toNat] w fun e w' => e = .returned (.tuple #[.string ⟨(cutL s.data.toList c).1.toArray⟩, .string ⟨(cutL s.data.toList c).2.1.toArray⟩, .bool (cutL s.data.toList c).2.2]) ∧ ∃ n, w' = w.drewN n := by
  by_cases h : Lib.indexByte s.data.toList c < 0
  · refine (textcut_no s c w h).mono fun e w' ⟨he, hw⟩ => ⟨?_, 0, hw.symm⟩
    rw [he, cutL_no _ _ (indexByte_no h), mk_toList]
  · obtain ⟨k, hk⟩ := Int.eq_ofNat_of_zero_le (by omega : 0 ≤ Lib.indexByte s.data.toList c)
    obtain ⟨h1, h2, h3⟩ := indexByte_yes k hk
    refine (textcut_yes s c k w hk hs (by rw [size_len]; exact h1)).mono fun e w' ⟨he, hw⟩ => ⟨?_, hw⟩
    rw [he, cutL_at h2 h3, ext_take, ext_drop]

set_option maxHeartbeats 400000 in
theorem spec_cut (s : ByteArray) (c : UInt8) (w : World) (hs : s.size ≤ maxLen) :
    Calls Try.prog 44 #[.string s, .int .u8 c.toNat] w fun e w' => e = .returned (.tuple #[.string ⟨(cutL s.data.toList c).1.toArray⟩, .string ⟨(cutL s.data.toList c).2.1.toArray⟩, .bool (cutL s.data.toList c).2.2]) ∧ ∃ n, w' = w.drewN n := by
  unfold maxLen at hs
  go_enter Try.func44, Try.ntmps44
  go_wp2_with fail
  go_loop [7] (fun i => ∃ k : Nat, k ≤ s.size ∧ i = .int .i64 k ∧ c ∉ s.data.toList.take k) (fun i => s.size - (intOf i).toNat)
  case atStart => exact ⟨0, Nat.zero_le _, rfl, by simp⟩
  case round =>
    obtain ⟨k, hk, rfl, hno⟩ := hrel
    by_cases hlt : k < s.size
    · go_wp2
      · have he : ((s[k].toNat : Int) == (c.toNat : Int)) = true := by assumption
        go_quiet (fail)
        go_wp2
        go_ret3
        refine ⟨?_, _, rfl⟩
        have e : s.data.toList[k]? = some c := by rw [at_get s k hlt, u8_of_int he]
        rw [cutL_at e hno, ← ext_take, ← ext_drop]; rfl
      · have he : ((s[k].toNat : Int) == (c.toNat : Int)) = false := by assumption
        go_round
        case rel => exact ⟨k + 1, by omega, by go_num, notin_succ hlt hno (u8_ne_int he)⟩
        case measure => simp [intOf]; omega
    · go_wp2
      go_ret3
      have e : k = s.data.toList.length := by rw [← size_len]; omega
      rw [e, List.take_length] at hno
      refine ⟨?_, 0, rfl⟩
      rw [cutL_no _ _ hno, mk_toList]; rfl

set_option maxHeartbeats 400000 in
theorem fresh (s : ByteArray) (w : World) (hs : s.size ≤ 281474976710656) :
    Calls Try.prog 47 #[.string s] w fun e w' => e = .returned (.string s) ∧ Below w.heap.size w w' := by
  go_enter Try.func47, Try.ntmps47
  go_wp2_with (first | (go_at_call 59; refine (Try.stringslite_Clone _ _ hs).mono ?_; rintro e w' ⟨rfl, hb⟩) | go_in)
  go_ret
  exact ⟨rfl, hb⟩

end Go.Proofs.Ytdjbcjmkmkljnab
