/- Fields: which are valid. -/
import Derived.Test.YtncegikmpapldaaGreatDoorTrim
import Derived.Test.YtncegikmpapldaaGreatDoorLaid
namespace Go.Proofs.YtncegikmpapldaaGreatDoor
open Go.RowKit

def printC (c : UInt8) : Bool := decide (32 ≤ c.toNat) && decide (c.toNat ≤ 126)
def printB (l : List UInt8) : Bool := l.all printC
def valB (l : List UInt8) : Bool := decide (l.length ≤ 30) && printB l && decide (Lib.trimB l 32 = l)
def fdB (f : ByteArray × ByteArray) : Bool := tokB f.1.data.toList && valB f.2.data.toList

theorem str_inj2 {a b : ByteArray} (h : a.data.toList = b.data.toList) : a = b := by
  cases a; cases b; simpa [Array.toList_inj] using h
theorem mk_same {l : List UInt8} {s : ByteArray} (h : l = s.data.toList) : (⟨l.toArray⟩ : ByteArray) = s := by rw [h, mk_toList]
theorem mk_ne {l : List UInt8} {s : ByteArray} (h : l ≠ s.data.toList) : ((⟨l.toArray⟩ : ByteArray).toList == s.toList) = false := by
  rw [Lib.toList_data, Lib.toList_data]
  simpa using h

set_option maxHeartbeats 400000 in
theorem printable (s : ByteArray) (w : World) (hs : s.size ≤ maxLen) :
    Calls Tryz.prog 111 #[.string s] w fun e w' => e = .returned (.bool (printB s.data.toList)) ∧ w = w' := by
  unfold maxLen at hs
  go_enter Tryz.func111, Tryz.ntmps111
  go_wp2_with fail
  go_loop [6] (fun i => ∃ k : Nat, k ≤ s.size ∧ i = .int .i64 k ∧ (s.data.toList.take k).all printC = true) (fun i => s.size - (intOf i).toNat)
  case atStart => exact ⟨0, Nat.zero_le _, rfl, by simp⟩
  case round =>
    obtain ⟨k, hk, rfl, hall⟩ := hrel
    by_cases hlt : k < s.size
    · by_cases hp : printC s[k] = true
      · have hstep := all_take_succ hlt hall hp
        simp only [printC, Bool.and_eq_true, decide_eq_true_eq] at hp
        obtain ⟨p1, p2⟩ := hp
        have HS := Lib.hid hstep
        clear hstep hall
        go_wp2
        go_round
        case rel => exact ⟨k + 1, by omega, by go_num, HS.out⟩
        case measure => simp [intOf]; omega
      · have hf : printB s.data.toList = false := all_false_at hlt (by simpa using hp)
        have HF := Lib.hid hf
        have hp' : s[k].toNat < 32 ∨ 126 < s[k].toNat := by
          simp only [printC, Bool.and_eq_true, decide_eq_true_eq] at hp; omega
        clear hf hp hall
        rcases hp' with hp' | hp'
        · go_wp2
          go_ret
          rw [HF.out]; exact ⟨rfl, rfl⟩
        · have hp2 : 32 ≤ s[k].toNat := by omega
          go_wp2
          go_ret
          rw [HF.out]; exact ⟨rfl, rfl⟩
    · go_wp2
      go_ret
      have hf : printB s.data.toList = true := all_of_take (by omega) hall
      rw [hf]; exact ⟨rfl, rfl⟩

theorem valB_len {l : List UInt8} (h : ¬ l.length ≤ 30) : valB l = false := by simp [valB, h]
theorem valB_print {l : List UInt8} (h : printB l = false) : valB l = false := by simp [valB, h]
theorem valB_trim {l : List UInt8} (h : ¬ Lib.trimB l 32 = l) : valB l = false := by simp [valB, h]
theorem valB_yes {l : List UInt8} (h1 : l.length ≤ 30) (h2 : printB l = true) (h3 : Lib.trimB l 32 = l) : valB l = true := by simp [valB, h1, h2, h3]

set_option maxHeartbeats 800000 in
theorem spec_value (s : ByteArray) (w : World) (hs : s.size ≤ maxLen) :
    Calls Tryz.prog 120 #[.string s] w fun e w' => e = .returned (.bool (valB s.data.toList)) ∧ w = w' := by
  have hs' := hs
  unfold maxLen at hs'
  by_cases h1 : s.size ≤ 30
  · have h30 : s.data.toList.length ≤ 30 := by rw [← size_len]; exact h1
    have ht := fun W => spec_trim s W hs
    by_cases h2 : Lib.trimB s.data.toList 32 = s.data.toList
    · have hbase : ∀ b, printB s.data.toList = b → valB s.data.toList = b := fun b hb => by
        cases b
        · exact valB_print hb
        · exact valB_yes h30 hb h2
      have HB := Lib.hid hbase; clear hbase
      rw [h2] at ht
      unfold strV at ht
      rw [mk_toList] at ht
      clear h2 h30
      go_enter Tryz.func120, Tryz.ntmps120
      go_wp2_with fail
      refine (ht _).mono ?_
      rintro e w' ⟨rfl, rfl⟩
      go_wp2_with fail
      go_loop [3] (fun i => ∃ k : Nat, k ≤ s.size ∧ i = .int .i64 k ∧ (s.data.toList.take k).all printC = true) (fun i => s.size - (intOf i).toNat)
      case atStart => exact ⟨0, Nat.zero_le _, rfl, by simp⟩
      case round =>
        obtain ⟨k, hk, rfl, hall⟩ := hrel
        by_cases hlt : k < s.size
        · by_cases hp : printC s[k] = true
          · have hstep := all_take_succ hlt hall hp
            simp only [printC, Bool.and_eq_true, decide_eq_true_eq] at hp
            obtain ⟨p1, p2⟩ := hp
            have HS := Lib.hid hstep
            clear hstep hall
            go_wp2
            go_round
            case rel => exact ⟨k + 1, by omega, by go_num, HS.out⟩
            case measure => simp [intOf]; omega
          · have hf : printB s.data.toList = false := all_false_at hlt (by simpa using hp)
            have HF := Lib.hid (HB.out _ hf)
            have hp' : s[k].toNat < 32 ∨ 126 < s[k].toNat := by
              simp only [printC, Bool.and_eq_true, decide_eq_true_eq] at hp; omega
            clear hf hp hall
            rcases hp' with hp' | hp'
            · go_wp2
              go_ret
              rw [HF.out]; exact ⟨rfl, rfl⟩
            · have hp2 : 32 ≤ s[k].toNat := by omega
              go_wp2
              go_ret
              rw [HF.out]; exact ⟨rfl, rfl⟩
        · go_wp2
          go_ret
          have hf : printB s.data.toList = true := all_of_take (by omega) hall
          rw [HB.out _ hf]; exact ⟨rfl, rfl⟩
    · have HF := Lib.hid (valB_trim h2)
      have hne := mk_ne h2
      unfold strV at ht
      clear h2
      generalize (ByteArray.mk (Lib.trimB s.data.toList 32).toArray) = t at *
      go_enter Tryz.func120, Tryz.ntmps120
      go_wp2_with fail
      refine (ht _).mono ?_
      rintro e w' ⟨rfl, rfl⟩
      go_wp2
      go_ret
      rw [HF.out]; exact ⟨rfl, rfl⟩
  · have HF := Lib.hid (valB_len (l := s.data.toList) (by rw [← size_len]; exact h1))
    go_enter Tryz.func120, Tryz.ntmps120
    go_wp2
    go_ret
    rw [HF.out]; exact ⟨rfl, rfl⟩
end Go.Proofs.YtncegikmpapldaaGreatDoor
