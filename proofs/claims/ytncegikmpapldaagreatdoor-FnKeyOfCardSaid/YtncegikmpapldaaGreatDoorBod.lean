/- Walks: which bodies are valid. -/
import Derived.Test.YtncegikmpapldaaGreatDoorFv
namespace Go.Proofs.YtncegikmpapldaaGreatDoor
open Go.RowKit

def bodyB (l : List UInt8) : Bool := decide (l.length ≤ 20) && printB l
set_option maxHeartbeats 800000 in
theorem l4_body (s : ByteArray) (w : World) (hs : s.size ≤ maxLen) :
    Calls Tryz.prog 73 #[.string s] w fun e w' => e = .returned (.bool (bodyB s.data.toList)) ∧ w = w' := by
  unfold maxLen at hs
  by_cases h1 : s.size ≤ 20
  · have hbase : bodyB s.data.toList = printB s.data.toList := by simp [bodyB, h1]
    have HB := Lib.hid hbase; clear hbase
    go_enter Tryz.func73, Tryz.ntmps73
    go_wp2_with fail
    go_loop [3] (fun i => ∃ k : Nat, k ≤ s.size ∧ i = .int .i64 k ∧ (s.data.toList.take k).all printC = true) (fun i => s.size - (intOf i).toNat)
    case atStart => exact ⟨0, Nat.zero_le _, rfl, by simp⟩
    case round =>
      obtain ⟨k, hk, rfl, hall⟩ := hrel
      by_cases hlt : k < s.size
      · by_cases hp : printC s[k] = true
        · have hstep := all_take_succ hlt hall hp
          simp only [printC, Bool.and_eq_true, decide_eq_true_eq] at hp
          obtain ⟨p1, p2⟩ := hp
          have HS := Lib.hid hstep
          clear hstep hall
          go_wp2
          go_round
          case rel => exact ⟨k + 1, by omega, by go_num, HS.out⟩
          case measure => simp [intOf]; omega
        · have hf : printB s.data.toList = false := all_false_at hlt (by simpa using hp)
          have HF := Lib.hid (HB.out.trans hf)
          have hp' : s[k].toNat < 32 ∨ 126 < s[k].toNat := by
            simp only [printC, Bool.and_eq_true, decide_eq_true_eq] at hp; omega
          clear hf hp hall
          rcases hp' with hp' | hp'
          · go_wp2
            go_ret
            rw [HF.out]; exact ⟨rfl, rfl⟩
          · have hp2 : 32 ≤ s[k].toNat := by omega
            go_wp2
            go_ret
            rw [HF.out]; exact ⟨rfl, rfl⟩
      · go_wp2
        go_ret
        have hf : printB s.data.toList = true := all_of_take (by omega) hall
        rw [HB.out, hf]; exact ⟨rfl, rfl⟩
  · have hf : bodyB s.data.toList = false := by simp [bodyB, h1]
    have HF := Lib.hid hf; clear hf
    go_enter Tryz.func73, Tryz.ntmps73
    go_wp2
    go_ret
    rw [HF.out]; exact ⟨rfl, rfl⟩

set_option maxHeartbeats 800000 in
theorem impl_bodyok (s : ByteArray) (m : Nat) (w : World) (hs : s.size ≤ maxLen) :
    Calls Tryz.prog 60 #[.string s, .int .i64 (m : Nat)] w fun e w' => e = .returned (.bool (decide (s.data.toList.length ≤ m) && printB s.data.toList)) ∧ w = w' := by
  have hP := fun W => printable s W hs
  rw [← size_len]
  unfold maxLen at hs
  generalize printB s.data.toList = pb at *
  by_cases hm : s.size ≤ m
  · have i1 : (s.size : Int) ≤ m := by omega
    rw [decide_eq_true hm, Bool.true_and]
    go_enter Tryz.func60, Tryz.ntmps60
    go_wp2_with fail
    refine (hP _).mono ?_
    rintro e w1 ⟨rfl, rfl⟩
    go_wp2
    go_ret
    exact ⟨rfl, rfl⟩
  · have i1 : ¬ (s.size : Int) ≤ m := by omega
    rw [decide_eq_false hm, Bool.false_and]
    go_enter Tryz.func60, Tryz.ntmps60
    go_wp2
    go_ret
    exact ⟨rfl, rfl⟩
end Go.Proofs.YtncegikmpapldaaGreatDoor
