/- Walks: cutting a text at a byte. -/
import Derived.Test.YtbhnjnoblkfckabDoorRows
import Derived.Test.YtbhnjnoblkfckabDoorPure
import Derived.Test.YtbhnjnoblkfckabDoorShelf
import Derived.WalkKit
import Derived.WalkSpells
import Derived.WalkLawsBesides
import Derived.BigQuiet
import Derived.Lib.Hide
namespace Go.Proofs.YtbhnjnoblkfckabDoor
open Go.RowKit

set_option maxHeartbeats 400000 in
theorem spec_cut (s : ByteArray) (c : UInt8) (w : World) (hs : s.size ≤ maxLen) :
    Calls Tryd.prog 32 #[.string s, .int .u8 c.toNat] w fun e w' => e = .returned (.tuple #[.string ⟨(cutL s.data.toList c).1.toArray⟩, .string ⟨(cutL s.data.toList c).2.1.toArray⟩, .bool (cutL s.data.toList c).2.2]) ∧ ∃ n, w' = w.drewN n := by
  unfold maxLen at hs
  go_enter Tryd.func32, Tryd.ntmps32
  go_wp2_with fail
  go_loop [7] (fun i => ∃ k : Nat, k ≤ s.size ∧ i = .int .i64 k ∧ c ∉ s.data.toList.take k) (fun i => s.size - (intOf i).toNat)
  case atStart => exact ⟨0, Nat.zero_le _, rfl, by simp⟩
  case round =>
    obtain ⟨k, hk, rfl, hno⟩ := hrel
    by_cases hlt : k < s.size
    · go_wp2
      · have he : ((s[k].toNat : Int) == (c.toNat : Int)) = true := by assumption
        go_quiet (fail)
        go_wp2
        go_ret3
        refine ⟨?_, _, rfl⟩
        have e : s.data.toList[k]? = some c := by rw [at_get s k hlt, u8_of_int he]
        rw [cutL_at e hno, ← ext_take, ← ext_drop]; rfl
      · have he : ((s[k].toNat : Int) == (c.toNat : Int)) = false := by assumption
        go_round
        case rel => exact ⟨k + 1, by omega, by go_num, notin_succ hlt hno (u8_ne_int he)⟩
        case measure => simp [intOf]; omega
    · go_wp2
      go_ret3
      have e : k = s.data.toList.length := by rw [← size_len]; omega
      rw [e, List.take_length] at hno
      refine ⟨?_, 0, rfl⟩
      rw [cutL_no _ _ hno, mk_toList]; rfl

end Go.Proofs.YtbhnjnoblkfckabDoor
