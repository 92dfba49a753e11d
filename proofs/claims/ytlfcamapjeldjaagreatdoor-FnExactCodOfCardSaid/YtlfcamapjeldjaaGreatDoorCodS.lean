/- Walks: one thing that somebody would take, by the specification. -/
import Derived.Test.YtlfcamapjeldjaaGreatDoorCodO
import Derived.Test.YtlfcamapjeldjaaGreatDoorUnder
namespace Go.Proofs.YtlfcamapjeldjaaGreatDoor
open Go.RowKit

theorem l6_names (w : World) : Calls Tryz.prog 66 #[] w fun e w' => e = .returned (.slice (some ⟨w.heap.size, 0, none⟩) 3 3) ∧ w' = w.alloc (.cells #[.string ⟨#[112, 108, 97, 105, 110]⟩, .string ⟨#[103, 122]⟩, .string ⟨#[98, 114]⟩] 9) := by
  go_enter Tryz.func66, Tryz.ntmps66
  go_wp2
  go_ret
  exact ⟨rfl, rfl⟩

set_option maxHeartbeats 1600000 in
theorem l6_code (s : ByteArray) (w : World) :
    Calls Tryz.prog 48 #[.string s] w fun e w' => e = .returned (.int .i64 (codN s.data.toList)) ∧ Below w.heap.size w w' := by
  by_cases cs : s.data.toList = [42]
  · have b0 : (s.toList == [42]) = true := by rw [Lib.toList_data, cs]; rfl
    have HK := Lib.hid (show codN s.data.toList = -1 from if_pos cs)
    clear cs
    go_enter Tryz.func48, Tryz.ntmps48
    go_wp2
    go_ret
    exact ⟨by rw [HK.out]; rfl, Below.refl _ _⟩
  have b9 : (s.toList == [42]) = false := by rw [Lib.toList_data]; exact beq_eq_false_iff_ne.2 cs
  obtain ⟨wA, hwA⟩ : ∃ wA, wA = w.alloc (.cells #[.string ⟨#[112, 108, 97, 105, 110]⟩, .string ⟨#[103, 122]⟩, .string ⟨#[98, 114]⟩] 9) := ⟨_, rfl⟩
  have hN := l6_names w
  rw [← hwA] at hN
  have q0 : wA.cell? ⟨w.heap.size, 0, none⟩ = some (.string ⟨#[112, 108, 97, 105, 110]⟩) := by rw [hwA]; exact World.cell?_alloc_at _ _ _ _ rfl
  have q1 : wA.cell? ⟨w.heap.size, 1, none⟩ = some (.string ⟨#[103, 122]⟩) := by rw [hwA]; exact World.cell?_alloc_at _ _ _ _ rfl
  have q2 : wA.cell? ⟨w.heap.size, 2, none⟩ = some (.string ⟨#[98, 114]⟩) := by rw [hwA]; exact World.cell?_alloc_at _ _ _ _ rfl
  have hb : Below w.heap.size w wA := by rw [hwA]; exact (Below.refl _ _).alloc (Nat.le_refl _) _
  have HB := Lib.hid hb; have HN := Lib.hid hN
  clear hb hN hwA
  by_cases c0 : s.data.toList = nPlain
  · have b0 : ([112, 108, 97, 105, 110] == s.toList) = true := by rw [Lib.toList_data, c0]; rfl
    have HK := Lib.hid (show codN s.data.toList = 0 from by unfold codN; rw [if_neg cs, if_pos c0])
    clear cs c0
    go_enter Tryz.func48, Tryz.ntmps48
    go_wp2_with fail
    refine HN.out.mono ?_
    rintro e w1 ⟨rfl, rfl⟩
    go_wp2
    go_loop [4] (fun i => i = .int .i64 0) (fun _ => 0)
    case atStart => rfl
    case round =>
      subst hrel
      go_wp2
      go_ret
      exact ⟨by rw [HK.out]; rfl, HB.out⟩
  have b0 : ([112, 108, 97, 105, 110] == s.toList) = false := by rw [Lib.toList_data]; exact beq_eq_false_iff_ne.2 fun e => c0 e.symm
  by_cases c1 : s.data.toList = nGz
  · have b1 : ([103, 122] == s.toList) = true := by rw [Lib.toList_data, c1]; rfl
    have HK := Lib.hid (show codN s.data.toList = 1 from by unfold codN; rw [if_neg cs, if_neg c0, if_pos c1])
    clear cs c0 c1
    go_enter Tryz.func48, Tryz.ntmps48
    go_wp2_with fail
    refine HN.out.mono ?_
    rintro e w1 ⟨rfl, rfl⟩
    go_wp2
    go_loop [4] (fun i => i = .int .i64 0 ∨ i = .int .i64 1) (fun i => 2 - (intOf i).toNat)
    case atStart => exact .inl rfl
    case round =>
      rcases hrel with rfl | rfl
      · go_wp2
        go_round
        case rel => exact .inr rfl
        case measure => simp [intOf]
      · go_wp2
        go_ret
        exact ⟨by rw [HK.out]; rfl, HB.out⟩
  have b1 : ([103, 122] == s.toList) = false := by rw [Lib.toList_data]; exact beq_eq_false_iff_ne.2 fun e => c1 e.symm
  by_cases c2 : s.data.toList = nBr
  · have b2 : ([98, 114] == s.toList) = true := by rw [Lib.toList_data, c2]; rfl
    have HK := Lib.hid (show codN s.data.toList = 2 from by unfold codN; rw [if_neg cs, if_neg c0, if_neg c1, if_pos c2])
    clear cs c0 c1 c2
    go_enter Tryz.func48, Tryz.ntmps48
    go_wp2_with fail
    refine HN.out.mono ?_
    rintro e w1 ⟨rfl, rfl⟩
    go_wp2
    go_loop [4] (fun i => i = .int .i64 0 ∨ i = .int .i64 1 ∨ i = .int .i64 2) (fun i => 2 - (intOf i).toNat)
    case atStart => exact .inl rfl
    case round =>
      rcases hrel with rfl | rfl | rfl
      · go_wp2
        go_round
        case rel => exact .inr (.inl rfl)
        case measure => simp [intOf]
      · go_wp2
        go_round
        case rel => exact .inr (.inr rfl)
        case measure => simp [intOf]
      · go_wp2
        go_ret
        exact ⟨by rw [HK.out]; rfl, HB.out⟩
  have b2 : ([98, 114] == s.toList) = false := by rw [Lib.toList_data]; exact beq_eq_false_iff_ne.2 fun e => c2 e.symm
  have HK := Lib.hid (show codN s.data.toList = -2 from by unfold codN; rw [if_neg cs, if_neg c0, if_neg c1, if_neg c2])
  clear cs c0 c1 c2
  go_enter Tryz.func48, Tryz.ntmps48
  go_wp2_with fail
  refine HN.out.mono ?_
  rintro e w1 ⟨rfl, rfl⟩
  go_wp2
  go_loop [4] (fun i => i = .int .i64 0 ∨ i = .int .i64 1 ∨ i = .int .i64 2 ∨ i = .int .i64 3) (fun i => 3 - (intOf i).toNat)
  case atStart => exact .inl rfl
  case round =>
    rcases hrel with rfl | rfl | rfl | rfl
    · go_wp2
      go_round
      case rel => exact .inr (.inl rfl)
      case measure => simp [intOf]
    · go_wp2
      go_round
      case rel => exact .inr (.inr (.inl rfl))
      case measure => simp [intOf]
    · go_wp2
      go_round
      case rel => exact .inr (.inr (.inr rfl))
      case measure => simp [intOf]
    · go_wp2
      go_ret
      exact ⟨by rw [HK.out]; rfl, HB.out⟩
end Go.Proofs.YtlfcamapjeldjaaGreatDoor
