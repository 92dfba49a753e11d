/- Walks: a set of codings as a text. -/
import Derived.Test.YtlfcamapjeldjaaDoorCodP
import Derived.Test.YtlfcamapjeldjaaDoorMaskB
import Derived.Test.YtlfcamapjeldjaaDoorLaidC
namespace Go.Proofs.YtlfcamapjeldjaaDoor
open Go.RowKit

/-- A set's text, by what is in it. -/
def codTB (b0 b1 b2 : Bool) : List UInt8 := (if b0 = true then nPlain else nPlain ++ [59, 113, 61, 48]) ++ (if b1 = true then [44, 32, 103, 122] else []) ++ (if b2 = true then [44, 32, 98, 114] else [])
theorem codT_in {m : Int} (hm : 0 ≤ m ∧ m < 8) : codT m = codTB (inB m 0) (inB m 1) (inB m 2) := by
  unfold codT codTB
  rw [if_pos hm, inB_ok hm, inB_ok hm, inB_ok hm]
  simp
theorem codT_out {m : Int} (hm : ¬ (0 ≤ m ∧ m < 8)) : codT m = [] := if_neg hm

set_option maxHeartbeats 1600000 in
theorem txti000 (m : Int) (w : World) (hm : 0 ≤ m ∧ m < 8) (hc : Cds w) (h0 : inB m 0 = false) (h1 : inB m 1 = false) (h2 : inB m 2 = false) :
    Calls Tryd.prog 30 #[.int .i64 m] w fun e w' => e = .returned (.string ⟨#[112, 108, 97, 105, 110, 59, 113, 61, 48]⟩) ∧ w = w' := by
  have H0 := Lib.hid (fun W => impl_has m 0 W hm); have H1 := Lib.hid (fun W => impl_has m 1 W hm); have H2 := Lib.hid (fun W => impl_has m 2 W hm)
  rw [h0] at H0; rw [h1] at H1; rw [h2] at H2
  obtain ⟨_, n0, n1, n2⟩ := hc
  clear h0 h1 h2 hm
  go_enter Tryd.func30, Tryd.ntmps30
  go_wp2_with fail
  refine (H0.out _).mono ?_
  rintro e w1 ⟨rfl, rfl⟩
  go_wp2
  go_loop [3, 4] (fun t c => (c = .int .i64 1 ∧ t = .string ⟨#[112, 108, 97, 105, 110, 59, 113, 61, 48]⟩) ∨ (c = .int .i64 2 ∧ t = .string ⟨#[112, 108, 97, 105, 110, 59, 113, 61, 48]⟩) ∨ (c = .int .i64 3 ∧ t = .string ⟨#[112, 108, 97, 105, 110, 59, 113, 61, 48]⟩)) (fun _ c => 3 - (intOf c).toNat)
  case atStart => exact .inl ⟨rfl, rfl⟩
  case round =>
    rcases hrel with ⟨rfl, rfl⟩ | ⟨rfl, rfl⟩ | ⟨rfl, rfl⟩
    · go_wp2_with fail
      refine (H1.out _).mono ?_
      rintro e w1 ⟨rfl, rfl⟩
      go_wp2
      go_round
      case rel => exact .inr (.inl ⟨rfl, rfl⟩)
      case measure => simp [intOf]
    · go_wp2_with fail
      refine (H2.out _).mono ?_
      rintro e w1 ⟨rfl, rfl⟩
      go_wp2
      go_round
      case rel => exact .inr (.inr ⟨rfl, rfl⟩)
      case measure => simp [intOf]
    · go_wp2
      go_ret
      exact ⟨rfl, rfl⟩
set_option maxHeartbeats 1600000 in
theorem txti001 (m : Int) (w : World) (hm : 0 ≤ m ∧ m < 8) (hc : Cds w) (h0 : inB m 0 = false) (h1 : inB m 1 = false) (h2 : inB m 2 = true) :
    Calls Tryd.prog 30 #[.int .i64 m] w fun e w' => e = .returned (.string ⟨#[112, 108, 97, 105, 110, 59, 113, 61, 48, 44, 32, 98, 114]⟩) ∧ w = w' := by
  have H0 := Lib.hid (fun W => impl_has m 0 W hm); have H1 := Lib.hid (fun W => impl_has m 1 W hm); have H2 := Lib.hid (fun W => impl_has m 2 W hm)
  rw [h0] at H0; rw [h1] at H1; rw [h2] at H2
  obtain ⟨_, n0, n1, n2⟩ := hc
  clear h0 h1 h2 hm
  go_enter Tryd.func30, Tryd.ntmps30
  go_wp2_with fail
  refine (H0.out _).mono ?_
  rintro e w1 ⟨rfl, rfl⟩
  go_wp2
  go_loop [3, 4] (fun t c => (c = .int .i64 1 ∧ t = .string ⟨#[112, 108, 97, 105, 110, 59, 113, 61, 48]⟩) ∨ (c = .int .i64 2 ∧ t = .string ⟨#[112, 108, 97, 105, 110, 59, 113, 61, 48]⟩) ∨ (c = .int .i64 3 ∧ t = .string ⟨#[112, 108, 97, 105, 110, 59, 113, 61, 48, 44, 32, 98, 114]⟩)) (fun _ c => 3 - (intOf c).toNat)
  case atStart => exact .inl ⟨rfl, rfl⟩
  case round =>
    rcases hrel with ⟨rfl, rfl⟩ | ⟨rfl, rfl⟩ | ⟨rfl, rfl⟩
    · go_wp2_with fail
      refine (H1.out _).mono ?_
      rintro e w1 ⟨rfl, rfl⟩
      go_wp2
      go_round
      case rel => exact .inr (.inl ⟨rfl, rfl⟩)
      case measure => simp [intOf]
    · go_wp2_with fail
      refine (H2.out _).mono ?_
      rintro e w1 ⟨rfl, rfl⟩
      go_wp2
      go_round
      case rel => exact .inr (.inr ⟨rfl, rfl⟩)
      case measure => simp [intOf]
    · go_wp2
      go_ret
      exact ⟨rfl, rfl⟩
set_option maxHeartbeats 1600000 in
theorem txti010 (m : Int) (w : World) (hm : 0 ≤ m ∧ m < 8) (hc : Cds w) (h0 : inB m 0 = false) (h1 : inB m 1 = true) (h2 : inB m 2 = false) :
    Calls Tryd.prog 30 #[.int .i64 m] w fun e w' => e = .returned (.string ⟨#[112, 108, 97, 105, 110, 59, 113, 61, 48, 44, 32, 103, 122]⟩) ∧ w = w' := by
  have H0 := Lib.hid (fun W => impl_has m 0 W hm); have H1 := Lib.hid (fun W => impl_has m 1 W hm); have H2 := Lib.hid (fun W => impl_has m 2 W hm)
  rw [h0] at H0; rw [h1] at H1; rw [h2] at H2
  obtain ⟨_, n0, n1, n2⟩ := hc
  clear h0 h1 h2 hm
  go_enter Tryd.func30, Tryd.ntmps30
  go_wp2_with fail
  refine (H0.out _).mono ?_
  rintro e w1 ⟨rfl, rfl⟩
  go_wp2
  go_loop [3, 4] (fun t c => (c = .int .i64 1 ∧ t = .string ⟨#[112, 108, 97, 105, 110, 59, 113, 61, 48]⟩) ∨ (c = .int .i64 2 ∧ t = .string ⟨#[112, 108, 97, 105, 110, 59, 113, 61, 48, 44, 32, 103, 122]⟩) ∨ (c = .int .i64 3 ∧ t = .string ⟨#[112, 108, 97, 105, 110, 59, 113, 61, 48, 44, 32, 103, 122]⟩)) (fun _ c => 3 - (intOf c).toNat)
  case atStart => exact .inl ⟨rfl, rfl⟩
  case round =>
    rcases hrel with ⟨rfl, rfl⟩ | ⟨rfl, rfl⟩ | ⟨rfl, rfl⟩
    · go_wp2_with fail
      refine (H1.out _).mono ?_
      rintro e w1 ⟨rfl, rfl⟩
      go_wp2
      go_round
      case rel => exact .inr (.inl ⟨rfl, rfl⟩)
      case measure => simp [intOf]
    · go_wp2_with fail
      refine (H2.out _).mono ?_
      rintro e w1 ⟨rfl, rfl⟩
      go_wp2
      go_round
      case rel => exact .inr (.inr ⟨rfl, rfl⟩)
      case measure => simp [intOf]
    · go_wp2
      go_ret
      exact ⟨rfl, rfl⟩
set_option maxHeartbeats 1600000 in
theorem txti011 (m : Int) (w : World) (hm : 0 ≤ m ∧ m < 8) (hc : Cds w) (h0 : inB m 0 = false) (h1 : inB m 1 = true) (h2 : inB m 2 = true) :
    Calls Tryd.prog 30 #[.int .i64 m] w fun e w' => e = .returned (.string ⟨#[112, 108, 97, 105, 110, 59, 113, 61, 48, 44, 32, 103, 122, 44, 32, 98, 114]⟩) ∧ w = w' := by
  have H0 := Lib.hid (fun W => impl_has m 0 W hm); have H1 := Lib.hid (fun W => impl_has m 1 W hm); have H2 := Lib.hid (fun W => impl_has m 2 W hm)
  rw [h0] at H0; rw [h1] at H1; rw [h2] at H2
  obtain ⟨_, n0, n1, n2⟩ := hc
  clear h0 h1 h2 hm
  go_enter Tryd.func30, Tryd.ntmps30
  go_wp2_with fail
  refine (H0.out _).mono ?_
  rintro e w1 ⟨rfl, rfl⟩
  go_wp2
  go_loop [3, 4] (fun t c => (c = .int .i64 1 ∧ t = .string ⟨#[112, 108, 97, 105, 110, 59, 113, 61, 48]⟩) ∨ (c = .int .i64 2 ∧ t = .string ⟨#[112, 108, 97, 105, 110, 59, 113, 61, 48, 44, 32, 103, 122]⟩) ∨ (c = .int .i64 3 ∧ t = .string ⟨#[112, 108, 97, 105, 110, 59, 113, 61, 48, 44, 32, 103, 122, 44, 32, 98, 114]⟩)) (fun _ c => 3 - (intOf c).toNat)
  case atStart => exact .inl ⟨rfl, rfl⟩
  case round =>
    rcases hrel with ⟨rfl, rfl⟩ | ⟨rfl, rfl⟩ | ⟨rfl, rfl⟩
    · go_wp2_with fail
      refine (H1.out _).mono ?_
      rintro e w1 ⟨rfl, rfl⟩
      go_wp2
      go_round
      case rel => exact .inr (.inl ⟨rfl, rfl⟩)
      case measure => simp [intOf]
    · go_wp2_with fail
      refine (H2.out _).mono ?_
      rintro e w1 ⟨rfl, rfl⟩
      go_wp2
      go_round
      case rel => exact .inr (.inr ⟨rfl, rfl⟩)
      case measure => simp [intOf]
    · go_wp2
      go_ret
      exact ⟨rfl, rfl⟩
set_option maxHeartbeats 1600000 in
theorem txti100 (m : Int) (w : World) (hm : 0 ≤ m ∧ m < 8) (hc : Cds w) (h0 : inB m 0 = true) (h1 : inB m 1 = false) (h2 : inB m 2 = false) :
    Calls Tryd.prog 30 #[.int .i64 m] w fun e w' => e = .returned (.string ⟨#[112, 108, 97, 105, 110]⟩) ∧ w = w' := by
  have H0 := Lib.hid (fun W => impl_has m 0 W hm); have H1 := Lib.hid (fun W => impl_has m 1 W hm); have H2 := Lib.hid (fun W => impl_has m 2 W hm)
  rw [h0] at H0; rw [h1] at H1; rw [h2] at H2
  obtain ⟨_, n0, n1, n2⟩ := hc
  clear h0 h1 h2 hm
  go_enter Tryd.func30, Tryd.ntmps30
  go_wp2_with fail
  refine (H0.out _).mono ?_
  rintro e w1 ⟨rfl, rfl⟩
  go_wp2
  go_loop [3, 4] (fun t c => (c = .int .i64 1 ∧ t = .string ⟨#[112, 108, 97, 105, 110]⟩) ∨ (c = .int .i64 2 ∧ t = .string ⟨#[112, 108, 97, 105, 110]⟩) ∨ (c = .int .i64 3 ∧ t = .string ⟨#[112, 108, 97, 105, 110]⟩)) (fun _ c => 3 - (intOf c).toNat)
  case atStart => exact .inl ⟨rfl, rfl⟩
  case round =>
    rcases hrel with ⟨rfl, rfl⟩ | ⟨rfl, rfl⟩ | ⟨rfl, rfl⟩
    · go_wp2_with fail
      refine (H1.out _).mono ?_
      rintro e w1 ⟨rfl, rfl⟩
      go_wp2
      go_round
      case rel => exact .inr (.inl ⟨rfl, rfl⟩)
      case measure => simp [intOf]
    · go_wp2_with fail
      refine (H2.out _).mono ?_
      rintro e w1 ⟨rfl, rfl⟩
      go_wp2
      go_round
      case rel => exact .inr (.inr ⟨rfl, rfl⟩)
      case measure => simp [intOf]
    · go_wp2
      go_ret
      exact ⟨rfl, rfl⟩
set_option maxHeartbeats 1600000 in
theorem txti101 (m : Int) (w : World) (hm : 0 ≤ m ∧ m < 8) (hc : Cds w) (h0 : inB m 0 = true) (h1 : inB m 1 = false) (h2 : inB m 2 = true) :
    Calls Tryd.prog 30 #[.int .i64 m] w fun e w' => e = .returned (.string ⟨#[112, 108, 97, 105, 110, 44, 32, 98, 114]⟩) ∧ w = w' := by
  have H0 := Lib.hid (fun W => impl_has m 0 W hm); have H1 := Lib.hid (fun W => impl_has m 1 W hm); have H2 := Lib.hid (fun W => impl_has m 2 W hm)
  rw [h0] at H0; rw [h1] at H1; rw [h2] at H2
  obtain ⟨_, n0, n1, n2⟩ := hc
  clear h0 h1 h2 hm
  go_enter Tryd.func30, Tryd.ntmps30
  go_wp2_with fail
  refine (H0.out _).mono ?_
  rintro e w1 ⟨rfl, rfl⟩
  go_wp2
  go_loop [3, 4] (fun t c => (c = .int .i64 1 ∧ t = .string ⟨#[112, 108, 97, 105, 110]⟩) ∨ (c = .int .i64 2 ∧ t = .string ⟨#[112, 108, 97, 105, 110]⟩) ∨ (c = .int .i64 3 ∧ t = .string ⟨#[112, 108, 97, 105, 110, 44, 32, 98, 114]⟩)) (fun _ c => 3 - (intOf c).toNat)
  case atStart => exact .inl ⟨rfl, rfl⟩
  case round =>
    rcases hrel with ⟨rfl, rfl⟩ | ⟨rfl, rfl⟩ | ⟨rfl, rfl⟩
    · go_wp2_with fail
      refine (H1.out _).mono ?_
      rintro e w1 ⟨rfl, rfl⟩
      go_wp2
      go_round
      case rel => exact .inr (.inl ⟨rfl, rfl⟩)
      case measure => simp [intOf]
    · go_wp2_with fail
      refine (H2.out _).mono ?_
      rintro e w1 ⟨rfl, rfl⟩
      go_wp2
      go_round
      case rel => exact .inr (.inr ⟨rfl, rfl⟩)
      case measure => simp [intOf]
    · go_wp2
      go_ret
      exact ⟨rfl, rfl⟩
set_option maxHeartbeats 1600000 in
theorem txti110 (m : Int) (w : World) (hm : 0 ≤ m ∧ m < 8) (hc : Cds w) (h0 : inB m 0 = true) (h1 : inB m 1 = true) (h2 : inB m 2 = false) :
    Calls Tryd.prog 30 #[.int .i64 m] w fun e w' => e = .returned (.string ⟨#[112, 108, 97, 105, 110, 44, 32, 103, 122]⟩) ∧ w = w' := by
  have H0 := Lib.hid (fun W => impl_has m 0 W hm); have H1 := Lib.hid (fun W => impl_has m 1 W hm); have H2 := Lib.hid (fun W => impl_has m 2 W hm)
  rw [h0] at H0; rw [h1] at H1; rw [h2] at H2
  obtain ⟨_, n0, n1, n2⟩ := hc
  clear h0 h1 h2 hm
  go_enter Tryd.func30, Tryd.ntmps30
  go_wp2_with fail
  refine (H0.out _).mono ?_
  rintro e w1 ⟨rfl, rfl⟩
  go_wp2
  go_loop [3, 4] (fun t c => (c = .int .i64 1 ∧ t = .string ⟨#[112, 108, 97, 105, 110]⟩) ∨ (c = .int .i64 2 ∧ t = .string ⟨#[112, 108, 97, 105, 110, 44, 32, 103, 122]⟩) ∨ (c = .int .i64 3 ∧ t = .string ⟨#[112, 108, 97, 105, 110, 44, 32, 103, 122]⟩)) (fun _ c => 3 - (intOf c).toNat)
  case atStart => exact .inl ⟨rfl, rfl⟩
  case round =>
    rcases hrel with ⟨rfl, rfl⟩ | ⟨rfl, rfl⟩ | ⟨rfl, rfl⟩
    · go_wp2_with fail
      refine (H1.out _).mono ?_
      rintro e w1 ⟨rfl, rfl⟩
      go_wp2
      go_round
      case rel => exact .inr (.inl ⟨rfl, rfl⟩)
      case measure => simp [intOf]
    · go_wp2_with fail
      refine (H2.out _).mono ?_
      rintro e w1 ⟨rfl, rfl⟩
      go_wp2
      go_round
      case rel => exact .inr (.inr ⟨rfl, rfl⟩)
      case measure => simp [intOf]
    · go_wp2
      go_ret
      exact ⟨rfl, rfl⟩
set_option maxHeartbeats 1600000 in
theorem txti111 (m : Int) (w : World) (hm : 0 ≤ m ∧ m < 8) (hc : Cds w) (h0 : inB m 0 = true) (h1 : inB m 1 = true) (h2 : inB m 2 = true) :
    Calls Tryd.prog 30 #[.int .i64 m] w fun e w' => e = .returned (.string ⟨#[112, 108, 97, 105, 110, 44, 32, 103, 122, 44, 32, 98, 114]⟩) ∧ w = w' := by
  have H0 := Lib.hid (fun W => impl_has m 0 W hm); have H1 := Lib.hid (fun W => impl_has m 1 W hm); have H2 := Lib.hid (fun W => impl_has m 2 W hm)
  rw [h0] at H0; rw [h1] at H1; rw [h2] at H2
  obtain ⟨_, n0, n1, n2⟩ := hc
  clear h0 h1 h2 hm
  go_enter Tryd.func30, Tryd.ntmps30
  go_wp2_with fail
  refine (H0.out _).mono ?_
  rintro e w1 ⟨rfl, rfl⟩
  go_wp2
  go_loop [3, 4] (fun t c => (c = .int .i64 1 ∧ t = .string ⟨#[112, 108, 97, 105, 110]⟩) ∨ (c = .int .i64 2 ∧ t = .string ⟨#[112, 108, 97, 105, 110, 44, 32, 103, 122]⟩) ∨ (c = .int .i64 3 ∧ t = .string ⟨#[112, 108, 97, 105, 110, 44, 32, 103, 122, 44, 32, 98, 114]⟩)) (fun _ c => 3 - (intOf c).toNat)
  case atStart => exact .inl ⟨rfl, rfl⟩
  case round =>
    rcases hrel with ⟨rfl, rfl⟩ | ⟨rfl, rfl⟩ | ⟨rfl, rfl⟩
    · go_wp2_with fail
      refine (H1.out _).mono ?_
      rintro e w1 ⟨rfl, rfl⟩
      go_wp2
      go_round
      case rel => exact .inr (.inl ⟨rfl, rfl⟩)
      case measure => simp [intOf]
    · go_wp2_with fail
      refine (H2.out _).mono ?_
      rintro e w1 ⟨rfl, rfl⟩
      go_wp2
      go_round
      case rel => exact .inr (.inr ⟨rfl, rfl⟩)
      case measure => simp [intOf]
    · go_wp2
      go_ret
      exact ⟨rfl, rfl⟩
set_option maxHeartbeats 1600000 in
theorem txts000 (m : Int) (w : World) (hm : 0 ≤ m ∧ m < 8) (h0 : inB m 0 = false) (h1 : inB m 1 = false) (h2 : inB m 2 = false) :
    Calls Tryd.prog 12 #[.int .i64 m] w fun e w' => e = .returned (.string ⟨#[112, 108, 97, 105, 110, 59, 113, 61, 48]⟩) ∧ Below w.heap.size w w' := by
  have H0 := Lib.hid (fun W => spec_codin m 0 W); have H1 := Lib.hid (fun W => spec_codin m 1 W); have H2 := Lib.hid (fun W => spec_codin m 2 W)
  have HL := fun W => cod_in1 m 0 7 W
  rw [decide_eq_true (show 0 ≤ m ∧ m ≤ 7 from by omega)] at HL
  have HL1 := Lib.hid HL
  rw [h0] at H0; rw [h1] at H1; rw [h2] at H2
  clear h0 h1 h2 hm HL
  go_enter Tryd.func12, Tryd.ntmps12
  go_wp2_with fail
  refine (HL1.out _).mono ?_
  rintro e w1 ⟨rfl, rfl⟩
  go_wp2_with fail
  refine (H0.out _).mono ?_
  rintro e w1 ⟨rfl, hb1⟩
  go_wp2_with fail
  refine (H1.out _).mono ?_
  rintro e w2 ⟨rfl, hb2⟩
  go_wp2_with fail
  refine (H2.out _).mono ?_
  rintro e w3 ⟨rfl, hb3⟩
  go_wp2
  go_ret
  exact ⟨rfl, (hb1.trans (hb2.mono hb1.size)).trans (hb3.mono (Nat.le_trans hb1.size hb2.size))⟩
set_option maxHeartbeats 1600000 in
theorem txts001 (m : Int) (w : World) (hm : 0 ≤ m ∧ m < 8) (h0 : inB m 0 = false) (h1 : inB m 1 = false) (h2 : inB m 2 = true) :
    Calls Tryd.prog 12 #[.int .i64 m] w fun e w' => e = .returned (.string ⟨#[112, 108, 97, 105, 110, 59, 113, 61, 48, 44, 32, 98, 114]⟩) ∧ Below w.heap.size w w' := by
  have H0 := Lib.hid (fun W => spec_codin m 0 W); have H1 := Lib.hid (fun W => spec_codin m 1 W); have H2 := Lib.hid (fun W => spec_codin m 2 W)
  have HL := fun W => cod_in1 m 0 7 W
  rw [decide_eq_true (show 0 ≤ m ∧ m ≤ 7 from by omega)] at HL
  have HL1 := Lib.hid HL
  rw [h0] at H0; rw [h1] at H1; rw [h2] at H2
  clear h0 h1 h2 hm HL
  go_enter Tryd.func12, Tryd.ntmps12
  go_wp2_with fail
  refine (HL1.out _).mono ?_
  rintro e w1 ⟨rfl, rfl⟩
  go_wp2_with fail
  refine (H0.out _).mono ?_
  rintro e w1 ⟨rfl, hb1⟩
  go_wp2_with fail
  refine (H1.out _).mono ?_
  rintro e w2 ⟨rfl, hb2⟩
  go_wp2_with fail
  refine (H2.out _).mono ?_
  rintro e w3 ⟨rfl, hb3⟩
  go_wp2
  go_ret
  exact ⟨rfl, (hb1.trans (hb2.mono hb1.size)).trans (hb3.mono (Nat.le_trans hb1.size hb2.size))⟩
set_option maxHeartbeats 1600000 in
theorem txts010 (m : Int) (w : World) (hm : 0 ≤ m ∧ m < 8) (h0 : inB m 0 = false) (h1 : inB m 1 = true) (h2 : inB m 2 = false) :
    Calls Tryd.prog 12 #[.int .i64 m] w fun e w' => e = .returned (.string ⟨#[112, 108, 97, 105, 110, 59, 113, 61, 48, 44, 32, 103, 122]⟩) ∧ Below w.heap.size w w' := by
  have H0 := Lib.hid (fun W => spec_codin m 0 W); have H1 := Lib.hid (fun W => spec_codin m 1 W); have H2 := Lib.hid (fun W => spec_codin m 2 W)
  have HL := fun W => cod_in1 m 0 7 W
  rw [decide_eq_true (show 0 ≤ m ∧ m ≤ 7 from by omega)] at HL
  have HL1 := Lib.hid HL
  rw [h0] at H0; rw [h1] at H1; rw [h2] at H2
  clear h0 h1 h2 hm HL
  go_enter Tryd.func12, Tryd.ntmps12
  go_wp2_with fail
  refine (HL1.out _).mono ?_
  rintro e w1 ⟨rfl, rfl⟩
  go_wp2_with fail
  refine (H0.out _).mono ?_
  rintro e w1 ⟨rfl, hb1⟩
  go_wp2_with fail
  refine (H1.out _).mono ?_
  rintro e w2 ⟨rfl, hb2⟩
  go_wp2_with fail
  refine (H2.out _).mono ?_
  rintro e w3 ⟨rfl, hb3⟩
  go_wp2
  go_ret
  exact ⟨rfl, (hb1.trans (hb2.mono hb1.size)).trans (hb3.mono (Nat.le_trans hb1.size hb2.size))⟩
set_option maxHeartbeats 1600000 in
theorem txts011 (m : Int) (w : World) (hm : 0 ≤ m ∧ m < 8) (h0 : inB m 0 = false) (h1 : inB m 1 = true) (h2 : inB m 2 = true) :
    Calls Tryd.prog 12 #[.int .i64 m] w fun e w' => e = .returned (.string ⟨#[112, 108, 97, 105, 110, 59, 113, 61, 48, 44, 32, 103, 122, 44, 32, 98, 114]⟩) ∧ Below w.heap.size w w' := by
  have H0 := Lib.hid (fun W => spec_codin m 0 W); have H1 := Lib.hid (fun W => spec_codin m 1 W); have H2 := Lib.hid (fun W => spec_codin m 2 W)
  have HL := fun W => cod_in1 m 0 7 W
  rw [decide_eq_true (show 0 ≤ m ∧ m ≤ 7 from by omega)] at HL
  have HL1 := Lib.hid HL
  rw [h0] at H0; rw [h1] at H1; rw [h2] at H2
  clear h0 h1 h2 hm HL
  go_enter Tryd.func12, Tryd.ntmps12
  go_wp2_with fail
  refine (HL1.out _).mono ?_
  rintro e w1 ⟨rfl, rfl⟩
  go_wp2_with fail
  refine (H0.out _).mono ?_
  rintro e w1 ⟨rfl, hb1⟩
  go_wp2_with fail
  refine (H1.out _).mono ?_
  rintro e w2 ⟨rfl, hb2⟩
  go_wp2_with fail
  refine (H2.out _).mono ?_
  rintro e w3 ⟨rfl, hb3⟩
  go_wp2
  go_ret
  exact ⟨rfl, (hb1.trans (hb2.mono hb1.size)).trans (hb3.mono (Nat.le_trans hb1.size hb2.size))⟩
set_option maxHeartbeats 1600000 in
theorem txts100 (m : Int) (w : World) (hm : 0 ≤ m ∧ m < 8) (h0 : inB m 0 = true) (h1 : inB m 1 = false) (h2 : inB m 2 = false) :
    Calls Tryd.prog 12 #[.int .i64 m] w fun e w' => e = .returned (.string ⟨#[112, 108, 97, 105, 110]⟩) ∧ Below w.heap.size w w' := by
  have H0 := Lib.hid (fun W => spec_codin m 0 W); have H1 := Lib.hid (fun W => spec_codin m 1 W); have H2 := Lib.hid (fun W => spec_codin m 2 W)
  have HL := fun W => cod_in1 m 0 7 W
  rw [decide_eq_true (show 0 ≤ m ∧ m ≤ 7 from by omega)] at HL
  have HL1 := Lib.hid HL
  rw [h0] at H0; rw [h1] at H1; rw [h2] at H2
  clear h0 h1 h2 hm HL
  go_enter Tryd.func12, Tryd.ntmps12
  go_wp2_with fail
  refine (HL1.out _).mono ?_
  rintro e w1 ⟨rfl, rfl⟩
  go_wp2_with fail
  refine (H0.out _).mono ?_
  rintro e w1 ⟨rfl, hb1⟩
  go_wp2_with fail
  refine (H1.out _).mono ?_
  rintro e w2 ⟨rfl, hb2⟩
  go_wp2_with fail
  refine (H2.out _).mono ?_
  rintro e w3 ⟨rfl, hb3⟩
  go_wp2
  go_ret
  exact ⟨rfl, (hb1.trans (hb2.mono hb1.size)).trans (hb3.mono (Nat.le_trans hb1.size hb2.size))⟩
set_option maxHeartbeats 1600000 in
theorem txts101 (m : Int) (w : World) (hm : 0 ≤ m ∧ m < 8) (h0 : inB m 0 = true) (h1 : inB m 1 = false) (h2 : inB m 2 = true) :
    Calls Tryd.prog 12 #[.int .i64 m] w fun e w' => e = .returned (.string ⟨#[112, 108, 97, 105, 110, 44, 32, 98, 114]⟩) ∧ Below w.heap.size w w' := by
  have H0 := Lib.hid (fun W => spec_codin m 0 W); have H1 := Lib.hid (fun W => spec_codin m 1 W); have H2 := Lib.hid (fun W => spec_codin m 2 W)
  have HL := fun W => cod_in1 m 0 7 W
  rw [decide_eq_true (show 0 ≤ m ∧ m ≤ 7 from by omega)] at HL
  have HL1 := Lib.hid HL
  rw [h0] at H0; rw [h1] at H1; rw [h2] at H2
  clear h0 h1 h2 hm HL
  go_enter Tryd.func12, Tryd.ntmps12
  go_wp2_with fail
  refine (HL1.out _).mono ?_
  rintro e w1 ⟨rfl, rfl⟩
  go_wp2_with fail
  refine (H0.out _).mono ?_
  rintro e w1 ⟨rfl, hb1⟩
  go_wp2_with fail
  refine (H1.out _).mono ?_
  rintro e w2 ⟨rfl, hb2⟩
  go_wp2_with fail
  refine (H2.out _).mono ?_
  rintro e w3 ⟨rfl, hb3⟩
  go_wp2
  go_ret
  exact ⟨rfl, (hb1.trans (hb2.mono hb1.size)).trans (hb3.mono (Nat.le_trans hb1.size hb2.size))⟩
set_option maxHeartbeats 1600000 in
theorem txts110 (m : Int) (w : World) (hm : 0 ≤ m ∧ m < 8) (h0 : inB m 0 = true) (h1 : inB m 1 = true) (h2 : inB m 2 = false) :
    Calls Tryd.prog 12 #[.int .i64 m] w fun e w' => e = .returned (.string ⟨#[112, 108, 97, 105, 110, 44, 32, 103, 122]⟩) ∧ Below w.heap.size w w' := by
  have H0 := Lib.hid (fun W => spec_codin m 0 W); have H1 := Lib.hid (fun W => spec_codin m 1 W); have H2 := Lib.hid (fun W => spec_codin m 2 W)
  have HL := fun W => cod_in1 m 0 7 W
  rw [decide_eq_true (show 0 ≤ m ∧ m ≤ 7 from by omega)] at HL
  have HL1 := Lib.hid HL
  rw [h0] at H0; rw [h1] at H1; rw [h2] at H2
  clear h0 h1 h2 hm HL
  go_enter Tryd.func12, Tryd.ntmps12
  go_wp2_with fail
  refine (HL1.out _).mono ?_
  rintro e w1 ⟨rfl, rfl⟩
  go_wp2_with fail
  refine (H0.out _).mono ?_
  rintro e w1 ⟨rfl, hb1⟩
  go_wp2_with fail
  refine (H1.out _).mono ?_
  rintro e w2 ⟨rfl, hb2⟩
  go_wp2_with fail
  refine (H2.out _).mono ?_
  rintro e w3 ⟨rfl, hb3⟩
  go_wp2
  go_ret
  exact ⟨rfl, (hb1.trans (hb2.mono hb1.size)).trans (hb3.mono (Nat.le_trans hb1.size hb2.size))⟩
set_option maxHeartbeats 1600000 in
theorem txts111 (m : Int) (w : World) (hm : 0 ≤ m ∧ m < 8) (h0 : inB m 0 = true) (h1 : inB m 1 = true) (h2 : inB m 2 = true) :
    Calls Tryd.prog 12 #[.int .i64 m] w fun e w' => e = .returned (.string ⟨#[112, 108, 97, 105, 110, 44, 32, 103, 122, 44, 32, 98, 114]⟩) ∧ Below w.heap.size w w' := by
  have H0 := Lib.hid (fun W => spec_codin m 0 W); have H1 := Lib.hid (fun W => spec_codin m 1 W); have H2 := Lib.hid (fun W => spec_codin m 2 W)
  have HL := fun W => cod_in1 m 0 7 W
  rw [decide_eq_true (show 0 ≤ m ∧ m ≤ 7 from by omega)] at HL
  have HL1 := Lib.hid HL
  rw [h0] at H0; rw [h1] at H1; rw [h2] at H2
  clear h0 h1 h2 hm HL
  go_enter Tryd.func12, Tryd.ntmps12
  go_wp2_with fail
  refine (HL1.out _).mono ?_
  rintro e w1 ⟨rfl, rfl⟩
  go_wp2_with fail
  refine (H0.out _).mono ?_
  rintro e w1 ⟨rfl, hb1⟩
  go_wp2_with fail
  refine (H1.out _).mono ?_
  rintro e w2 ⟨rfl, hb2⟩
  go_wp2_with fail
  refine (H2.out _).mono ?_
  rintro e w3 ⟨rfl, hb3⟩
  go_wp2
  go_ret
  exact ⟨rfl, (hb1.trans (hb2.mono hb1.size)).trans (hb3.mono (Nat.le_trans hb1.size hb2.size))⟩
theorem txt_i (m : Int) (w : World) (hm : 0 ≤ m ∧ m < 8) (hc : Cds w) :
    Calls Tryd.prog 30 #[.int .i64 m] w fun e w' => e = .returned (strV (codT m)) ∧ w = w' := by
  rw [codT_in hm]
  cases h0 : inB m 0 <;> cases h1 : inB m 1 <;> cases h2 : inB m 2
  · exact txti000 m w hm hc h0 h1 h2
  · exact txti001 m w hm hc h0 h1 h2
  · exact txti010 m w hm hc h0 h1 h2
  · exact txti011 m w hm hc h0 h1 h2
  · exact txti100 m w hm hc h0 h1 h2
  · exact txti101 m w hm hc h0 h1 h2
  · exact txti110 m w hm hc h0 h1 h2
  · exact txti111 m w hm hc h0 h1 h2
theorem txt_s (m : Int) (w : World) (hm : 0 ≤ m ∧ m < 8) :
    Calls Tryd.prog 12 #[.int .i64 m] w fun e w' => e = .returned (strV (codT m)) ∧ Below w.heap.size w w' := by
  rw [codT_in hm]
  cases h0 : inB m 0 <;> cases h1 : inB m 1 <;> cases h2 : inB m 2
  · exact txts000 m w hm h0 h1 h2
  · exact txts001 m w hm h0 h1 h2
  · exact txts010 m w hm h0 h1 h2
  · exact txts011 m w hm h0 h1 h2
  · exact txts100 m w hm h0 h1 h2
  · exact txts101 m w hm h0 h1 h2
  · exact txts110 m w hm h0 h1 h2
  · exact txts111 m w hm h0 h1 h2

set_option maxHeartbeats 800000 in
theorem impl_codtext (m : Int) (w : World) (hc : Cds w) :
    Calls Tryd.prog 11 #[.int .i64 m] w fun e w' => e = .returned (strV (codT m)) ∧ w = w' := by
  have hO := fun W => set_ok m W
  by_cases hm : 0 ≤ m ∧ m < 8
  · have hT := fun W (h : Cds W) => txt_i m W hm h
    rw [decide_eq_true hm] at hO
    have HO := Lib.hid hO; have HT := Lib.hid hT; have HC := Lib.hid hc
    clear hO hT hm hc
    generalize codT m = l at *
    go_enter Tryd.func11, Tryd.ntmps11
    go_wp2_with fail
    refine (HO.out _).mono ?_
    rintro e w1 ⟨rfl, rfl⟩
    go_wp2_with fail
    refine (HT.out _ HC.out).mono ?_
    rintro e w1 ⟨rfl, rfl⟩
    go_wp2
    go_ret
    exact ⟨rfl, rfl⟩
  · rw [decide_eq_false hm] at hO
    rw [codT_out hm]
    have HO := Lib.hid hO
    clear hO hm hc
    go_enter Tryd.func11, Tryd.ntmps11
    go_wp2_with fail
    refine (HO.out _).mono ?_
    rintro e w1 ⟨rfl, rfl⟩
    go_wp2
    go_ret
    exact ⟨rfl, rfl⟩

set_option maxHeartbeats 800000 in
theorem spec_codtext (m : Int) (w : World) :
    Calls Tryd.prog 12 #[.int .i64 m] w fun e w' => e = .returned (strV (codT m)) ∧ Below w.heap.size w w' := by
  by_cases hm : 0 ≤ m ∧ m < 8
  · exact txt_s m w hm
  · have hL := fun W => cod_in1 m 0 7 W
    rw [decide_eq_false (show ¬ (0 ≤ m ∧ m ≤ 7) from by omega)] at hL
    rw [codT_out hm]
    have HL := Lib.hid hL
    clear hL hm
    go_enter Tryd.func12, Tryd.ntmps12
    go_wp2_with fail
    refine (HL.out _).mono ?_
    rintro e w1 ⟨rfl, rfl⟩
    go_wp2
    go_ret
    exact ⟨rfl, Below.refl _ _⟩
end Go.Proofs.YtlfcamapjeldjaaDoor
