import Derived.Test.YtncegikmpapldaaGreatDoorGCa
import Derived.Test.YtncegikmpapldaaGreatDoorOwn
import Derived.Test.YtncegikmpapldaaGreatDoorRows
import Derived.WalkKit
import Derived.WalkSpells
import Derived.WalkLawsBesides
import Derived.BigQuiet
import Derived.Lib.Hide
-- from XMaskB
/- Walks: what is in a set of codings. -/
namespace Go.Proofs.YtncegikmpapldaaGreatDoor
open Go.RowKit

theorem inB_ok {m c : Int} (hm : 0 ≤ m ∧ m < 8) : inB m c = ((decide (c = 0) && decide (m % 2 = 1)) || (decide (c = 1) && decide (m / 2 % 2 = 1)) || (decide (c = 2) && decide (m / 4 % 2 = 1))) := by
  unfold inB; rw [decide_eq_true hm, Bool.true_and]
theorem inB_out {m c : Int} (hm : ¬ (0 ≤ m ∧ m < 8)) : inB m c = false := by unfold inB; rw [decide_eq_false hm, Bool.false_and]
theorem inB_no {m c : Int} (hc : c < 0 ∨ 2 < c) : inB m c = false := by
  unfold inB
  rw [decide_eq_false (show ¬ c = 0 from by omega), decide_eq_false (show ¬ c = 1 from by omega), decide_eq_false (show ¬ c = 2 from by omega)]
  simp

theorem and_bits : ∀ m : Fin 8, bits .and .i64 (m.val : Int) 1 = (m.val : Int) % 2 ∧ bits .and .i64 (m.val : Int) 2 = (m.val : Int) / 2 % 2 * 2 ∧ bits .and .i64 (m.val : Int) 4 = (m.val : Int) / 4 % 2 * 4 := by decide
theorem and_int {m : Int} (h : 0 ≤ m ∧ m < 8) : bits .and .i64 m 1 = m % 2 ∧ bits .and .i64 m 2 = m / 2 % 2 * 2 ∧ bits .and .i64 m 4 = m / 4 % 2 * 4 := by
  obtain ⟨n, rfl⟩ := Int.eq_ofNat_of_zero_le h.1
  exact and_bits ⟨n, by omega⟩

set_option maxHeartbeats 800000 in
theorem set_ok (m : Int) (w : World) :
    Calls Tryz.prog 44 #[.int .i64 m] w fun e w' => e = .returned (.bool (decide (0 ≤ m ∧ m < 8))) ∧ w = w' := by
  by_cases h0 : 0 ≤ m
  · by_cases h1 : m < 8
    · rw [decide_eq_true ⟨h0, h1⟩]
      go_enter Tryz.func44, Tryz.ntmps44
      go_wp2
      go_ret
      exact ⟨rfl, rfl⟩
    · rw [decide_eq_false (fun h => h1 h.2)]
      go_enter Tryz.func44, Tryz.ntmps44
      go_wp2
      go_ret
      exact ⟨rfl, rfl⟩
  · rw [decide_eq_false (fun h => h0 h.1)]
    go_enter Tryz.func44, Tryz.ntmps44
    go_wp2
    go_ret
    exact ⟨rfl, rfl⟩

set_option maxHeartbeats 800000 in
theorem coding_ok (c : Int) (w : World) :
    Calls Tryz.prog 176 #[.int .i64 c] w fun e w' => e = .returned (.bool (decide (0 ≤ c ∧ c ≤ 2))) ∧ w = w' := by
  by_cases h0 : 0 ≤ c
  · by_cases h1 : c ≤ 2
    · rw [decide_eq_true ⟨h0, h1⟩]
      go_enter Tryz.func176, Tryz.ntmps176
      go_wp2
      go_ret
      exact ⟨rfl, rfl⟩
    · rw [decide_eq_false (fun h => h1 h.2)]
      go_enter Tryz.func176, Tryz.ntmps176
      go_wp2
      go_ret
      exact ⟨rfl, rfl⟩
  · rw [decide_eq_false (fun h => h0 h.1)]
    go_enter Tryz.func176, Tryz.ntmps176
    go_wp2
    go_ret
    exact ⟨rfl, rfl⟩

set_option maxHeartbeats 1600000 in
theorem impl_has (m c : Int) (w : World) (hm : 0 ≤ m ∧ m < 8) :
    Calls Tryz.prog 150 #[.int .i64 m, .int .i64 c] w fun e w' => e = .returned (.bool (inB m c)) ∧ w = w' := by
  obtain ⟨a0, a1, a2⟩ := and_int hm
  have hI := inB_ok (c := c) hm
  by_cases h0 : 0 ≤ c
  · by_cases h2 : c ≤ 2
    · have hC := fun W => coding_ok c W
      rw [decide_eq_true ⟨h0, h2⟩] at hC
      have HC := Lib.hid hC
      clear hC
      have h3 : c = 0 ∨ c = 1 ∨ c = 2 := by omega
      have h01 : m % 2 = 0 ∨ m % 2 = 1 := by omega
      have h02 : m / 2 % 2 = 0 ∨ m / 2 % 2 = 1 := by omega
      have h04 : m / 4 % 2 = 0 ∨ m / 4 % 2 = 1 := by omega
      have HI := Lib.hid hI
      clear hI
      rcases h3 with rfl | rfl | rfl
      · rcases h01 with h | h
        all_goals
          rw [h] at a0
          have HH := Lib.hid h
          clear h h02 h04 a1 a2
          go_enter Tryz.func150, Tryz.ntmps150
          go_wp2_with fail
          refine (HC.out _).mono ?_
          rintro e w1 ⟨rfl, rfl⟩
          go_wp2
          go_ret
          refine ⟨?_, rfl⟩
          rw [HI.out, HH.out]
          simp
      · rcases h02 with h | h
        all_goals
          rw [h] at a1
          have HH := Lib.hid h
          clear h h01 h04 a0 a2
          go_enter Tryz.func150, Tryz.ntmps150
          go_wp2_with fail
          refine (HC.out _).mono ?_
          rintro e w1 ⟨rfl, rfl⟩
          go_wp2
          go_ret
          refine ⟨?_, rfl⟩
          rw [HI.out, HH.out]
          simp
      · rcases h04 with h | h
        all_goals
          rw [h] at a2
          have HH := Lib.hid h
          clear h h01 h02 a0 a1
          go_enter Tryz.func150, Tryz.ntmps150
          go_wp2_with fail
          refine (HC.out _).mono ?_
          rintro e w1 ⟨rfl, rfl⟩
          go_wp2
          go_ret
          refine ⟨?_, rfl⟩
          rw [HI.out, HH.out]
          simp
    · have hC := fun W => coding_ok c W
      rw [decide_eq_false (fun h => h2 h.2)] at hC
      have HC := Lib.hid hC
      clear hC
      rw [inB_no (.inr (by omega))]
      clear a0 a1 a2 hI
      go_enter Tryz.func150, Tryz.ntmps150
      go_wp2_with fail
      refine (HC.out _).mono ?_
      rintro e w1 ⟨rfl, rfl⟩
      go_wp2
      go_ret
      exact ⟨rfl, rfl⟩
  · have hC := fun W => coding_ok c W
    rw [decide_eq_false (fun h => h0 h.1)] at hC
    have HC := Lib.hid hC
    clear hC
    rw [inB_no (.inl (by omega))]
    clear a0 a1 a2 hI
    go_enter Tryz.func150, Tryz.ntmps150
    go_wp2_with fail
    refine (HC.out _).mono ?_
    rintro e w1 ⟨rfl, rfl⟩
    go_wp2
    go_ret
    exact ⟨rfl, rfl⟩

set_option maxHeartbeats 800000 in
theorem cod_in1 (n a b : Int) (w : World) :
    Calls Tryz.prog 47 #[.int .i64 n, .int .i64 a, .int .i64 b] w fun e w' => e = .returned (.bool (decide (a ≤ n ∧ n ≤ b))) ∧ w = w' := by
  by_cases h0 : a ≤ n
  · by_cases h1 : n ≤ b
    · rw [decide_eq_true ⟨h0, h1⟩]
      go_enter Tryz.func47, Tryz.ntmps47
      go_wp2
      go_ret
      exact ⟨rfl, rfl⟩
    · rw [decide_eq_false (fun h => h1 h.2)]
      go_enter Tryz.func47, Tryz.ntmps47
      go_wp2
      go_ret
      exact ⟨rfl, rfl⟩
  · rw [decide_eq_false (fun h => h0 h.1)]
    go_enter Tryz.func47, Tryz.ntmps47
    go_wp2
    go_ret
    exact ⟨rfl, rfl⟩

set_option maxHeartbeats 1600000 in
theorem spec_codin (m c : Int) (w : World) :
    Calls Tryz.prog 116 #[.int .i64 m, .int .i64 c] w fun e w' => e = .returned (.bool (inB m c)) ∧ Below w.heap.size w w' := by
  have hO := fun W => cod_in1 m 0 7 W
  have hC := fun W => cod_in1 c 0 2 W
  by_cases hm : 0 ≤ m ∧ m < 8
  · rw [decide_eq_true (show 0 ≤ m ∧ m ≤ 7 from by omega)] at hO
    by_cases hc : 0 ≤ c ∧ c ≤ 2
    · rw [decide_eq_true hc] at hC
      have HO := Lib.hid hO; have HC := Lib.hid hC
      have HI := Lib.hid (inB_ok (c := c) hm)
      have h3 : c = 0 ∨ c = 1 ∨ c = 2 := by omega
      have t1 : m.tmod 2 = m % 2 := Int.tmod_eq_emod_of_nonneg (by omega)
      have t2 : m.tdiv 2 = m / 2 := Int.tdiv_eq_ediv_of_nonneg (by omega)
      have t3 : (m / 2).tmod 2 = m / 2 % 2 := Int.tmod_eq_emod_of_nonneg (by omega)
      have t4 : m.tdiv 4 = m / 4 := Int.tdiv_eq_ediv_of_nonneg (by omega)
      have h4 : m / 4 % 2 = m / 4 := by omega
      have HB := Lib.hid (fun cs => (Below.refl w.heap.size w).alloc (Nat.le_refl _) (.cells cs 3))
      obtain ⟨m0, m1⟩ := hm
      clear hO hC hc
      rcases h3 with rfl | rfl | rfl
      all_goals
        go_enter Tryz.func116, Tryz.ntmps116
        go_wp2_with fail
        refine (HO.out _).mono ?_
        rintro e w1 ⟨rfl, rfl⟩
        go_wp2_with fail
        refine (HC.out _).mono ?_
        rintro e w1 ⟨rfl, rfl⟩
        go_wp2
        go_ret
        refine ⟨?_, HB.out _⟩
        rw [HI.out]
        first
          | (simp; rfl)
          | (simp [h4]; rfl)
    · rw [decide_eq_false hc] at hC
      rw [inB_no (by omega)]
      have HO := Lib.hid hO; have HC := Lib.hid hC
      clear hO hC hc hm
      go_enter Tryz.func116, Tryz.ntmps116
      go_wp2_with fail
      refine (HO.out _).mono ?_
      rintro e w1 ⟨rfl, rfl⟩
      go_wp2_with fail
      refine (HC.out _).mono ?_
      rintro e w1 ⟨rfl, rfl⟩
      go_wp2
      go_ret
      exact ⟨rfl, Below.refl _ _⟩
  · rw [decide_eq_false (show ¬ (0 ≤ m ∧ m ≤ 7) from by omega)] at hO
    rw [inB_out hm]
    have HO := Lib.hid hO
    clear hO hC hm
    go_enter Tryz.func116, Tryz.ntmps116
    go_wp2_with fail
    refine (HO.out _).mono ?_
    rintro e w1 ⟨rfl, rfl⟩
    go_wp2
    go_ret
    exact ⟨rfl, Below.refl _ _⟩
end Go.Proofs.YtncegikmpapldaaGreatDoor

-- from XCodX
/- Walks: a set of codings as a text. -/
namespace Go.Proofs.YtncegikmpapldaaGreatDoor
open Go.RowKit

/-- A set's text, by what is in it. -/
def codTB (b0 b1 b2 : Bool) : List UInt8 := (if b0 = true then nPlain else nPlain ++ [59, 113, 61, 48]) ++ (if b1 = true then [44, 32, 103, 122] else []) ++ (if b2 = true then [44, 32, 98, 114] else [])
theorem codT_in {m : Int} (hm : 0 ≤ m ∧ m < 8) : codT m = codTB (inB m 0) (inB m 1) (inB m 2) := by
  unfold codT codTB
  rw [if_pos hm, inB_ok hm, inB_ok hm, inB_ok hm]
  simp
theorem codT_out {m : Int} (hm : ¬ (0 ≤ m ∧ m < 8)) : codT m = [] := if_neg hm

set_option maxHeartbeats 1600000 in
theorem txti000 (m : Int) (w : World) (hm : 0 ≤ m ∧ m < 8) (hc : Cds w) (h0 : inB m 0 = false) (h1 : inB m 1 = false) (h2 : inB m 2 = false) :
    Calls Tryz.prog 115 #[.int .i64 m] w fun e w' => e = .returned (.string ⟨#[112, 108, 97, 105, 110, 59, 113, 61, 48]⟩) ∧ w = w' := by
  have H0 := Lib.hid (fun W => impl_has m 0 W hm); have H1 := Lib.hid (fun W => impl_has m 1 W hm); have H2 := Lib.hid (fun W => impl_has m 2 W hm)
  rw [h0] at H0; rw [h1] at H1; rw [h2] at H2
  obtain ⟨_, n0, n1, n2⟩ := hc
  clear h0 h1 h2 hm
  go_enter Tryz.func115, Tryz.ntmps115
  go_wp2_with fail
  refine (H0.out _).mono ?_
  rintro e w1 ⟨rfl, rfl⟩
  go_wp2
  go_loop [3, 4] (fun t c => (c = .int .i64 1 ∧ t = .string ⟨#[112, 108, 97, 105, 110, 59, 113, 61, 48]⟩) ∨ (c = .int .i64 2 ∧ t = .string ⟨#[112, 108, 97, 105, 110, 59, 113, 61, 48]⟩) ∨ (c = .int .i64 3 ∧ t = .string ⟨#[112, 108, 97, 105, 110, 59, 113, 61, 48]⟩)) (fun _ c => 3 - (intOf c).toNat)
  case atStart => exact .inl ⟨rfl, rfl⟩
  case round =>
    rcases hrel with ⟨rfl, rfl⟩ | ⟨rfl, rfl⟩ | ⟨rfl, rfl⟩
    · go_wp2_with fail
      refine (H1.out _).mono ?_
      rintro e w1 ⟨rfl, rfl⟩
      go_wp2
      go_round
      case rel => exact .inr (.inl ⟨rfl, rfl⟩)
      case measure => simp [intOf]
    · go_wp2_with fail
      refine (H2.out _).mono ?_
      rintro e w1 ⟨rfl, rfl⟩
      go_wp2
      go_round
      case rel => exact .inr (.inr ⟨rfl, rfl⟩)
      case measure => simp [intOf]
    · go_wp2
      go_ret
      exact ⟨rfl, rfl⟩
set_option maxHeartbeats 1600000 in
theorem txti001 (m : Int) (w : World) (hm : 0 ≤ m ∧ m < 8) (hc : Cds w) (h0 : inB m 0 = false) (h1 : inB m 1 = false) (h2 : inB m 2 = true) :
    Calls Tryz.prog 115 #[.int .i64 m] w fun e w' => e = .returned (.string ⟨#[112, 108, 97, 105, 110, 59, 113, 61, 48, 44, 32, 98, 114]⟩) ∧ w = w' := by
  have H0 := Lib.hid (fun W => impl_has m 0 W hm); have H1 := Lib.hid (fun W => impl_has m 1 W hm); have H2 := Lib.hid (fun W => impl_has m 2 W hm)
  rw [h0] at H0; rw [h1] at H1; rw [h2] at H2
  obtain ⟨_, n0, n1, n2⟩ := hc
  clear h0 h1 h2 hm
  go_enter Tryz.func115, Tryz.ntmps115
  go_wp2_with fail
  refine (H0.out _).mono ?_
  rintro e w1 ⟨rfl, rfl⟩
  go_wp2
  go_loop [3, 4] (fun t c => (c = .int .i64 1 ∧ t = .string ⟨#[112, 108, 97, 105, 110, 59, 113, 61, 48]⟩) ∨ (c = .int .i64 2 ∧ t = .string ⟨#[112, 108, 97, 105, 110, 59, 113, 61, 48]⟩) ∨ (c = .int .i64 3 ∧ t = .string ⟨#[112, 108, 97, 105, 110, 59, 113, 61, 48, 44, 32, 98, 114]⟩)) (fun _ c => 3 - (intOf c).toNat)
  case atStart => exact .inl ⟨rfl, rfl⟩
  case round =>
    rcases hrel with ⟨rfl, rfl⟩ | ⟨rfl, rfl⟩ | ⟨rfl, rfl⟩
    · go_wp2_with fail
      refine (H1.out _).mono ?_
      rintro e w1 ⟨rfl, rfl⟩
      go_wp2
      go_round
      case rel => exact .inr (.inl ⟨rfl, rfl⟩)
      case measure => simp [intOf]
    · go_wp2_with fail
      refine (H2.out _).mono ?_
      rintro e w1 ⟨rfl, rfl⟩
      go_wp2
      go_round
      case rel => exact .inr (.inr ⟨rfl, rfl⟩)
      case measure => simp [intOf]
    · go_wp2
      go_ret
      exact ⟨rfl, rfl⟩
set_option maxHeartbeats 1600000 in
theorem txti010 (m : Int) (w : World) (hm : 0 ≤ m ∧ m < 8) (hc : Cds w) (h0 : inB m 0 = false) (h1 : inB m 1 = true) (h2 : inB m 2 = false) :
    Calls Tryz.prog 115 #[.int .i64 m] w fun e w' => e = .returned (.string ⟨#[112, 108, 97, 105, 110, 59, 113, 61, 48, 44, 32, 103, 122]⟩) ∧ w = w' := by
  have H0 := Lib.hid (fun W => impl_has m 0 W hm); have H1 := Lib.hid (fun W => impl_has m 1 W hm); have H2 := Lib.hid (fun W => impl_has m 2 W hm)
  rw [h0] at H0; rw [h1] at H1; rw [h2] at H2
  obtain ⟨_, n0, n1, n2⟩ := hc
  clear h0 h1 h2 hm
  go_enter Tryz.func115, Tryz.ntmps115
  go_wp2_with fail
  refine (H0.out _).mono ?_
  rintro e w1 ⟨rfl, rfl⟩
  go_wp2
  go_loop [3, 4] (fun t c => (c = .int .i64 1 ∧ t = .string ⟨#[112, 108, 97, 105, 110, 59, 113, 61, 48]⟩) ∨ (c = .int .i64 2 ∧ t = .string ⟨#[112, 108, 97, 105, 110, 59, 113, 61, 48, 44, 32, 103, 122]⟩) ∨ (c = .int .i64 3 ∧ t = .string ⟨#[112, 108, 97, 105, 110, 59, 113, 61, 48, 44, 32, 103, 122]⟩)) (fun _ c => 3 - (intOf c).toNat)
  case atStart => exact .inl ⟨rfl, rfl⟩
  case round =>
    rcases hrel with ⟨rfl, rfl⟩ | ⟨rfl, rfl⟩ | ⟨rfl, rfl⟩
    · go_wp2_with fail
      refine (H1.out _).mono ?_
      rintro e w1 ⟨rfl, rfl⟩
      go_wp2
      go_round
      case rel => exact .inr (.inl ⟨rfl, rfl⟩)
      case measure => simp [intOf]
    · go_wp2_with fail
      refine (H2.out _).mono ?_
      rintro e w1 ⟨rfl, rfl⟩
      go_wp2
      go_round
      case rel => exact .inr (.inr ⟨rfl, rfl⟩)
      case measure => simp [intOf]
    · go_wp2
      go_ret
      exact ⟨rfl, rfl⟩
set_option maxHeartbeats 1600000 in
theorem txti011 (m : Int) (w : World) (hm : 0 ≤ m ∧ m < 8) (hc : Cds w) (h0 : inB m 0 = false) (h1 : inB m 1 = true) (h2 : inB m 2 = true) :
    Calls Tryz.prog 115 #[.int .i64 m] w fun e w' => e = .returned (.string ⟨#[112, 108, 97, 105, 110, 59, 113, 61, 48, 44, 32, 103, 122, 44, 32, 98, 114]⟩) ∧ w = w' := by
  have H0 := Lib.hid (fun W => impl_has m 0 W hm); have H1 := Lib.hid (fun W => impl_has m 1 W hm); have H2 := Lib.hid (fun W => impl_has m 2 W hm)
  rw [h0] at H0; rw [h1] at H1; rw [h2] at H2
  obtain ⟨_, n0, n1, n2⟩ := hc
  clear h0 h1 h2 hm
  go_enter Tryz.func115, Tryz.ntmps115
  go_wp2_with fail
  refine (H0.out _).mono ?_
  rintro e w1 ⟨rfl, rfl⟩
  go_wp2
  go_loop [3, 4] (fun t c => (c = .int .i64 1 ∧ t = .string ⟨#[112, 108, 97, 105, 110, 59, 113, 61, 48]⟩) ∨ (c = .int .i64 2 ∧ t = .string ⟨#[112, 108, 97, 105, 110, 59, 113, 61, 48, 44, 32, 103, 122]⟩) ∨ (c = .int .i64 3 ∧ t = .string ⟨#[112, 108, 97, 105, 110, 59, 113, 61, 48, 44, 32, 103, 122, 44, 32, 98, 114]⟩)) (fun _ c => 3 - (intOf c).toNat)
  case atStart => exact .inl ⟨rfl, rfl⟩
  case round =>
    rcases hrel with ⟨rfl, rfl⟩ | ⟨rfl, rfl⟩ | ⟨rfl, rfl⟩
    · go_wp2_with fail
      refine (H1.out _).mono ?_
      rintro e w1 ⟨rfl, rfl⟩
      go_wp2
      go_round
      case rel => exact .inr (.inl ⟨rfl, rfl⟩)
      case measure => simp [intOf]
    · go_wp2_with fail
      refine (H2.out _).mono ?_
      rintro e w1 ⟨rfl, rfl⟩
      go_wp2
      go_round
      case rel => exact .inr (.inr ⟨rfl, rfl⟩)
      case measure => simp [intOf]
    · go_wp2
      go_ret
      exact ⟨rfl, rfl⟩
set_option maxHeartbeats 1600000 in
theorem txti100 (m : Int) (w : World) (hm : 0 ≤ m ∧ m < 8) (hc : Cds w) (h0 : inB m 0 = true) (h1 : inB m 1 = false) (h2 : inB m 2 = false) :
    Calls Tryz.prog 115 #[.int .i64 m] w fun e w' => e = .returned (.string ⟨#[112, 108, 97, 105, 110]⟩) ∧ w = w' := by
  have H0 := Lib.hid (fun W => impl_has m 0 W hm); have H1 := Lib.hid (fun W => impl_has m 1 W hm); have H2 := Lib.hid (fun W => impl_has m 2 W hm)
  rw [h0] at H0; rw [h1] at H1; rw [h2] at H2
  obtain ⟨_, n0, n1, n2⟩ := hc
  clear h0 h1 h2 hm
  go_enter Tryz.func115, Tryz.ntmps115
  go_wp2_with fail
  refine (H0.out _).mono ?_
  rintro e w1 ⟨rfl, rfl⟩
  go_wp2
  go_loop [3, 4] (fun t c => (c = .int .i64 1 ∧ t = .string ⟨#[112, 108, 97, 105, 110]⟩) ∨ (c = .int .i64 2 ∧ t = .string ⟨#[112, 108, 97, 105, 110]⟩) ∨ (c = .int .i64 3 ∧ t = .string ⟨#[112, 108, 97, 105, 110]⟩)) (fun _ c => 3 - (intOf c).toNat)
  case atStart => exact .inl ⟨rfl, rfl⟩
  case round =>
    rcases hrel with ⟨rfl, rfl⟩ | ⟨rfl, rfl⟩ | ⟨rfl, rfl⟩
    · go_wp2_with fail
      refine (H1.out _).mono ?_
      rintro e w1 ⟨rfl, rfl⟩
      go_wp2
      go_round
      case rel => exact .inr (.inl ⟨rfl, rfl⟩)
      case measure => simp [intOf]
    · go_wp2_with fail
      refine (H2.out _).mono ?_
      rintro e w1 ⟨rfl, rfl⟩
      go_wp2
      go_round
      case rel => exact .inr (.inr ⟨rfl, rfl⟩)
      case measure => simp [intOf]
    · go_wp2
      go_ret
      exact ⟨rfl, rfl⟩
set_option maxHeartbeats 1600000 in
theorem txti101 (m : Int) (w : World) (hm : 0 ≤ m ∧ m < 8) (hc : Cds w) (h0 : inB m 0 = true) (h1 : inB m 1 = false) (h2 : inB m 2 = true) :
    Calls Tryz.prog 115 #[.int .i64 m] w fun e w' => e = .returned (.string ⟨#[112, 108, 97, 105, 110, 44, 32, 98, 114]⟩) ∧ w = w' := by
  have H0 := Lib.hid (fun W => impl_has m 0 W hm); have H1 := Lib.hid (fun W => impl_has m 1 W hm); have H2 := Lib.hid (fun W => impl_has m 2 W hm)
  rw [h0] at H0; rw [h1] at H1; rw [h2] at H2
  obtain ⟨_, n0, n1, n2⟩ := hc
  clear h0 h1 h2 hm
  go_enter Tryz.func115, Tryz.ntmps115
  go_wp2_with fail
  refine (H0.out _).mono ?_
  rintro e w1 ⟨rfl, rfl⟩
  go_wp2
  go_loop [3, 4] (fun t c => (c = .int .i64 1 ∧ t = .string ⟨#[112, 108, 97, 105, 110]⟩) ∨ (c = .int .i64 2 ∧ t = .string ⟨#[112, 108, 97, 105, 110]⟩) ∨ (c = .int .i64 3 ∧ t = .string ⟨#[112, 108, 97, 105, 110, 44, 32, 98, 114]⟩)) (fun _ c => 3 - (intOf c).toNat)
  case atStart => exact .inl ⟨rfl, rfl⟩
  case round =>
    rcases hrel with ⟨rfl, rfl⟩ | ⟨rfl, rfl⟩ | ⟨rfl, rfl⟩
    · go_wp2_with fail
      refine (H1.out _).mono ?_
      rintro e w1 ⟨rfl, rfl⟩
      go_wp2
      go_round
      case rel => exact .inr (.inl ⟨rfl, rfl⟩)
      case measure => simp [intOf]
    · go_wp2_with fail
      refine (H2.out _).mono ?_
      rintro e w1 ⟨rfl, rfl⟩
      go_wp2
      go_round
      case rel => exact .inr (.inr ⟨rfl, rfl⟩)
      case measure => simp [intOf]
    · go_wp2
      go_ret
      exact ⟨rfl, rfl⟩
set_option maxHeartbeats 1600000 in
theorem txti110 (m : Int) (w : World) (hm : 0 ≤ m ∧ m < 8) (hc : Cds w) (h0 : inB m 0 = true) (h1 : inB m 1 = true) (h2 : inB m 2 = false) :
    Calls Tryz.prog 115 #[.int .i64 m] w fun e w' => e = .returned (.string ⟨#[112, 108, 97, 105, 110, 44, 32, 103, 122]⟩) ∧ w = w' := by
  have H0 := Lib.hid (fun W => impl_has m 0 W hm); have H1 := Lib.hid (fun W => impl_has m 1 W hm); have H2 := Lib.hid (fun W => impl_has m 2 W hm)
  rw [h0] at H0; rw [h1] at H1; rw [h2] at H2
  obtain ⟨_, n0, n1, n2⟩ := hc
  clear h0 h1 h2 hm
  go_enter Tryz.func115, Tryz.ntmps115
  go_wp2_with fail
  refine (H0.out _).mono ?_
  rintro e w1 ⟨rfl, rfl⟩
  go_wp2
  go_loop [3, 4] (fun t c => (c = .int .i64 1 ∧ t = .string ⟨#[112, 108, 97, 105, 110]⟩) ∨ (c = .int .i64 2 ∧ t = .string ⟨#[112, 108, 97, 105, 110, 44, 32, 103, 122]⟩) ∨ (c = .int .i64 3 ∧ t = .string ⟨#[112, 108, 97, 105, 110, 44, 32, 103, 122]⟩)) (fun _ c => 3 - (intOf c).toNat)
  case atStart => exact .inl ⟨rfl, rfl⟩
  case round =>
    rcases hrel with ⟨rfl, rfl⟩ | ⟨rfl, rfl⟩ | ⟨rfl, rfl⟩
    · go_wp2_with fail
      refine (H1.out _).mono ?_
      rintro e w1 ⟨rfl, rfl⟩
      go_wp2
      go_round
      case rel => exact .inr (.inl ⟨rfl, rfl⟩)
      case measure => simp [intOf]
    · go_wp2_with fail
      refine (H2.out _).mono ?_
      rintro e w1 ⟨rfl, rfl⟩
      go_wp2
      go_round
      case rel => exact .inr (.inr ⟨rfl, rfl⟩)
      case measure => simp [intOf]
    · go_wp2
      go_ret
      exact ⟨rfl, rfl⟩
set_option maxHeartbeats 1600000 in
theorem txti111 (m : Int) (w : World) (hm : 0 ≤ m ∧ m < 8) (hc : Cds w) (h0 : inB m 0 = true) (h1 : inB m 1 = true) (h2 : inB m 2 = true) :
    Calls Tryz.prog 115 #[.int .i64 m] w fun e w' => e = .returned (.string ⟨#[112, 108, 97, 105, 110, 44, 32, 103, 122, 44, 32, 98, 114]⟩) ∧ w = w' := by
  have H0 := Lib.hid (fun W => impl_has m 0 W hm); have H1 := Lib.hid (fun W => impl_has m 1 W hm); have H2 := Lib.hid (fun W => impl_has m 2 W hm)
  rw [h0] at H0; rw [h1] at H1; rw [h2] at H2
  obtain ⟨_, n0, n1, n2⟩ := hc
  clear h0 h1 h2 hm
  go_enter Tryz.func115, Tryz.ntmps115
  go_wp2_with fail
  refine (H0.out _).mono ?_
  rintro e w1 ⟨rfl, rfl⟩
  go_wp2
  go_loop [3, 4] (fun t c => (c = .int .i64 1 ∧ t = .string ⟨#[112, 108, 97, 105, 110]⟩) ∨ (c = .int .i64 2 ∧ t = .string ⟨#[112, 108, 97, 105, 110, 44, 32, 103, 122]⟩) ∨ (c = .int .i64 3 ∧ t = .string ⟨#[112, 108, 97, 105, 110, 44, 32, 103, 122, 44, 32, 98, 114]⟩)) (fun _ c => 3 - (intOf c).toNat)
  case atStart => exact .inl ⟨rfl, rfl⟩
  case round =>
    rcases hrel with ⟨rfl, rfl⟩ | ⟨rfl, rfl⟩ | ⟨rfl, rfl⟩
    · go_wp2_with fail
      refine (H1.out _).mono ?_
      rintro e w1 ⟨rfl, rfl⟩
      go_wp2
      go_round
      case rel => exact .inr (.inl ⟨rfl, rfl⟩)
      case measure => simp [intOf]
    · go_wp2_with fail
      refine (H2.out _).mono ?_
      rintro e w1 ⟨rfl, rfl⟩
      go_wp2
      go_round
      case rel => exact .inr (.inr ⟨rfl, rfl⟩)
      case measure => simp [intOf]
    · go_wp2
      go_ret
      exact ⟨rfl, rfl⟩
set_option maxHeartbeats 1600000 in
theorem txts000 (m : Int) (w : World) (hm : 0 ≤ m ∧ m < 8) (h0 : inB m 0 = false) (h1 : inB m 1 = false) (h2 : inB m 2 = false) :
    Calls Tryz.prog 68 #[.int .i64 m] w fun e w' => e = .returned (.string ⟨#[112, 108, 97, 105, 110, 59, 113, 61, 48]⟩) ∧ Below w.heap.size w w' := by
  have H0 := Lib.hid (fun W => spec_codin m 0 W); have H1 := Lib.hid (fun W => spec_codin m 1 W); have H2 := Lib.hid (fun W => spec_codin m 2 W)
  have HL := fun W => cod_in1 m 0 7 W
  rw [decide_eq_true (show 0 ≤ m ∧ m ≤ 7 from by omega)] at HL
  have HL1 := Lib.hid HL
  rw [h0] at H0; rw [h1] at H1; rw [h2] at H2
  clear h0 h1 h2 hm HL
  go_enter Tryz.func68, Tryz.ntmps68
  go_wp2_with fail
  refine (HL1.out _).mono ?_
  rintro e w1 ⟨rfl, rfl⟩
  go_wp2_with fail
  refine (H0.out _).mono ?_
  rintro e w1 ⟨rfl, hb1⟩
  go_wp2_with fail
  refine (H1.out _).mono ?_
  rintro e w2 ⟨rfl, hb2⟩
  go_wp2_with fail
  refine (H2.out _).mono ?_
  rintro e w3 ⟨rfl, hb3⟩
  go_wp2
  go_ret
  exact ⟨rfl, (hb1.trans (hb2.mono hb1.size)).trans (hb3.mono (Nat.le_trans hb1.size hb2.size))⟩
set_option maxHeartbeats 1600000 in
theorem txts001 (m : Int) (w : World) (hm : 0 ≤ m ∧ m < 8) (h0 : inB m 0 = false) (h1 : inB m 1 = false) (h2 : inB m 2 = true) :
    Calls Tryz.prog 68 #[.int .i64 m] w fun e w' => e = .returned (.string ⟨#[112, 108, 97, 105, 110, 59, 113, 61, 48, 44, 32, 98, 114]⟩) ∧ Below w.heap.size w w' := by
  have H0 := Lib.hid (fun W => spec_codin m 0 W); have H1 := Lib.hid (fun W => spec_codin m 1 W); have H2 := Lib.hid (fun W => spec_codin m 2 W)
  have HL := fun W => cod_in1 m 0 7 W
  rw [decide_eq_true (show 0 ≤ m ∧ m ≤ 7 from by omega)] at HL
  have HL1 := Lib.hid HL
  rw [h0] at H0; rw [h1] at H1; rw [h2] at H2
  clear h0 h1 h2 hm HL
  go_enter Tryz.func68, Tryz.ntmps68
  go_wp2_with fail
  refine (HL1.out _).mono ?_
  rintro e w1 ⟨rfl, rfl⟩
  go_wp2_with fail
  refine (H0.out _).mono ?_
  rintro e w1 ⟨rfl, hb1⟩
  go_wp2_with fail
  refine (H1.out _).mono ?_
  rintro e w2 ⟨rfl, hb2⟩
  go_wp2_with fail
  refine (H2.out _).mono ?_
  rintro e w3 ⟨rfl, hb3⟩
  go_wp2
  go_ret
  exact ⟨rfl, (hb1.trans (hb2.mono hb1.size)).trans (hb3.mono (Nat.le_trans hb1.size hb2.size))⟩
set_option maxHeartbeats 1600000 in
theorem txts010 (m : Int) (w : World) (hm : 0 ≤ m ∧ m < 8) (h0 : inB m 0 = false) (h1 : inB m 1 = true) (h2 : inB m 2 = false) :
    Calls Tryz.prog 68 #[.int .i64 m] w fun e w' => e = .returned (.string ⟨#[112, 108, 97, 105, 110, 59, 113, 61, 48, 44, 32, 103, 122]⟩) ∧ Below w.heap.size w w' := by
  have H0 := Lib.hid (fun W => spec_codin m 0 W); have H1 := Lib.hid (fun W => spec_codin m 1 W); have H2 := Lib.hid (fun W => spec_codin m 2 W)
  have HL := fun W => cod_in1 m 0 7 W
  rw [decide_eq_true (show 0 ≤ m ∧ m ≤ 7 from by omega)] at HL
  have HL1 := Lib.hid HL
  rw [h0] at H0; rw [h1] at H1; rw [h2] at H2
  clear h0 h1 h2 hm HL
  go_enter Tryz.func68, Tryz.ntmps68
  go_wp2_with fail
  refine (HL1.out _).mono ?_
  rintro e w1 ⟨rfl, rfl⟩
  go_wp2_with fail
  refine (H0.out _).mono ?_
  rintro e w1 ⟨rfl, hb1⟩
  go_wp2_with fail
  refine (H1.out _).mono ?_
  rintro e w2 ⟨rfl, hb2⟩
  go_wp2_with fail
  refine (H2.out _).mono ?_
  rintro e w3 ⟨rfl, hb3⟩
  go_wp2
  go_ret
  exact ⟨rfl, (hb1.trans (hb2.mono hb1.size)).trans (hb3.mono (Nat.le_trans hb1.size hb2.size))⟩
set_option maxHeartbeats 1600000 in
theorem txts011 (m : Int) (w : World) (hm : 0 ≤ m ∧ m < 8) (h0 : inB m 0 = false) (h1 : inB m 1 = true) (h2 : inB m 2 = true) :
    Calls Tryz.prog 68 #[.int .i64 m] w fun e w' => e = .returned (.string ⟨#[112, 108, 97, 105, 110, 59, 113, 61, 48, 44, 32, 103, 122, 44, 32, 98, 114]⟩) ∧ Below w.heap.size w w' := by
  have H0 := Lib.hid (fun W => spec_codin m 0 W); have H1 := Lib.hid (fun W => spec_codin m 1 W); have H2 := Lib.hid (fun W => spec_codin m 2 W)
  have HL := fun W => cod_in1 m 0 7 W
  rw [decide_eq_true (show 0 ≤ m ∧ m ≤ 7 from by omega)] at HL
  have HL1 := Lib.hid HL
  rw [h0] at H0; rw [h1] at H1; rw [h2] at H2
  clear h0 h1 h2 hm HL
  go_enter Tryz.func68, Tryz.ntmps68
  go_wp2_with fail
  refine (HL1.out _).mono ?_
  rintro e w1 ⟨rfl, rfl⟩
  go_wp2_with fail
  refine (H0.out _).mono ?_
  rintro e w1 ⟨rfl, hb1⟩
  go_wp2_with fail
  refine (H1.out _).mono ?_
  rintro e w2 ⟨rfl, hb2⟩
  go_wp2_with fail
  refine (H2.out _).mono ?_
  rintro e w3 ⟨rfl, hb3⟩
  go_wp2
  go_ret
  exact ⟨rfl, (hb1.trans (hb2.mono hb1.size)).trans (hb3.mono (Nat.le_trans hb1.size hb2.size))⟩
set_option maxHeartbeats 1600000 in
theorem txts100 (m : Int) (w : World) (hm : 0 ≤ m ∧ m < 8) (h0 : inB m 0 = true) (h1 : inB m 1 = false) (h2 : inB m 2 = false) :
    Calls Tryz.prog 68 #[.int .i64 m] w fun e w' => e = .returned (.string ⟨#[112, 108, 97, 105, 110]⟩) ∧ Below w.heap.size w w' := by
  have H0 := Lib.hid (fun W => spec_codin m 0 W); have H1 := Lib.hid (fun W => spec_codin m 1 W); have H2 := Lib.hid (fun W => spec_codin m 2 W)
  have HL := fun W => cod_in1 m 0 7 W
  rw [decide_eq_true (show 0 ≤ m ∧ m ≤ 7 from by omega)] at HL
  have HL1 := Lib.hid HL
  rw [h0] at H0; rw [h1] at H1; rw [h2] at H2
  clear h0 h1 h2 hm HL
  go_enter Tryz.func68, Tryz.ntmps68
  go_wp2_with fail
  refine (HL1.out _).mono ?_
  rintro e w1 ⟨rfl, rfl⟩
  go_wp2_with fail
  refine (H0.out _).mono ?_
  rintro e w1 ⟨rfl, hb1⟩
  go_wp2_with fail
  refine (H1.out _).mono ?_
  rintro e w2 ⟨rfl, hb2⟩
  go_wp2_with fail
  refine (H2.out _).mono ?_
  rintro e w3 ⟨rfl, hb3⟩
  go_wp2
  go_ret
  exact ⟨rfl, (hb1.trans (hb2.mono hb1.size)).trans (hb3.mono (Nat.le_trans hb1.size hb2.size))⟩
set_option maxHeartbeats 1600000 in
theorem txts101 (m : Int) (w : World) (hm : 0 ≤ m ∧ m < 8) (h0 : inB m 0 = true) (h1 : inB m 1 = false) (h2 : inB m 2 = true) :
    Calls Tryz.prog 68 #[.int .i64 m] w fun e w' => e = .returned (.string ⟨#[112, 108, 97, 105, 110, 44, 32, 98, 114]⟩) ∧ Below w.heap.size w w' := by
  have H0 := Lib.hid (fun W => spec_codin m 0 W); have H1 := Lib.hid (fun W => spec_codin m 1 W); have H2 := Lib.hid (fun W => spec_codin m 2 W)
  have HL := fun W => cod_in1 m 0 7 W
  rw [decide_eq_true (show 0 ≤ m ∧ m ≤ 7 from by omega)] at HL
  have HL1 := Lib.hid HL
  rw [h0] at H0; rw [h1] at H1; rw [h2] at H2
  clear h0 h1 h2 hm HL
  go_enter Tryz.func68, Tryz.ntmps68
  go_wp2_with fail
  refine (HL1.out _).mono ?_
  rintro e w1 ⟨rfl, rfl⟩
  go_wp2_with fail
  refine (H0.out _).mono ?_
  rintro e w1 ⟨rfl, hb1⟩
  go_wp2_with fail
  refine (H1.out _).mono ?_
  rintro e w2 ⟨rfl, hb2⟩
  go_wp2_with fail
  refine (H2.out _).mono ?_
  rintro e w3 ⟨rfl, hb3⟩
  go_wp2
  go_ret
  exact ⟨rfl, (hb1.trans (hb2.mono hb1.size)).trans (hb3.mono (Nat.le_trans hb1.size hb2.size))⟩
set_option maxHeartbeats 1600000 in
theorem txts110 (m : Int) (w : World) (hm : 0 ≤ m ∧ m < 8) (h0 : inB m 0 = true) (h1 : inB m 1 = true) (h2 : inB m 2 = false) :
    Calls Tryz.prog 68 #[.int .i64 m] w fun e w' => e = .returned (.string ⟨#[112, 108, 97, 105, 110, 44, 32, 103, 122]⟩) ∧ Below w.heap.size w w' := by
  have H0 := Lib.hid (fun W => spec_codin m 0 W); have H1 := Lib.hid (fun W => spec_codin m 1 W); have H2 := Lib.hid (fun W => spec_codin m 2 W)
  have HL := fun W => cod_in1 m 0 7 W
  rw [decide_eq_true (show 0 ≤ m ∧ m ≤ 7 from by omega)] at HL
  have HL1 := Lib.hid HL
  rw [h0] at H0; rw [h1] at H1; rw [h2] at H2
  clear h0 h1 h2 hm HL
  go_enter Tryz.func68, Tryz.ntmps68
  go_wp2_with fail
  refine (HL1.out _).mono ?_
  rintro e w1 ⟨rfl, rfl⟩
  go_wp2_with fail
  refine (H0.out _).mono ?_
  rintro e w1 ⟨rfl, hb1⟩
  go_wp2_with fail
  refine (H1.out _).mono ?_
  rintro e w2 ⟨rfl, hb2⟩
  go_wp2_with fail
  refine (H2.out _).mono ?_
  rintro e w3 ⟨rfl, hb3⟩
  go_wp2
  go_ret
  exact ⟨rfl, (hb1.trans (hb2.mono hb1.size)).trans (hb3.mono (Nat.le_trans hb1.size hb2.size))⟩
set_option maxHeartbeats 1600000 in
theorem txts111 (m : Int) (w : World) (hm : 0 ≤ m ∧ m < 8) (h0 : inB m 0 = true) (h1 : inB m 1 = true) (h2 : inB m 2 = true) :
    Calls Tryz.prog 68 #[.int .i64 m] w fun e w' => e = .returned (.string ⟨#[112, 108, 97, 105, 110, 44, 32, 103, 122, 44, 32, 98, 114]⟩) ∧ Below w.heap.size w w' := by
  have H0 := Lib.hid (fun W => spec_codin m 0 W); have H1 := Lib.hid (fun W => spec_codin m 1 W); have H2 := Lib.hid (fun W => spec_codin m 2 W)
  have HL := fun W => cod_in1 m 0 7 W
  rw [decide_eq_true (show 0 ≤ m ∧ m ≤ 7 from by omega)] at HL
  have HL1 := Lib.hid HL
  rw [h0] at H0; rw [h1] at H1; rw [h2] at H2
  clear h0 h1 h2 hm HL
  go_enter Tryz.func68, Tryz.ntmps68
  go_wp2_with fail
  refine (HL1.out _).mono ?_
  rintro e w1 ⟨rfl, rfl⟩
  go_wp2_with fail
  refine (H0.out _).mono ?_
  rintro e w1 ⟨rfl, hb1⟩
  go_wp2_with fail
  refine (H1.out _).mono ?_
  rintro e w2 ⟨rfl, hb2⟩
  go_wp2_with fail
  refine (H2.out _).mono ?_
  rintro e w3 ⟨rfl, hb3⟩
  go_wp2
  go_ret
  exact ⟨rfl, (hb1.trans (hb2.mono hb1.size)).trans (hb3.mono (Nat.le_trans hb1.size hb2.size))⟩
theorem txt_i (m : Int) (w : World) (hm : 0 ≤ m ∧ m < 8) (hc : Cds w) :
    Calls Tryz.prog 115 #[.int .i64 m] w fun e w' => e = .returned (strV (codT m)) ∧ w = w' := by
  rw [codT_in hm]
  cases h0 : inB m 0 <;> cases h1 : inB m 1 <;> cases h2 : inB m 2
  · exact txti000 m w hm hc h0 h1 h2
  · exact txti001 m w hm hc h0 h1 h2
  · exact txti010 m w hm hc h0 h1 h2
  · exact txti011 m w hm hc h0 h1 h2
  · exact txti100 m w hm hc h0 h1 h2
  · exact txti101 m w hm hc h0 h1 h2
  · exact txti110 m w hm hc h0 h1 h2
  · exact txti111 m w hm hc h0 h1 h2
theorem txt_s (m : Int) (w : World) (hm : 0 ≤ m ∧ m < 8) :
    Calls Tryz.prog 68 #[.int .i64 m] w fun e w' => e = .returned (strV (codT m)) ∧ Below w.heap.size w w' := by
  rw [codT_in hm]
  cases h0 : inB m 0 <;> cases h1 : inB m 1 <;> cases h2 : inB m 2
  · exact txts000 m w hm h0 h1 h2
  · exact txts001 m w hm h0 h1 h2
  · exact txts010 m w hm h0 h1 h2
  · exact txts011 m w hm h0 h1 h2
  · exact txts100 m w hm h0 h1 h2
  · exact txts101 m w hm h0 h1 h2
  · exact txts110 m w hm h0 h1 h2
  · exact txts111 m w hm h0 h1 h2

set_option maxHeartbeats 800000 in
theorem impl_codtext (m : Int) (w : World) (hc : Cds w) :
    Calls Tryz.prog 65 #[.int .i64 m] w fun e w' => e = .returned (strV (codT m)) ∧ w = w' := by
  have hO := fun W => set_ok m W
  by_cases hm : 0 ≤ m ∧ m < 8
  · have hT := fun W (h : Cds W) => txt_i m W hm h
    rw [decide_eq_true hm] at hO
    have HO := Lib.hid hO; have HT := Lib.hid hT; have HC := Lib.hid hc
    clear hO hT hm hc
    generalize codT m = l at *
    go_enter Tryz.func65, Tryz.ntmps65
    go_wp2_with fail
    refine (HO.out _).mono ?_
    rintro e w1 ⟨rfl, rfl⟩
    go_wp2_with fail
    refine (HT.out _ HC.out).mono ?_
    rintro e w1 ⟨rfl, rfl⟩
    go_wp2
    go_ret
    exact ⟨rfl, rfl⟩
  · rw [decide_eq_false hm] at hO
    rw [codT_out hm]
    have HO := Lib.hid hO
    clear hO hm hc
    go_enter Tryz.func65, Tryz.ntmps65
    go_wp2_with fail
    refine (HO.out _).mono ?_
    rintro e w1 ⟨rfl, rfl⟩
    go_wp2
    go_ret
    exact ⟨rfl, rfl⟩

set_option maxHeartbeats 800000 in
theorem spec_codtext (m : Int) (w : World) :
    Calls Tryz.prog 68 #[.int .i64 m] w fun e w' => e = .returned (strV (codT m)) ∧ Below w.heap.size w w' := by
  by_cases hm : 0 ≤ m ∧ m < 8
  · exact txt_s m w hm
  · have hL := fun W => cod_in1 m 0 7 W
    rw [decide_eq_false (show ¬ (0 ≤ m ∧ m ≤ 7) from by omega)] at hL
    rw [codT_out hm]
    have HL := Lib.hid hL
    clear hL hm
    go_enter Tryz.func68, Tryz.ntmps68
    go_wp2_with fail
    refine (HL.out _).mono ?_
    rintro e w1 ⟨rfl, rfl⟩
    go_wp2
    go_ret
    exact ⟨rfl, Below.refl _ _⟩
end Go.Proofs.YtncegikmpapldaaGreatDoor

-- from XMaskS
/- Walks: the set of what would be taken, by the specification. -/
namespace Go.Proofs.YtncegikmpapldaaGreatDoor
open Go.RowKit Go.Maps

set_option maxHeartbeats 3200000 in
theorem spec_qual1000 (v : Value) (ws : List Wt) (c : Int) (w : World) (hF : WRow w v ws) (hce : (c == 0) = true) :
    Calls Tryz.prog 136 #[v, .int .i64 c] w fun e w' => e = .returned (.int .i64 (lastQ ws c (lastQ ws (-1) 1000))) ∧ ∃ n, w' = w.drewN n := by
  obtain ⟨a, cap, rfl, h1, h2, h3⟩ := hF
  unfold maxLen at h2
  have H3 := Lib.hid h3; clear h3
  go_enter Tryz.func136, Tryz.ntmps136
  go_wp2
  go_loopw [5, 6] (fun q i wr => ∃ k : Nat, k ≤ ws.length ∧ i = .int .i64 k ∧ q = .int .i64 (lastQ (ws.take k) (-1) 1000) ∧ ∃ n, wr = w.drewN n) (fun _ i _ => ws.length - (intOf i).toNat)
  case atStart => exact ⟨0, Nat.zero_le _, rfl, rfl, 0, rfl⟩
  case round =>
    obtain ⟨k, hk, rfl, rfl, n, rfl⟩ := hrel
    by_cases hlt : k < ws.length
    · obtain ⟨b1, o1, rfl, hb1, c1, c2⟩ := H3.out k ws[k] (List.getElem?_eq_getElem hlt)
      obtain ⟨f, hf⟩ : ∃ f, f = ws[k] := ⟨_, rfl⟩
      rw [← hf] at c1 c2
      have hfk : ws[k]? = some f := by rw [hf]; exact List.getElem?_eq_getElem hlt
      clear hf
      have hst := lastQ_take hfk (-1) 1000
      obtain ⟨x, y⟩ := f
      simp only at c1 c2 hst
      clear hfk
      by_cases he : x = (-1)
      · rw [if_pos he] at hst
        have HS := Lib.hid hst
        have hxe : (x == (-1)) = true := beq_iff_eq.2 he
        clear hst he
        go_wp2
        go_roundw
        case rel => exact ⟨k + 1, by omega, by go_num, by rw [HS.out], _, rfl⟩
        case measure => simp [intOf]; omega
      · rw [if_neg he] at hst
        have HS := Lib.hid hst
        have hxe : (x == (-1)) = false := beq_eq_false_iff_ne.2 he
        clear hst he
        go_wp2
        go_roundw
        case rel => exact ⟨k + 1, by omega, by go_num, by rw [HS.out], _, rfl⟩
        case measure => simp [intOf]; omega
    · have hkn : k = ws.length := by omega
      subst hkn
      rw [List.take_length]
      generalize ho : lastQ ws (-1) 1000 = o
      have HO := Lib.hid ho
      clear ho
      go_wp2
      go_loopw [5, 7] (fun q i wr => ∃ k : Nat, k ≤ ws.length ∧ i = .int .i64 k ∧ q = .int .i64 (lastQ (ws.take k) c o) ∧ ∃ n, wr = w.drewN n) (fun _ i _ => ws.length - (intOf i).toNat)
      case atStart => exact ⟨0, Nat.zero_le _, rfl, by simp [lastQ], _, rfl⟩
      case round =>
        obtain ⟨k, hk, rfl, rfl, n, rfl⟩ := hrel
        by_cases hlt : k < ws.length
        · obtain ⟨b1, o1, rfl, hb1, c1, c2⟩ := H3.out k ws[k] (List.getElem?_eq_getElem hlt)
          obtain ⟨f, hf⟩ : ∃ f, f = ws[k] := ⟨_, rfl⟩
          rw [← hf] at c1 c2
          have hfk : ws[k]? = some f := by rw [hf]; exact List.getElem?_eq_getElem hlt
          clear hf
          have hst := lastQ_take hfk c o
          obtain ⟨x, y⟩ := f
          simp only at c1 c2 hst
          clear hfk
          by_cases he : x = c
          · rw [if_pos he] at hst
            have HS := Lib.hid hst
            have hxe : (x == c) = true := beq_iff_eq.2 he
            clear hst he
            go_wp2
            go_roundw
            case rel => exact ⟨k + 1, by omega, by go_num, by rw [HS.out], _, rfl⟩
            case measure => simp [intOf]; omega
          · rw [if_neg he] at hst
            have HS := Lib.hid hst
            have hxe : (x == c) = false := beq_eq_false_iff_ne.2 he
            clear hst he
            go_wp2
            go_roundw
            case rel => exact ⟨k + 1, by omega, by go_num, by rw [HS.out], _, rfl⟩
            case measure => simp [intOf]; omega
        · have hkn : k = ws.length := by omega
          subst hkn
          rw [List.take_length]
          go_wp2
          go_ret
          exact ⟨by rw [HO.out]; rfl, _, rfl⟩

set_option maxHeartbeats 3200000 in
theorem spec_qual0 (v : Value) (ws : List Wt) (c : Int) (w : World) (hF : WRow w v ws) (hce : (c == 0) = false) :
    Calls Tryz.prog 136 #[v, .int .i64 c] w fun e w' => e = .returned (.int .i64 (lastQ ws c (lastQ ws (-1) 0))) ∧ ∃ n, w' = w.drewN n := by
  obtain ⟨a, cap, rfl, h1, h2, h3⟩ := hF
  unfold maxLen at h2
  have H3 := Lib.hid h3; clear h3
  go_enter Tryz.func136, Tryz.ntmps136
  go_wp2
  go_loopw [5, 6] (fun q i wr => ∃ k : Nat, k ≤ ws.length ∧ i = .int .i64 k ∧ q = .int .i64 (lastQ (ws.take k) (-1) 0) ∧ ∃ n, wr = w.drewN n) (fun _ i _ => ws.length - (intOf i).toNat)
  case atStart => exact ⟨0, Nat.zero_le _, rfl, rfl, 0, rfl⟩
  case round =>
    obtain ⟨k, hk, rfl, rfl, n, rfl⟩ := hrel
    by_cases hlt : k < ws.length
    · obtain ⟨b1, o1, rfl, hb1, c1, c2⟩ := H3.out k ws[k] (List.getElem?_eq_getElem hlt)
      obtain ⟨f, hf⟩ : ∃ f, f = ws[k] := ⟨_, rfl⟩
      rw [← hf] at c1 c2
      have hfk : ws[k]? = some f := by rw [hf]; exact List.getElem?_eq_getElem hlt
      clear hf
      have hst := lastQ_take hfk (-1) 0
      obtain ⟨x, y⟩ := f
      simp only at c1 c2 hst
      clear hfk
      by_cases he : x = (-1)
      · rw [if_pos he] at hst
        have HS := Lib.hid hst
        have hxe : (x == (-1)) = true := beq_iff_eq.2 he
        clear hst he
        go_wp2
        go_roundw
        case rel => exact ⟨k + 1, by omega, by go_num, by rw [HS.out], _, rfl⟩
        case measure => simp [intOf]; omega
      · rw [if_neg he] at hst
        have HS := Lib.hid hst
        have hxe : (x == (-1)) = false := beq_eq_false_iff_ne.2 he
        clear hst he
        go_wp2
        go_roundw
        case rel => exact ⟨k + 1, by omega, by go_num, by rw [HS.out], _, rfl⟩
        case measure => simp [intOf]; omega
    · have hkn : k = ws.length := by omega
      subst hkn
      rw [List.take_length]
      generalize ho : lastQ ws (-1) 0 = o
      have HO := Lib.hid ho
      clear ho
      go_wp2
      go_loopw [5, 7] (fun q i wr => ∃ k : Nat, k ≤ ws.length ∧ i = .int .i64 k ∧ q = .int .i64 (lastQ (ws.take k) c o) ∧ ∃ n, wr = w.drewN n) (fun _ i _ => ws.length - (intOf i).toNat)
      case atStart => exact ⟨0, Nat.zero_le _, rfl, by simp [lastQ], _, rfl⟩
      case round =>
        obtain ⟨k, hk, rfl, rfl, n, rfl⟩ := hrel
        by_cases hlt : k < ws.length
        · obtain ⟨b1, o1, rfl, hb1, c1, c2⟩ := H3.out k ws[k] (List.getElem?_eq_getElem hlt)
          obtain ⟨f, hf⟩ : ∃ f, f = ws[k] := ⟨_, rfl⟩
          rw [← hf] at c1 c2
          have hfk : ws[k]? = some f := by rw [hf]; exact List.getElem?_eq_getElem hlt
          clear hf
          have hst := lastQ_take hfk c o
          obtain ⟨x, y⟩ := f
          simp only at c1 c2 hst
          clear hfk
          by_cases he : x = c
          · rw [if_pos he] at hst
            have HS := Lib.hid hst
            have hxe : (x == c) = true := beq_iff_eq.2 he
            clear hst he
            go_wp2
            go_roundw
            case rel => exact ⟨k + 1, by omega, by go_num, by rw [HS.out], _, rfl⟩
            case measure => simp [intOf]; omega
          · rw [if_neg he] at hst
            have HS := Lib.hid hst
            have hxe : (x == c) = false := beq_eq_false_iff_ne.2 he
            clear hst he
            go_wp2
            go_roundw
            case rel => exact ⟨k + 1, by omega, by go_num, by rw [HS.out], _, rfl⟩
            case measure => simp [intOf]; omega
        · have hkn : k = ws.length := by omega
          subst hkn
          rw [List.take_length]
          go_wp2
          go_ret
          exact ⟨by rw [HO.out]; rfl, _, rfl⟩

theorem spec_qual (v : Value) (ws : List Wt) (c : Int) (w : World) (hF : WRow w v ws) :
    Calls Tryz.prog 136 #[v, .int .i64 c] w fun e w' => e = .returned (.int .i64 (qual ws c)) ∧ ∃ n, w' = w.drewN n := by
  unfold qual
  by_cases hc : c = 0
  · rw [if_pos hc]; exact spec_qual1000 v ws c w hF (beq_iff_eq.2 hc)
  · rw [if_neg hc]; exact spec_qual0 v ws c w hF (beq_eq_false_iff_ne.2 hc)

set_option maxHeartbeats 1600000 in
theorem spec_mask (v : Value) (ws : List Wt) (w : World) (hF : WRow w v ws) :
    Calls Tryz.prog 99 #[v] w fun e w' => e = .returned (.int .i64 (maskL ws : Int)) ∧ ∃ n, w' = w.drewN n := by
  have HM := Lib.hid (maskTo_all ws)
  go_enter Tryz.func99, Tryz.ntmps99
  go_wp2
  go_loopw [3, 4, 5] (fun m x i wr => ∃ k : Nat, k ≤ 3 ∧ i = .int .i64 k ∧ m = .int .i64 (maskTo ws k : Int) ∧ x = .int .i64 ((2 ^ k : Nat) : Int) ∧ ∃ n, wr = w.drewN n) (fun _ _ i _ => 3 - (intOf i).toNat)
  case atStart => exact ⟨0, by omega, rfl, by rw [maskTo_zero]; rfl, rfl, 0, rfl⟩
  case round =>
    obtain ⟨k, hk, rfl, rfl, rfl, n, rfl⟩ := hrel
    have h3 : k = 0 ∨ k = 1 ∨ k = 2 ∨ k = 3 := by omega
    have hst := maskTo_step ws k
    have hlt := maskTo_lt ws k hk
    have hS := fun W (h : WRow W v ws) => spec_qual v ws k W h
    have hm3 : k = 3 → maskTo ws 3 = maskTo ws k := fun h => by rw [h]
    generalize maskTo ws k = M at *
    have HST := Lib.hid hst; have HS := Lib.hid hS; have HM3' := Lib.hid hm3
    clear hst hS hm3
    rcases h3 with rfl | rfl | rfl | rfl
    · have hC := HS.out (w.drewN n) hF
      have hst := HST.out (by decide)
      simp only [show (((0 : Nat)) : Int) = 0 from rfl] at hC hst
      generalize qual ws 0 = Y at *
      have HC := Lib.hid hC
      clear hC HST HS
      by_cases hY : 0 < Y
      · rw [if_pos hY] at hst
        have HM1 := Lib.hid hst
        clear hst
        go_wp2_with fail
        refine HC.out.mono ?_
        rintro e w2 ⟨rfl, n2, rfl⟩
        go_wp2
        go_roundw
        case rel => exact ⟨1, by omega, by go_num, by rw [show maskTo ws 1 = M + 1 from HM1.out]; go_num, by go_num, _, rfl⟩
        case measure => simp [intOf]
      · rw [if_neg hY] at hst
        have HM1 := Lib.hid hst
        clear hst
        go_wp2_with fail
        refine HC.out.mono ?_
        rintro e w2 ⟨rfl, n2, rfl⟩
        go_wp2
        go_roundw
        case rel => exact ⟨1, by omega, by go_num, by rw [show maskTo ws 1 = M from HM1.out], by go_num, _, rfl⟩
        case measure => simp [intOf]
    · have hC := HS.out (w.drewN n) hF
      have hst := HST.out (by decide)
      simp only [show (((1 : Nat)) : Int) = 1 from rfl] at hC hst
      generalize qual ws 1 = Y at *
      have HC := Lib.hid hC
      clear hC HST HS
      by_cases hY : 0 < Y
      · rw [if_pos hY] at hst
        have HM1 := Lib.hid hst
        clear hst
        go_wp2_with fail
        refine HC.out.mono ?_
        rintro e w2 ⟨rfl, n2, rfl⟩
        go_wp2
        go_roundw
        case rel => exact ⟨2, by omega, by go_num, by rw [show maskTo ws 2 = M + 2 from HM1.out]; go_num, by go_num, _, rfl⟩
        case measure => simp [intOf]
      · rw [if_neg hY] at hst
        have HM1 := Lib.hid hst
        clear hst
        go_wp2_with fail
        refine HC.out.mono ?_
        rintro e w2 ⟨rfl, n2, rfl⟩
        go_wp2
        go_roundw
        case rel => exact ⟨2, by omega, by go_num, by rw [show maskTo ws 2 = M from HM1.out], by go_num, _, rfl⟩
        case measure => simp [intOf]
    · have hC := HS.out (w.drewN n) hF
      have hst := HST.out (by decide)
      simp only [show (((2 : Nat)) : Int) = 2 from rfl] at hC hst
      generalize qual ws 2 = Y at *
      have HC := Lib.hid hC
      clear hC HST HS
      by_cases hY : 0 < Y
      · rw [if_pos hY] at hst
        have HM1 := Lib.hid hst
        clear hst
        go_wp2_with fail
        refine HC.out.mono ?_
        rintro e w2 ⟨rfl, n2, rfl⟩
        go_wp2
        go_roundw
        case rel => exact ⟨3, by omega, by go_num, by rw [show maskTo ws 3 = M + 4 from HM1.out]; go_num, by go_num, _, rfl⟩
        case measure => simp [intOf]
      · rw [if_neg hY] at hst
        have HM1 := Lib.hid hst
        clear hst
        go_wp2_with fail
        refine HC.out.mono ?_
        rintro e w2 ⟨rfl, n2, rfl⟩
        go_wp2
        go_roundw
        case rel => exact ⟨3, by omega, by go_num, by rw [show maskTo ws 3 = M from HM1.out], by go_num, _, rfl⟩
        case measure => simp [intOf]
    · have hm3 := HM3'.out rfl
      rw [HM.out] at hm3
      subst hm3
      clear HST HS
      go_wp2
      go_ret
      exact ⟨rfl, _, rfl⟩
end Go.Proofs.YtncegikmpapldaaGreatDoor

-- from XCodOs
/- Walks: the set of codings that a request would take, by the specification. -/
namespace Go.Proofs.YtncegikmpapldaaGreatDoor
open Go.RowKit Go.Maps

set_option maxHeartbeats 1600000 in
theorem spec_codof (v : Value) (fs : List Fd) (w : World) (hF : FRow w v fs) (hok : FOk fs 1048576) (hn : fs.length ≤ 2000000) :
    Calls Tryz.prog 53 #[v] w fun e w' => e = .returned (.int .i64 (codOfF fs : Int)) ∧ Below w.heap.size w w' := by
  have hO := spec_one v fs bAccept w hF hn
  have hsz := one_sizeK hok bAccept
  have h1 := fun v (h : oneOf (allTo fs bAccept fs.length) = (v, false)) => codOf_no h
  have h2 := fun v (h : oneOf (allTo fs bAccept fs.length) = (v, true)) (k : codParse v.data.toList = none) => codOf_bad h k
  have h3 := fun v ws (h : oneOf (allTo fs bAccept fs.length) = (v, true)) (k : codParse v.data.toList = some ws) => codOf_yes h k
  have hvl : ∃ va vc, v = .slice va fs.length vc := by
    obtain ⟨va, vc, e, _⟩ := hF
    exact ⟨va, vc, e⟩
  obtain ⟨va, vc, rfl⟩ := hvl
  generalize oneOf (allTo fs bAccept fs.length) = O at *
  obtain ⟨x, one⟩ := O
  simp only at hO hsz
  have HP : Hid (∀ W, Calls Tryz.prog 98 #[.string x] W fun e w' => PRet W.heap.size x.data.toList e w' ∧ Below W.heap.size W w') := Lib.hid fun W => spec_codparse x W hsz
  have HO := Lib.hid hO; have H1 := Lib.hid h1; have H2 := Lib.hid h2; have H3 := Lib.hid h3
  clear hO h1 h2 h3 hF hsz
  go_enter Tryz.func53, Tryz.ntmps53
  unfold bAccept at HO
  go_wp2_with fail
  refine HO.out.mono ?_
  rintro e w1 ⟨rfl, hb1⟩
  cases one
  · have HR := Lib.hid (H1.out x rfl)
    go_wp2
    go_ret
    exact ⟨by rw [HR.out]; rfl, hb1⟩
  · go_wp2_with fail
    refine (HP.out _).mono ?_
    rintro e w2 ⟨⟨u, ws, rfl, hws, ho⟩, hb2⟩
    have hb02 := hb1.trans (hb2.mono hb1.size)
    have HW := Lib.hid (wrow_of_own ho)
    have hul : ∃ ua uc, u = .slice ua ws.length uc := by
      obtain ⟨ua, uc, e, _⟩ := HW.out
      exact ⟨ua, uc, e⟩
    obtain ⟨ua, uc, rfl⟩ := hul
    clear ho hb1 hb2
    cases hp : codParse x.data.toList with
    | none =>
      have HR := Lib.hid (H2.out x rfl hp)
      simp only [Option.isSome_none]
      clear hp hws
      go_wp2
      go_ret
      exact ⟨by rw [HR.out]; rfl, hb02⟩
    | some ws2 =>
      rw [hp] at hws
      have hww : ws = ws2 := hws
      subst hww
      have HR := Lib.hid (H3.out x ws rfl hp)
      simp only [Option.isSome_some]
      clear hp hws
      go_wp2_with fail
      refine (spec_mask _ ws _ HW.out).mono ?_
      rintro e w3 ⟨rfl, n3, rfl⟩
      go_wp2
      go_ret
      exact ⟨by rw [HR.out]; rfl, below_drewN hb02⟩
end Go.Proofs.YtncegikmpapldaaGreatDoor

