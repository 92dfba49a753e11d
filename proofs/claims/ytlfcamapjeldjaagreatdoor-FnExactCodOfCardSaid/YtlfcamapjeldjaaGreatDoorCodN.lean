/- Walks: the name of a coding; one thing that somebody would take. -/
import Derived.Test.YtlfcamapjeldjaaGreatDoorCodQi
import Derived.Test.YtlfcamapjeldjaaGreatDoorLaidC
import Derived.Test.YtlfcamapjeldjaaGreatDoorTrim
import Derived.Test.YtlfcamapjeldjaaGreatDoorCutI
namespace Go.Proofs.YtlfcamapjeldjaaGreatDoor
open Go.RowKit

/-- The coding of a name, and whether there is one. -/
def codK (l : List UInt8) : Int × Bool := if l = nPlain then (0, true) else if l = nGz then (1, true) else if l = nBr then (2, true) else (0, false)
def codW (l : List UInt8) : Int × Bool := if l = [42] then (-1, true) else codK (lowL l)

theorem low_star (l : List UInt8) : lowL l = [42] ↔ l = [42] := by
  constructor
  · intro h
    match l, h with
    | [c], h =>
      have hc : lowB c = 42 := by simpa [lowL] using h
      unfold lowB at hc
      split at hc
      · rename_i hg
        unfold isGreat at hg
        simp only [Bool.and_eq_true, decide_eq_true_eq] at hg
        have := congrArg UInt8.toNat hc
        rw [UInt8.toNat_add] at this
        have e1 : (32 : UInt8).toNat = 32 := rfl
        have e2 : (42 : UInt8).toNat = 42 := rfl
        rw [e1, e2] at this
        omega
      · rw [hc]
    | [], h => simp [lowL] at h
    | _ :: _ :: _, h => simp [lowL] at h
  · rintro rfl; decide
theorem codN_star : codN (lowL [42]) = -1 := by decide
theorem codW_codN (l : List UInt8) : codN (lowL l) = if (codW l).2 = true then (codW l).1 else -2 := by
  unfold codW codN
  by_cases h : l = [42]
  · rw [if_pos h, if_pos ((low_star l).2 h)]; rfl
  · rw [if_neg h, if_neg (fun e => h ((low_star l).1 e))]
    unfold codK
    split
    · rfl
    · split
      · rfl
      · split <;> rfl
theorem codK_ge (l : List UInt8) : 0 ≤ (codK l).1 ∧ (codK l).1 ≤ 2 := by
  unfold codK; split
  · decide
  · split
    · decide
    · split <;> decide
theorem codW_ge (l : List UInt8) : -1 ≤ (codW l).1 ∧ (codW l).1 ≤ 2 := by
  unfold codW; split
  · decide
  · have := codK_ge (lowL l); omega

def CRet (r : Int × Bool) : Value := .tuple #[.int .i64 r.1, .bool r.2]

theorem names_at0 (W : World) : (Instr.index 65 (.agg #[.string ⟨#[112, 108, 97, 105, 110]⟩, .string ⟨#[103, 122]⟩, .string ⟨#[98, 114]⟩]) (.int .i64 0)).run Tryz.prog W = .ok (.string ⟨#[112, 108, 97, 105, 110]⟩) W := by kernel_rfl
theorem names_at1 (W : World) : (Instr.index 65 (.agg #[.string ⟨#[112, 108, 97, 105, 110]⟩, .string ⟨#[103, 122]⟩, .string ⟨#[98, 114]⟩]) (.int .i64 1)).run Tryz.prog W = .ok (.string ⟨#[103, 122]⟩) W := by kernel_rfl
theorem names_at2 (W : World) : (Instr.index 65 (.agg #[.string ⟨#[112, 108, 97, 105, 110]⟩, .string ⟨#[103, 122]⟩, .string ⟨#[98, 114]⟩]) (.int .i64 2)).run Tryz.prog W = .ok (.string ⟨#[98, 114]⟩) W := by kernel_rfl

set_option maxRecDepth 100000 in
set_option maxHeartbeats 800000 in
theorem coding_named (s : ByteArray) (w : World) (h : Cds w) :
    Calls Tryz.prog 61 #[.string s] w fun e w' => e = .returned (CRet (codK s.data.toList)) ∧ w = w' := by
  obtain ⟨hz, h0, h1, h2⟩ := h
  have x0 := names_at0
  have x1 := names_at1
  have x2 := names_at2
  by_cases c0 : s.data.toList = nPlain
  · have b0 : ([112, 108, 97, 105, 110] == s.toList) = true := by rw [Lib.toList_data, c0]; rfl
    have hk : codK s.data.toList = (0, true) := if_pos c0
    have HK := Lib.hid hk
    clear c0 hk
    go_enter Tryz.func61, Tryz.ntmps61
    go_wp2
    go_loop [7] (fun i => i = .int .i64 0) (fun _ => 0)
    case atStart => rfl
    case round =>
      subst hrel
      go_wp2
      go_ret2
      exact ⟨by rw [HK.out]; rfl, rfl⟩
  · have b0 : ([112, 108, 97, 105, 110] == s.toList) = false := by rw [Lib.toList_data]; exact beq_eq_false_iff_ne.2 fun e => c0 e.symm
    by_cases c1 : s.data.toList = nGz
    · have b1 : ([103, 122] == s.toList) = true := by rw [Lib.toList_data, c1]; rfl
      have hk : codK s.data.toList = (1, true) := by unfold codK; rw [if_neg c0, if_pos c1]
      have HK := Lib.hid hk
      clear c0 c1 hk
      go_enter Tryz.func61, Tryz.ntmps61
      go_wp2
      go_loop [7] (fun i => i = .int .i64 0 ∨ i = .int .i64 1) (fun i => 2 - (intOf i).toNat)
      case atStart => exact .inl rfl
      case round =>
        rcases hrel with rfl | rfl
        · go_wp2
          go_round
          case rel => exact .inr rfl
          case measure => simp [intOf]
        · go_wp2
          go_ret2
          exact ⟨by rw [HK.out]; rfl, rfl⟩
    · have b1 : ([103, 122] == s.toList) = false := by rw [Lib.toList_data]; exact beq_eq_false_iff_ne.2 fun e => c1 e.symm
      by_cases c2 : s.data.toList = nBr
      · have b2 : ([98, 114] == s.toList) = true := by rw [Lib.toList_data, c2]; rfl
        have hk : codK s.data.toList = (2, true) := by unfold codK; rw [if_neg c0, if_neg c1, if_pos c2]
        have HK := Lib.hid hk
        clear c0 c1 c2 hk
        go_enter Tryz.func61, Tryz.ntmps61
        go_wp2
        go_loop [7] (fun i => i = .int .i64 0 ∨ i = .int .i64 1 ∨ i = .int .i64 2) (fun i => 2 - (intOf i).toNat)
        case atStart => exact .inl rfl
        case round =>
          rcases hrel with rfl | rfl | rfl
          · go_wp2
            go_round
            case rel => exact .inr (.inl rfl)
            case measure => simp [intOf]
          · go_wp2
            go_round
            case rel => exact .inr (.inr rfl)
            case measure => simp [intOf]
          · go_wp2
            go_ret2
            exact ⟨by rw [HK.out]; rfl, rfl⟩
      · have b2 : ([98, 114] == s.toList) = false := by rw [Lib.toList_data]; exact beq_eq_false_iff_ne.2 fun e => c2 e.symm
        have hk : codK s.data.toList = (0, false) := by unfold codK; rw [if_neg c0, if_neg c1, if_neg c2]
        have HK := Lib.hid hk
        clear c0 c1 c2 hk
        go_enter Tryz.func61, Tryz.ntmps61
        go_wp2
        go_loop [7] (fun i => i = .int .i64 0 ∨ i = .int .i64 1 ∨ i = .int .i64 2 ∨ i = .int .i64 3) (fun i => 3 - (intOf i).toNat)
        case atStart => exact .inl rfl
        case round =>
          rcases hrel with rfl | rfl | rfl | rfl
          · go_wp2
            go_round
            case rel => exact .inr (.inl rfl)
            case measure => simp [intOf]
          · go_wp2
            go_round
            case rel => exact .inr (.inr (.inl rfl))
            case measure => simp [intOf]
          · go_wp2
            go_round
            case rel => exact .inr (.inr (.inr rfl))
            case measure => simp [intOf]
          · go_wp2
            go_ret2
            exact ⟨by rw [HK.out]; rfl, rfl⟩

set_option maxHeartbeats 800000 in
theorem wanted_code (s : ByteArray) (w : World) (hs : s.size ≤ maxLen) (h : Cds w) (hc : Cls w) :
    Calls Tryz.prog 43 #[.string s] w fun e w' => e = .returned (CRet (codW s.data.toList)) ∧ Below w.heap.size w w' := by
  by_cases c0 : s.data.toList = [42]
  · have b0 : (s.toList == [42]) = true := by rw [Lib.toList_data, c0]; rfl
    have HK := Lib.hid (show codW s.data.toList = (-1, true) from if_pos c0)
    clear c0 h hc
    go_enter Tryz.func43, Tryz.ntmps43
    go_wp2
    go_ret2
    exact ⟨by rw [HK.out]; rfl, Below.refl _ _⟩
  · have b0 : (s.toList == [42]) = false := by rw [Lib.toList_data]; exact beq_eq_false_iff_ne.2 c0
    have HK := Lib.hid (show codW s.data.toList = codK (lowL s.data.toList) from if_neg c0)
    have HD := Lib.hid h
    have HL := Lib.hid (fun W (k : Cls W) => impl_lower s W hs k)
    clear c0 h
    go_enter Tryz.func43, Tryz.ntmps43
    go_wp2_with fail
    refine (HL.out _ hc).mono ?_
    rintro e w1 ⟨rfl, hb1⟩
    have hd1 := HD.out.below hb1 (Nat.le_refl _)
    have hN := coding_named ⟨(lowL s.data.toList).toArray⟩ w1 hd1
    unfold CRet at hN
    simp only at hN
    clear hd1
    generalize codK (lowL s.data.toList) = r at *
    obtain ⟨r1, r2⟩ := r
    have HN := Lib.hid hN
    clear hN
    simp only [strV]
    go_wp2_with fail
    refine HN.out.mono ?_
    rintro e w2 ⟨rfl, rfl⟩
    go_wp2
    go_ret2
    exact ⟨by rw [HK.out]; rfl, hb1⟩

theorem pre_q (l : List UInt8) : ([113, 61] : List UInt8).isPrefixOf l = decide (l.take 2 = [113, 61]) := by
  match l with
  | [] => rfl
  | [a] => simp [List.isPrefixOf]
  | a :: b :: l =>
    rw [Bool.eq_iff_iff]
    simp only [List.isPrefixOf, Bool.and_true, Bool.and_eq_true, beq_iff_eq, List.take_succ_cons, List.take_zero, decide_eq_true_eq, List.cons.injEq, and_true]
    exact ⟨fun h => ⟨h.1.symm, h.2.symm⟩, fun h => ⟨h.1.symm, h.2.symm⟩⟩

set_option maxHeartbeats 400000 in
theorem cut_prefix (s : ByteArray) (w : World) (hs : s.size ≤ maxLen) :
    Calls Tryz.prog 45 #[.string s, .string ⟨#[113, 61]⟩] w fun e w' => e = .returned (.tuple #[.string (if s.data.toList.take 2 = [113, 61] then ⟨(s.data.toList.drop 2).toArray⟩ else s), .bool (decide (s.data.toList.take 2 = [113, 61]))]) ∧ w = w' := by
  unfold maxLen at hs
  have hp : Lib.hasPrefix s.data.toList [113, 61] = decide (s.data.toList.take 2 = [113, 61]) := pre_q _
  have hP := fun W => Tryz.stringslite_HasPrefix s ⟨#[113, 61]⟩ W
  have e1 : (ByteArray.mk #[113, 61]).data.toList = [113, 61] := rfl
  rw [e1, hp] at hP
  have HP := Lib.hid hP
  clear hP hp
  by_cases c : s.data.toList.take 2 = [113, 61]
  · have h2 : 2 ≤ s.size := by
      have := congrArg List.length c
      rw [List.length_take] at this
      have e : ([113, 61] : List UInt8).length = 2 := rfl
      rw [size_len]; omega
    have hx := ext_drop s 2
    have HX := Lib.hid hx
    rw [if_pos c, decide_eq_true c]
    rw [decide_eq_true c] at HP
    clear c hx
    go_enter Tryz.func45, Tryz.ntmps45
    go_wp2_with (first | (go_at_call 73; refine (HP.out _).mono ?_; rintro e w1 ⟨rfl, rfl⟩) | go_in)
    go_ret2
    exact ⟨by rw [← HX.out]; rfl, rfl⟩
  · rw [if_neg c, decide_eq_false c]
    rw [decide_eq_false c] at HP
    clear c
    go_enter Tryz.func45, Tryz.ntmps45
    go_wp2_with (first | (go_at_call 73; refine (HP.out _).mono ?_; rintro e w1 ⟨rfl, rfl⟩) | go_in)
    go_ret2
    exact ⟨rfl, rfl⟩
end Go.Proofs.YtlfcamapjeldjaaGreatDoor
