/- Walks: names; the classes of bytes. -/
import Derived.Test.YtncegikmpapldaaGreatDoorRows
import Derived.Test.YtncegikmpapldaaGreatDoorOwn
import Derived.WalkKit
import Derived.WalkSpells
import Derived.WalkLawsBesides
import Derived.BigQuiet
import Derived.Lib.Hide
import Derived.Lib.LaidTab
namespace Go.Proofs.YtncegikmpapldaaGreatDoor
open Go.RowKit

def clsTab : List Int := (List.range 123).map fun i => if (97 ≤ i ∧ i ≤ 122) ∨ (48 ≤ i ∧ i ≤ 57) ∨ i = 45 then 1 else if 65 ≤ i ∧ i ≤ 90 then 2 else 0
def isSmall (c : UInt8) : Bool := (97 ≤ c.toNat && c.toNat ≤ 122) || (48 ≤ c.toNat && c.toNat ≤ 57) || c.toNat == 45
def isGreat (c : UInt8) : Bool := 65 ≤ c.toNat && c.toNat ≤ 90
def clsOf (n : Nat) : Int := clsTab.getD n 0

def smalls (l : List UInt8) : Bool := l.all isSmall

theorem clsOf_eq (c : UInt8) : clsOf c.toNat = if isSmall c = true then 1 else if isGreat c = true then 2 else 0 := by
  have h : ∀ n : Fin 256, clsOf n.val = if ((97 ≤ n.val && n.val ≤ 122) || (48 ≤ n.val && n.val ≤ 57) || n.val == 45) = true then 1 else if (65 ≤ n.val && n.val ≤ 90) = true then 2 else 0 := by decide +kernel
  exact h ⟨c.toNat, c.toNat_lt⟩

/-- The table of classes lies in its variable. -/
def Cls (w : World) : Prop := 1 < w.heap.size ∧ ∀ i, i < 123 → w.cell? ⟨1, i, none⟩ = some (.int .u8 (clsOf i))
theorem Cls.below {w w' : World} (h : Cls w) {B : Nat} (hb : Below B w w') (hB : w.heap.size ≤ B) : Cls w' :=
  ⟨Nat.lt_of_lt_of_le h.1 hb.size, fun i hi => (hb.cell (p := ⟨1, i, none⟩) (Nat.lt_of_lt_of_le h.1 hB)).trans (h.2 i hi)⟩
theorem Cls.drewN {w : World} (h : Cls w) (n : Nat) : Cls (w.drewN n) := h

set_option maxRecDepth 100000 in
set_option maxHeartbeats 400000 in
theorem class_of (c : UInt8) (w : World) (h : Cls w) :
    Calls Tryz.prog 130 #[.int .u8 c.toNat] w fun e w' => e = .returned (.int .u8 (clsOf c.toNat)) ∧ w = w' := by
  have hc := c.toNat_lt
  by_cases hlt : c.toNat < 123
  · have hcell := h.2 _ hlt
    clear h
    generalize clsOf c.toNat = k at hcell ⊢
    go_enter Tryz.func130, Tryz.ntmps130
    go_wp2
    go_ret
    exact ⟨rfl, rfl⟩
  · have e : clsOf c.toNat = 0 := by
      unfold clsOf
      rw [List.getD_eq_getElem?_getD, List.getElem?_eq_none (by simp [clsTab]; omega)]; rfl
    rw [e]
    clear h e
    generalize c.toNat = n at hc hlt
    go_enter Tryz.func130, Tryz.ntmps130
    go_wp2
    go_ret
    exact ⟨rfl, rfl⟩

set_option maxHeartbeats 400000 in
theorem l1_small (c : UInt8) (w : World) :
    Calls Tryz.prog 69 #[.int .u8 c.toNat] w fun e w' => e = .returned (.bool (isSmall c)) ∧ w = w' := by
  have hc := c.toNat_lt
  unfold isSmall
  generalize c.toNat = n at hc
  have hr : n < 45 ∨ n = 45 ∨ (46 ≤ n ∧ n ≤ 47) ∨ (48 ≤ n ∧ n ≤ 57) ∨ (58 ≤ n ∧ n ≤ 96) ∨ (97 ≤ n ∧ n ≤ 122) ∨ 123 ≤ n := by omega
  rcases hr with hr | rfl | ⟨h1, h2⟩ | ⟨h1, h2⟩ | ⟨h1, h2⟩ | ⟨h1, h2⟩ | hr
  all_goals go_enter Tryz.func69, Tryz.ntmps69
  all_goals go_wp2
  all_goals go_ret
  all_goals (refine ⟨congrArg (fun b => Ending.returned (Value.bool b)) ?_, rfl⟩)
  all_goals (show (_ : Bool) = _)
  all_goals first | rfl | (rw [Bool.eq_iff_iff]; done) | (rw [Bool.eq_iff_iff]; simp; done) | (rw [Bool.eq_iff_iff]; simp; omega)

theorem all_take_succ {s : ByteArray} {k : Nat} {p : UInt8 → Bool} (hk : k < s.size) (h : (s.data.toList.take k).all p = true) (h2 : p s[k] = true) : (s.data.toList.take (k + 1)).all p = true := by
  rw [take_succ_at (at_get s k hk), List.all_append, h]; simp [h2]
theorem all_false_at {s : ByteArray} {k : Nat} {p : UInt8 → Bool} (hk : k < s.size) (h : p s[k] = false) : s.data.toList.all p = false := by
  cases ha : s.data.toList.all p
  · rfl
  · rw [List.all_eq_true] at ha
    have := ha s[k] (List.mem_of_getElem? (at_get s k hk))
    rw [h] at this; cases this
theorem all_of_take {s : ByteArray} {k : Nat} {p : UInt8 → Bool} (hk : s.size ≤ k) (h : (s.data.toList.take k).all p = true) : s.data.toList.all p = true := by
  rw [List.take_of_length_le (by rw [← size_len]; exact hk)] at h; exact h

set_option maxHeartbeats 400000 in
theorem only_token (s : ByteArray) (w : World) (hs : s.size ≤ maxLen) (h : Cls w) :
    Calls Tryz.prog 93 #[.string s, .int .u8 1] w fun e w' => e = .returned (.bool (smalls s.data.toList)) ∧ w = w' := by
  unfold maxLen at hs
  go_enter Tryz.func93, Tryz.ntmps93
  go_wp2_with fail
  go_loop [8] (fun i => ∃ k : Nat, k ≤ s.size ∧ i = .int .i64 k ∧ (s.data.toList.take k).all isSmall = true) (fun i => s.size - (intOf i).toNat)
  case atStart => exact ⟨0, Nat.zero_le _, rfl, by simp⟩
  case round =>
    obtain ⟨k, hk, rfl, hall⟩ := hrel
    by_cases hlt : k < s.size
    · go_wp2_with fail
      refine (class_of s[k] _ h).mono ?_
      rintro e w' ⟨rfl, rfl⟩
      go_wp2_with fail
      · have hne : (clsOf s[k].toNat != 1) = true := by assumption
        go_ret
        refine ⟨?_, rfl⟩
        have hf : smalls s.data.toList = false := all_false_at hlt (by
          rw [clsOf_eq] at hne
          cases hb : isSmall s[k]
          · rfl
          · rw [hb] at hne; simp at hne)
        rw [hf]; rfl
      · have he : (clsOf s[k].toNat != 1) = false := by assumption
        go_round
        case rel =>
          refine ⟨k + 1, by omega, by go_num, all_take_succ hlt hall ?_⟩
          rw [clsOf_eq] at he
          cases hb : isSmall s[k]
          · rw [hb] at he
            cases hg : isGreat s[k] <;> rw [hg] at he <;> simp at he
          · rfl
        case measure => simp [intOf]; omega
    · go_wp2
      go_ret
      have hf : smalls s.data.toList = true := all_of_take (by omega) hall
      rw [hf]; exact ⟨rfl, rfl⟩

def tokB (l : List UInt8) : Bool := decide (1 ≤ l.length) && decide (l.length ≤ 12) && smalls l

set_option maxHeartbeats 400000 in
theorem impl_tok (s : ByteArray) (w : World) (hs : s.size ≤ maxLen) (h : Cls w) :
    Calls Tryz.prog 48 #[.string s] w fun e w' => e = .returned (.bool (tokB s.data.toList)) ∧ w = w' := by
  unfold tokB
  rw [← size_len]
  by_cases h1 : 1 ≤ s.size
  · by_cases h2 : s.size ≤ 12
    · generalize hb : smalls s.data.toList = b
      have HB := Lib.hid hb; clear hb
      go_enter Tryz.func48, Tryz.ntmps48
      go_wp2_with fail
      refine (only_token _ _ hs h).mono ?_
      rintro e w' ⟨rfl, rfl⟩
      rw [HB.out]
      go_wp2
      go_ret
      exact ⟨by simp [h1, h2], rfl⟩
    · unfold maxLen at hs
      clear h
      go_enter Tryz.func48, Tryz.ntmps48
      go_wp2
      go_ret
      exact ⟨by simp, rfl⟩
  · unfold maxLen at hs
    clear h
    go_enter Tryz.func48, Tryz.ntmps48
    go_wp2
    go_ret
    exact ⟨by simp, rfl⟩

set_option maxHeartbeats 400000 in
theorem spec_tok (s : ByteArray) (w : World) (hs : s.size ≤ maxLen) :
    Calls Tryz.prog 27 #[.string s] w fun e w' => e = .returned (.bool (tokB s.data.toList)) ∧ w = w' := by
  unfold maxLen at hs
  by_cases h1 : 1 ≤ s.size ∧ s.size ≤ 12
  · obtain ⟨h1, h2⟩ := h1
    have hz : ((s.size : Int) == 0) = false := beq_eq_false_iff_ne.2 (by omega)
    have e : tokB s.data.toList = smalls s.data.toList := by unfold tokB; rw [← size_len]; simp [h1, h2]
    rw [e]
    clear e
    go_enter Tryz.func27, Tryz.ntmps27
    go_wp2_with fail
    go_loop [3] (fun i => ∃ k : Nat, k ≤ s.size ∧ i = .int .i64 k ∧ (s.data.toList.take k).all isSmall = true) (fun i => s.size - (intOf i).toNat)
    case atStart => exact ⟨0, Nat.zero_le _, rfl, by simp⟩
    case round =>
      obtain ⟨k, hk, rfl, hall⟩ := hrel
      by_cases hlt : k < s.size
      · go_wp2_with fail
        refine (l1_small s[k] _).mono ?_
        rintro e w' ⟨rfl, rfl⟩
        generalize hb : isSmall s[k] = b
        cases b
        · have hf : smalls s.data.toList = false := all_false_at hlt hb
          have HF := Lib.hid hf; clear hf hb
          go_wp2
          go_ret
          rw [HF.out]; exact ⟨rfl, rfl⟩
        · have hst := all_take_succ hlt hall hb
          clear hb
          go_wp2
          go_round
          case rel => exact ⟨k + 1, by omega, by go_num, hst⟩
          case measure => simp [intOf]; omega
      · go_wp2
        go_ret
        have hf : smalls s.data.toList = true := all_of_take (by omega) hall
        rw [hf]; exact ⟨rfl, rfl⟩
  · have e : tokB s.data.toList = false := by
      unfold tokB; rw [← size_len]
      by_cases h0 : 1 ≤ s.size
      · have : ¬ s.size ≤ 12 := fun h2 => h1 ⟨h0, h2⟩
        simp [this]
      · simp [h0]
    rw [e]
    clear e
    by_cases h0 : s.size = 0
    · have hz : ((s.size : Int) == 0) = true := by simp [h0]
      go_enter Tryz.func27, Tryz.ntmps27
      go_wp2
      go_ret
      exact ⟨rfl, rfl⟩
    · have hz : ((s.size : Int) == 0) = false := beq_eq_false_iff_ne.2 (by omega)
      have h2 : 12 < (s.size : Int) := by omega
      clear h1
      go_enter Tryz.func27, Tryz.ntmps27
      go_wp2
      go_ret
      exact ⟨rfl, rfl⟩
end Go.Proofs.YtncegikmpapldaaGreatDoor
