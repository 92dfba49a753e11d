/- Walks: names; the classes of bytes. -/
import Derived.Test.YtbhnjnoblkfckabDoorRows
import Derived.Test.YtbhnjnoblkfckabDoorOwn
import Derived.WalkKit
import Derived.WalkSpells
import Derived.WalkLawsBesides
import Derived.BigQuiet
import Derived.Lib.Hide
import Derived.Lib.LaidTab
namespace Go.Proofs.YtbhnjnoblkfckabDoor
open Go.RowKit

def clsTab : List Int := (List.range 123).map fun i => if (97 ≤ i ∧ i ≤ 122) ∨ (48 ≤ i ∧ i ≤ 57) ∨ i = 45 then 1 else if 65 ≤ i ∧ i ≤ 90 then 2 else 0
def isSmall (c : UInt8) : Bool := (97 ≤ c.toNat && c.toNat ≤ 122) || (48 ≤ c.toNat && c.toNat ≤ 57) || c.toNat == 45
def isGreat (c : UInt8) : Bool := 65 ≤ c.toNat && c.toNat ≤ 90
def clsOf (n : Nat) : Int := clsTab.getD n 0

def smalls (l : List UInt8) : Bool := l.all isSmall

theorem clsOf_eq (c : UInt8) : clsOf c.toNat = if isSmall c = true then 1 else if isGreat c = true then 2 else 0 := by
  have h : ∀ n : Fin 256, clsOf n.val = if ((97 ≤ n.val && n.val ≤ 122) || (48 ≤ n.val && n.val ≤ 57) || n.val == 45) = true then 1 else if (65 ≤ n.val && n.val ≤ 90) = true then 2 else 0 := by decide +kernel
  exact h ⟨c.toNat, c.toNat_lt⟩

/-- The table of classes lies in its variable. -/
def Cls (w : World) : Prop := 0 < w.heap.size ∧ ∀ i, i < 123 → w.cell? ⟨0, i, none⟩ = some (.int .u8 (clsOf i))
theorem Cls.below {w w' : World} (h : Cls w) {B : Nat} (hb : Below B w w') (hB : w.heap.size ≤ B) : Cls w' :=
  ⟨Nat.lt_of_lt_of_le h.1 hb.size, fun i hi => (hb.cell (p := ⟨0, i, none⟩) (Nat.lt_of_lt_of_le h.1 hB)).trans (h.2 i hi)⟩
theorem Cls.drewN {w : World} (h : Cls w) (n : Nat) : Cls (w.drewN n) := h

set_option maxRecDepth 100000 in
set_option maxHeartbeats 400000 in
theorem class_of (c : UInt8) (w : World) (h : Cls w) :
    Calls Tryd.prog 34 #[.int .u8 c.toNat] w fun e w' => e = .returned (.int .u8 (clsOf c.toNat)) ∧ w = w' := by
  have hc := c.toNat_lt
  by_cases hlt : c.toNat < 123
  · have hcell := h.2 _ hlt
    clear h
    generalize clsOf c.toNat = k at hcell ⊢
    go_enter Tryd.func34, Tryd.ntmps34
    go_wp2
    go_ret
    exact ⟨rfl, rfl⟩
  · have e : clsOf c.toNat = 0 := by
      unfold clsOf
      rw [List.getD_eq_getElem?_getD, List.getElem?_eq_none (by simp [clsTab]; omega)]; rfl
    rw [e]
    clear h e
    generalize c.toNat = n at hc hlt
    go_enter Tryd.func34, Tryd.ntmps34
    go_wp2
    go_ret
    exact ⟨rfl, rfl⟩

theorem all_take_succ {s : ByteArray} {k : Nat} {p : UInt8 → Bool} (hk : k < s.size) (h : (s.data.toList.take k).all p = true) (h2 : p s[k] = true) : (s.data.toList.take (k + 1)).all p = true := by
  rw [take_succ_at (at_get s k hk), List.all_append, h]; simp [h2]
theorem all_false_at {s : ByteArray} {k : Nat} {p : UInt8 → Bool} (hk : k < s.size) (h : p s[k] = false) : s.data.toList.all p = false := by
  cases ha : s.data.toList.all p
  · rfl
  · rw [List.all_eq_true] at ha
    have := ha s[k] (List.mem_of_getElem? (at_get s k hk))
    rw [h] at this; cases this
theorem all_of_take {s : ByteArray} {k : Nat} {p : UInt8 → Bool} (hk : s.size ≤ k) (h : (s.data.toList.take k).all p = true) : s.data.toList.all p = true := by
  rw [List.take_of_length_le (by rw [← size_len]; exact hk)] at h; exact h

set_option maxHeartbeats 400000 in
theorem only_token (s : ByteArray) (w : World) (hs : s.size ≤ maxLen) (h : Cls w) :
    Calls Tryd.prog 30 #[.string s, .int .u8 1] w fun e w' => e = .returned (.bool (smalls s.data.toList)) ∧ w = w' := by
  unfold maxLen at hs
  go_enter Tryd.func30, Tryd.ntmps30
  go_wp2_with fail
  go_loop [8] (fun i => ∃ k : Nat, k ≤ s.size ∧ i = .int .i64 k ∧ (s.data.toList.take k).all isSmall = true) (fun i => s.size - (intOf i).toNat)
  case atStart => exact ⟨0, Nat.zero_le _, rfl, by simp⟩
  case round =>
    obtain ⟨k, hk, rfl, hall⟩ := hrel
    by_cases hlt : k < s.size
    · go_wp2_with fail
      refine (class_of s[k] _ h).mono ?_
      rintro e w' ⟨rfl, rfl⟩
      go_wp2_with fail
      · have hne : (clsOf s[k].toNat != 1) = true := by assumption
        go_ret
        refine ⟨?_, rfl⟩
        have hf : smalls s.data.toList = false := all_false_at hlt (by
          rw [clsOf_eq] at hne
          cases hb : isSmall s[k]
          · rfl
          · rw [hb] at hne; simp at hne)
        rw [hf]; rfl
      · have he : (clsOf s[k].toNat != 1) = false := by assumption
        go_round
        case rel =>
          refine ⟨k + 1, by omega, by go_num, all_take_succ hlt hall ?_⟩
          rw [clsOf_eq] at he
          cases hb : isSmall s[k]
          · rw [hb] at he
            cases hg : isGreat s[k] <;> rw [hg] at he <;> simp at he
          · rfl
        case measure => simp [intOf]; omega
    · go_wp2
      go_ret
      have hf : smalls s.data.toList = true := all_of_take (by omega) hall
      rw [hf]; exact ⟨rfl, rfl⟩

def tokB (l : List UInt8) : Bool := decide (1 ≤ l.length) && decide (l.length ≤ 12) && smalls l

set_option maxHeartbeats 400000 in
theorem impl_tok (s : ByteArray) (w : World) (hs : s.size ≤ maxLen) (h : Cls w) :
    Calls Tryd.prog 21 #[.string s] w fun e w' => e = .returned (.bool (tokB s.data.toList)) ∧ w = w' := by
  unfold tokB
  rw [← size_len]
  by_cases h1 : 1 ≤ s.size
  · by_cases h2 : s.size ≤ 12
    · generalize hb : smalls s.data.toList = b
      have HB := Lib.hid hb; clear hb
      go_enter Tryd.func21, Tryd.ntmps21
      go_wp2_with fail
      refine (only_token _ _ hs h).mono ?_
      rintro e w' ⟨rfl, rfl⟩
      rw [HB.out]
      go_wp2
      go_ret
      exact ⟨by simp [h1, h2], rfl⟩
    · unfold maxLen at hs
      clear h
      go_enter Tryd.func21, Tryd.ntmps21
      go_wp2
      go_ret
      exact ⟨by simp, rfl⟩
  · unfold maxLen at hs
    clear h
    go_enter Tryd.func21, Tryd.ntmps21
    go_wp2
    go_ret
    exact ⟨by simp, rfl⟩

end Go.Proofs.YtbhnjnoblkfckabDoor
