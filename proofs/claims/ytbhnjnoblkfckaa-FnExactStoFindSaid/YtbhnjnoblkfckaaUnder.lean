/- Places: what lies under a path. -/
import Derived.Test.YtbhnjnoblkfckaaUri
namespace Go.Proofs.Ytbhnjnoblkfckaa
open Go.RowKit

def endsSl (l : List UInt8) : Bool := l.getLast? == some 47
def inTop (top : List UInt8) : List UInt8 := if endsSl top = true then top else top ++ [47]
def preB (h l : List UInt8) : Bool := h.isPrefixOf l
def underB (top l : List UInt8) : Bool := (pathL l == top) || preB (inTop top) (pathL l)

theorem preB_ext (s h : ByteArray) : preB h.data.toList s.data.toList = ((s.extract 0 h.size).toList == h.toList) := by
  unfold preB
  rw [Bool.eq_iff_iff, List.isPrefixOf_iff_prefix, beq_iff_eq, List.prefix_iff_eq_take, ext_take, Lib.toList_data, Lib.toList_data, ← size_len]
  exact ⟨fun e => e.symm, fun e => e.symm⟩
theorem preB_long (s h : ByteArray) (hl : s.size < h.size) : preB h.data.toList s.data.toList = false := by
  cases hb : preB h.data.toList s.data.toList with
  | false => rfl
  | true =>
    unfold preB at hb
    rw [List.isPrefixOf_iff_prefix] at hb
    have := hb.length_le
    rw [size_len, size_len] at hl
    omega

theorem endsSl_at (s : ByteArray) (h : 1 ≤ s.size) : endsSl s.data.toList = (s[s.size - 1] == 47) := by
  unfold endsSl
  have e := at_get s (s.size - 1) (by omega)
  rw [List.getLast?_eq_getElem?, ← size_len, e]; rfl
theorem endsSl_ext (s : ByteArray) (h : 1 ≤ s.size) : endsSl s.data.toList = ((s.extract (s.size - 1) s.size).toList == [47]) := by
  rw [endsSl_at s h, ext_drop, Lib.toList_data]
  simp only
  rw [drop_at s (s.size - 1) (by omega), drop_end s _ (by omega)]
  simp
theorem endsSl_nil (s : ByteArray) (h : s.size = 0) : endsSl s.data.toList = false := by
  rw [size_len] at h
  rw [List.eq_nil_of_length_eq_zero h]; rfl

theorem size_sl (a : ByteArray) : (a ++ ⟨#[47]⟩ : ByteArray).size = a.size + 1 := by rw [ByteArray.size_append]; rfl
theorem inTop_yes {s : ByteArray} (h : endsSl s.data.toList = true) : inTop s.data.toList = s.data.toList := by unfold inTop; rw [if_pos h]
theorem inTop_no {s : ByteArray} (h : endsSl s.data.toList = false) : inTop s.data.toList = (s ++ ⟨#[47]⟩ : ByteArray).data.toList := by unfold inTop; rw [h]; simp
theorem pathL_len (l : List UInt8) : (pathL l).length ≤ l.length := (cutL_len l 63).1

namespace Lw
end Lw
end Go.Proofs.Ytbhnjnoblkfckaa
