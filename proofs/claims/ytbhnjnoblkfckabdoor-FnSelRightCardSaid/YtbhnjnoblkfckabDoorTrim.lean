/- Walks: cutting spaces off. -/
import Derived.Test.YtbhnjnoblkfckabDoorTok
import Derived.Test.YtbhnjnoblkfckabDoorShelf
import Derived.Lib.TrimByte
namespace Go.Proofs.YtbhnjnoblkfckabDoor
open Go.RowKit

def Head32 (l : List UInt8) (k : Nat) : Prop := ∀ (j : Nat) b, j < k → l[j]? = some b → b = 32
def Stop32 (l : List UInt8) (k : Nat) : Prop := ∀ b, l[k]? = some b → b ≠ 32
def Tail32 (l : List UInt8) (m : Nat) : Prop := ∀ (j : Nat) b, m ≤ j → l[j]? = some b → b = 32

theorem byte_ne32 {b : UInt8} (h : b ≠ 32) : ((b.toNat : Int) == 32) = false := by
  rw [beq_eq_false_iff_ne]
  intro e
  apply h
  apply UInt8.toNat_inj.mp
  have : (32 : UInt8).toNat = 32 := rfl
  omega
theorem byte_eq32 {b : UInt8} (h : b = 32) : ((b.toNat : Int) == 32) = true := by subst h; rfl
theorem head32_step {s : ByteArray} {k : Nat} (hk : k < s.size) (h : Head32 s.data.toList k) (hb : s[k] = 32) : Head32 s.data.toList (k + 1) := by
  intro j b hj hjb
  rcases Nat.lt_or_ge j k with h1 | h1
  · exact h j b h1 hjb
  · have : j = k := by omega
    subst this
    rw [at_get s j hk] at hjb
    injection hjb with e
    rw [← e, hb]
theorem tail32_end (s : ByteArray) : Tail32 s.data.toList s.size := by
  intro j b hj hjb
  rw [List.getElem?_eq_none (by rw [← size_len]; exact hj)] at hjb; cases hjb
theorem tail32_step {s : ByteArray} {m : Nat} (hm : m < s.size) (h : Tail32 s.data.toList (m + 1)) (hb : s[m] = 32) : Tail32 s.data.toList m := by
  intro j b hj hjb
  rcases Nat.lt_or_ge m j with h1 | h1
  · exact h j b h1 hjb
  · have : j = m := by omega
    subst this
    rw [at_get s j hm] at hjb
    injection hjb with e
    rw [← e, hb]

theorem trim_fin (s : ByteArray) (k m : Nat) (hkm : k ≤ m) (hm : m ≤ s.size) (h1 : Head32 s.data.toList k) (h2 : Stop32 s.data.toList k) (h3 : Tail32 s.data.toList m)
    (h4 : m = k ∨ ∀ b, s.data.toList[m - 1]? = some b → b ≠ 32) : s.extract k m = ⟨(Lib.trimB s.data.toList 32).toArray⟩ := by
  have hlen := size_len s
  have hex : s.extract k m = ⟨((s.data.toList.take m).drop k).toArray⟩ := by
    apply ByteArray.ext
    apply Array.toList_inj.mp
    rw [ByteArray.data_extract, Array.toList_extract, List.extract_eq_take_drop, List.drop_take]
  rw [hex]
  congr 2
  unfold Lib.trimB
  rcases Nat.lt_or_ge k m with hlt | hge
  · have h4' := h4.resolve_left (by omega)
    rw [Lib.trimRightB_take s.data.toList 32 m (by omega) (fun j b hj hb => h3 j b hj hb) (fun b _ hb => h4' b hb)]
    rw [Lib.trimLeftB_drop (s.data.toList.take m) 32 k (by rw [List.length_take]; omega) (fun j b hj hb => ?_) (fun b hb => ?_)]
    · rw [List.getElem?_take, if_pos (by omega)] at hb
      exact h1 j b hj hb
    · rw [List.getElem?_take, if_pos hlt] at hb
      exact h2 b hb
  · have e : m = k := by omega
    subst e
    have hall : ∀ (j : Nat) b, s.data.toList[j]? = some b → b = 32 := fun j b hb => by
      rcases Nat.lt_or_ge j m with h | h
      · exact h1 j b h hb
      · exact h3 j b h hb
    rw [Lib.trimRightB_take s.data.toList 32 0 (by omega) (fun j b _ hb => hall j b hb) (fun b h0 _ => by omega)]
    rw [List.drop_of_length_le (by rw [List.length_take]; omega)]
    rfl

theorem trimB_len (l : List UInt8) (c : UInt8) : (Lib.trimB l c).length ≤ l.length := by
  unfold Lib.trimB Lib.trimLeftB Lib.trimRightB
  have h1 := (List.dropWhile_sublist (· == c) (l := (l.reverse.dropWhile (· == c)).reverse)).length_le
  have h2 := (List.dropWhile_sublist (· == c) (l := l.reverse)).length_le
  simp at h1 h2 ⊢
  omega

namespace Lw
end Lw
end Go.Proofs.YtbhnjnoblkfckabDoor
