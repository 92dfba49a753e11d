/- Storage: when it is ok, entry by entry; no function of the program. -/
import Derived.Test.YtbhnjnoblkfckaaGreatDoorGSn
import Derived.Test.YtbhnjnoblkfckaaGreatDoorGZ15
namespace Go.Proofs.YtbhnjnoblkfckaaGreatDoor
open Go.RowKit

def apartE (L : List En) : Prop := L.Pairwise fun a b => isK a.place a.mask b = false
theorem found_le {L : List En} {k : Nat} {e : En} (hg : L[k]? = some e) : ∃ j : Nat, foundI L e.place e.mask = (j : Int) ∧ j ≤ k ∧ (∀ (i : Nat) (f : En), i < j → L[i]? = some f → isK e.place e.mask f = false) ∧ ∃ f, L[j]? = some f ∧ isK e.place e.mask f = true := by
  unfold foundI
  cases hf : findE L e.place e.mask with
  | none =>
    unfold findE at hf
    rw [List.findIdx?_eq_none_iff] at hf
    have := hf e (List.mem_of_getElem? hg)
    rw [isK_self] at this; cases this
  | some j =>
    unfold findE at hf
    rw [List.findIdx?_eq_some_iff_getElem] at hf
    obtain ⟨hlt, h1, h2⟩ := hf
    refine ⟨j, rfl, ?_, fun i f hi hf => ?_, L[j], List.getElem?_eq_getElem hlt, h1⟩
    · refine Classical.byContradiction fun hn => ?_
      obtain ⟨hk, rfl⟩ := List.getElem?_eq_some_iff.1 hg
      exact h2 k (by omega) (isK_self _)
    · obtain ⟨hk, rfl⟩ := List.getElem?_eq_some_iff.1 hf
      have := h2 i hi
      simpa using this
theorem take_snoc_at {α : Type} {L : List α} {k : Nat} {x : α} (h : L[k]? = some x) : L.take (k + 1) = L.take k ++ [x] := by rw [List.take_add_one, h]; rfl
theorem all_step {L : List En} {k : Nat} {e : En} (hg : L[k]? = some e) (h : (L.take k).all entryB = true) (he : entryB e = true) : (L.take (k + 1)).all entryB = true := by
  rw [take_snoc_at hg, List.all_append, h]; simp [he]
theorem all_bad {L : List En} {k : Nat} {e : En} (hg : L[k]? = some e) (he : entryB e = false) : L.all entryB = false := by
  rw [Bool.eq_false_iff]
  intro h
  rw [List.all_eq_true] at h
  rw [h e (List.mem_of_getElem? hg)] at he; cases he
theorem apart_step {L : List En} {k : Nat} {e : En} (hg : L[k]? = some e) (h : apartE (L.take k)) (hf : foundI L e.place e.mask = (k : Int)) : apartE (L.take (k + 1)) := by
  obtain ⟨j, h1, _, h3, _⟩ := found_le hg
  have hjk : j = k := by omega
  subst hjk
  unfold apartE at h ⊢
  rw [take_snoc_at hg, List.pairwise_append]
  refine ⟨h, List.pairwise_singleton _ _, fun a ha b hb => ?_⟩
  rw [List.mem_singleton] at hb
  subst hb
  obtain ⟨i, hi, rfl⟩ := List.mem_iff_getElem.1 ha
  have hi' : i < j := by simp at hi; omega
  rw [isK_comm]
  refine h3 i _ hi' ?_
  have : i < L.length := by simp at hi; omega
  rw [List.getElem?_eq_getElem this]; simp
theorem apart_bad {L : List En} {k : Nat} {e : En} (hg : L[k]? = some e) (hf : foundI L e.place e.mask ≠ (k : Int)) : ¬ apartE L := by
  obtain ⟨j, h1, h2, _, f, hf1, hf2⟩ := found_le hg
  intro h
  have hj : j < k := by
    rcases Nat.lt_or_ge j k with h | h
    · exact h
    · exact absurd (by rw [h1]; omega) hf
  obtain ⟨hlt, rfl⟩ := List.getElem?_eq_some_iff.1 hf1
  obtain ⟨hlk, rfl⟩ := List.getElem?_eq_some_iff.1 hg
  have := List.pairwise_iff_getElem.1 h j k hlt hlk hj
  rw [isK_comm] at this
  rw [this] at hf2; cases hf2
theorem okE_split (h : Hs) (L : List En) [Decidable (apartE L)] : okE h L = (houseB h && (decide ((L.length : Int) ≤ h.maxN) && (decide ((bytesE L : Int) ≤ h.maxB) && (L.all entryB && decide (apartE L))))) := by
  unfold okE apartE
  congr
end Go.Proofs.YtbhnjnoblkfckaaGreatDoor
