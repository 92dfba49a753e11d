/- Storage: where the first link for a place and codings stands; no function of the program. -/
import Derived.Test.YtbhnjnoblkfckaaStSa
namespace Go.Proofs.Ytbhnjnoblkfckaa
open Go.RowKit

theorem foundI_none {L : List (Nat × En)} {p : ByteArray} {m : Int} (h : firstK p m L = none) : foundI (L.map (·.2)) p m = -1 := by
  have hf := firstK_none.1 h
  unfold foundI
  rw [found_none fun j f hj => by
    obtain ⟨x, hx, rfl⟩ := List.mem_map.1 (List.mem_of_getElem? hj)
    exact hf x hx]
/-- The first link for such a place and codings, its place in the row, and that no link ahead of it is it. -/
theorem foundI_some {L : List (Nat × En)} {p : ByteArray} {m : Int} {b : Nat} (hd : (L.map (·.1)).Nodup) (h : firstK p m L = some b) :
    ∃ k : Nat, foundI (L.map (·.2)) p m = (k : Int) ∧ (L.map (·.1))[k]? = some b ∧ ∀ j, j < k → (L.map (·.1))[j]? ≠ some b := by
  unfold firstK at h
  obtain ⟨x, hx, rfl⟩ := Option.map_eq_some_iff.1 h
  obtain ⟨hk, A, R, rfl, hA⟩ := List.find?_eq_some_iff_append.1 hx
  refine ⟨A.length, ?_, by simp, fun j hj he => ?_⟩
  · unfold foundI
    rw [found_at (k := A.length) (e := x.2) (by simp) hk fun j f hj hf => by
      rw [List.map_append, List.getElem?_append_left (by simpa using hj)] at hf
      obtain ⟨y, hy, rfl⟩ := List.mem_map.1 (List.mem_of_getElem? hf)
      simpa using hA y hy]
  · rw [List.map_append, List.getElem?_append_left (by simpa using hj)] at he
    have h1 := List.mem_of_getElem? he
    rw [List.map_append, List.nodup_append] at hd
    exact hd.2.2 _ h1 _ (by simp) rfl
end Go.Proofs.Ytbhnjnoblkfckaa
