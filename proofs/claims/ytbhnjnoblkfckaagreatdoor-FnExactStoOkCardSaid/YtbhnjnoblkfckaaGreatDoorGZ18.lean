import Derived.Test.YtbhnjnoblkfckaaGreatDoorGZ17
-- from XStL
/- Walks: storage, by the program: what is at a path, or under it, goes. -/
namespace Go.Proofs.YtbhnjnoblkfckaaGreatDoor
open Go.RowKit Go.Maps

theorem bytes_beq (a b : ByteArray) : (a.toList == b.toList) = decide (a.data.toList = b.data.toList) := by
  rw [Lib.toList_data, Lib.toList_data, Bool.eq_iff_iff, beq_iff_eq, decide_eq_true_eq]

theorem keptK_const (q : En → Bool) : ∀ (M : List (Nat × En)) (d : Nat → Bool) (k : Nat), (∀ j x, M[j]? = some x → d (k + j) = q x.2) → (keptK d k M).map (·.2) = (M.map (·.2)).filter (fun e => !q e) ∧ cntK d k M = (M.map (·.2)).countP q
  | [], _, _, _ => ⟨rfl, rfl⟩
  | x :: r, d, k, h => by
    have h0 := h 0 x rfl
    obtain ⟨i1, i2⟩ := keptK_const q r d (k + 1) fun j y hj => by
      have := h (j + 1) y hj
      rw [show k + 1 + j = k + (j + 1) from by omega]; exact this
    rw [Nat.add_zero] at h0
    unfold keptK cntK
    rw [List.map_cons, List.filter_cons, List.countP_cons, h0]
    cases hq : q x.2 with
    | true => simp only [if_true, Bool.not_true, Bool.false_eq_true, if_false]; exact ⟨i1, by rw [i2]; omega⟩
    | false => simp only [Bool.false_eq_true, if_false, Bool.not_false, if_true, List.map_cons]; exact ⟨by rw [i1], by rw [i2]; omega⟩

def goneAt (M : List (Nat × En)) (path : List UInt8) (under : Bool) (k : Nat) : Bool := match M[k]? with | some x => goneB path under x.2 | none => false
/-- Storage and a number handed back. -/
def SRet2 (w : World) (L : List En) (n : Int) (e' : Ending) (w' : World) : Prop := ∃ v, e' = .returned (.tuple #[.agg #[v], .int .i64 n]) ∧ w'.ownsRow w.heap.size 48 9 v L.length (ecells L) ∧ Below w.heap.size w w'

end Go.Proofs.YtbhnjnoblkfckaaGreatDoor

