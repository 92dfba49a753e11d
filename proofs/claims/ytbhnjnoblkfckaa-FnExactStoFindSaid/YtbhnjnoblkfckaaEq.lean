/- Walks: the laws' own helpers over slices of texts: equal, marked, held. -/
import Derived.Test.YtbhnjnoblkfckaaOwn
import Derived.Test.YtbhnjnoblkfckaaRows
import Derived.WalkKit
import Derived.WalkSpells
import Derived.WalkLawsBesides
import Derived.BigQuiet
import Derived.Deep.RegionWith
import Derived.Lib.Hide
namespace Go.Proofs.Ytbhnjnoblkfckaa
open Go.RowKit

/-- A slice that reads as a list of values of one cell each. -/
def Rd1 (w : World) (v : Value) (xs : List Value) : Prop :=
  (v = .slice none 0 0 ∧ xs = []) ∨ ∃ b o c, v = .slice (some ⟨b, o, none⟩) xs.length c ∧ xs.length ≤ c ∧ c ≤ maxLen ∧ ∀ j u, xs[j]? = some u → w.cell? ⟨b, o + j, none⟩ = some u

theorem Rd1.of_own {w : World} {base : Nat} {e : TypeId} {v : Value} {n : Nat} {xs : List Value} (h : w.ownsRow base e 1 v n xs) : Rd1 w v xs := by
  obtain ⟨hl, h | ⟨g, cap, cur, rfl, _, hh, hn, hm, hs, ht⟩⟩ := h
  · obtain ⟨rfl, rfl⟩ := h
    exact .inl ⟨rfl, List.eq_nil_of_length_eq_zero (by simpa using hl)⟩
  · have hl' : xs.length = n := by simpa using hl
    refine .inr ⟨g, 0, cap, by rw [hl'], by omega, hm, fun j u hu => ?_⟩
    have ho : w.ownsRow g e 1 (.slice (some ⟨g, 0, none⟩) n cap) n xs := ⟨hl, .inr ⟨g, cap, cur, rfl, Nat.le_refl _, hh, hn, hm, hs, ht⟩⟩
    have hj : j < xs.length := by
      rcases Nat.lt_or_ge j xs.length with h | h
      · exact h
      · rw [List.getElem?_eq_none h] at hu; cases hu
    have := ho.cellAt j (by omega)
    rw [Nat.zero_add, this, hu]

theorem Rd1.keep {w w' : World} {v : Value} {xs : List Value} (h : Rd1 w v xs) (hk : ∀ a, v.ownBlock = some a → w'.heap[a]? = w.heap[a]?) : Rd1 w' v xs := by
  rcases h with h | ⟨b, o, c, rfl, h1, h2, h3⟩
  · exact .inl h
  · exact .inr ⟨b, o, c, rfl, h1, h2, fun j u hu => (World.cell?_of_block (w := w) (hk b rfl)).trans (h3 j u hu)⟩

theorem Rd1.drewN {w : World} {v : Value} {xs : List Value} (h : Rd1 w v xs) (n : Nat) : Rd1 (w.drewN n) v xs := h

def markD : Nat → Nat → List UInt8 → List UInt8
  | 0, _, acc => acc
  | f + 1, k, acc => if k = 0 then acc else markD f (k / 10) ((48 + UInt8.ofNat (k % 10)) :: acc)
def markS (k : Nat) : List UInt8 := if k = 0 then [109, 48] else 109 :: markD 7 k []

theorem markD_zero (f : Nat) (acc : List UInt8) : markD f 0 acc = acc := by cases f <;> simp [markD]

def marks (k n : Nat) : List Value := (List.range n).map fun i => strV (markS (k + i))
theorem marks_length (k n : Nat) : (marks k n).length = n := by simp [marks]
theorem marks_get (k n i : Nat) (h : i < n) : (marks k n)[i]? = some (strV (markS (k + i))) := by simp [marks, h]
theorem marks_step (k n i : Nat) (xs : List Value) (hl : xs.length = n) (h : i < n) : ((marks k n).take i ++ xs.drop i).set i (strV (markS (k + i))) = (marks k n).take (i + 1) ++ xs.drop (i + 1) := by
  have hm := marks_length k n
  have hi : ((marks k n).take i).length = i := by rw [List.length_take]; omega
  rw [List.set_append_right _ _ (by omega), hi, Nat.sub_self, List.take_add_one, marks_get k n i h, List.append_assoc]
  rw [List.drop_eq_getElem_cons (by omega)]
  rfl

theorem rd_marks_at {w : World} {v : Value} {k n : Nat} (h : Rd1 w v (marks k n)) : (v = .slice none 0 0 ∧ n = 0) ∨ ∃ b o c, v = .slice (some ⟨b, o, none⟩) n c ∧ ∀ j, j < n → w.cell? ⟨b, o + j, none⟩ = some (strV (markS (k + j))) := by
  rcases h with ⟨rfl, hn⟩ | ⟨b, o, c, rfl, _, _, hc⟩
  · have := marks_length k n; rw [hn] at this; exact .inl ⟨rfl, this.symm⟩
  · exact .inr ⟨b, o, c, by rw [marks_length], fun j hj => hc j _ (marks_get k n j hj)⟩

end Go.Proofs.Ytbhnjnoblkfckaa
