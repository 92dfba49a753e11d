/- Boxes of six cells. -/
import Derived.Test.YtbhnjnoblkfckaaRp
import Derived.WalkKit
namespace Go.Proofs.Ytbhnjnoblkfckaa
open Go.RowKit

def set6 (w : World) (q : Nat) (a b c d e f : Value) : World := (((((w.setCell ⟨q, 0, none⟩ a).setCell ⟨q, 1, none⟩ b).setCell ⟨q, 2, none⟩ c).setCell ⟨q, 3, none⟩ d).setCell ⟨q, 4, none⟩ e).setCell ⟨q, 5, none⟩ f
theorem six_set {w : World} {q : Nat} {x0 x1 x2 x3 x4 x5 : Value} {T : TypeId} (h : w.heap[q]? = some (.cells #[x0, x1, x2, x3, x4, x5] T (0, 0))) (a b c d e f : Value) :
    (set6 w q a b c d e f).heap[q]? = some (.cells #[a, b, c, d, e, f] T (0, 0)) := by
  have h1 := heap_setCell_same w q 0 _ _ a h
  have h2 := heap_setCell_same _ q 1 _ _ b h1
  have h3 := heap_setCell_same _ q 2 _ _ c h2
  have h4 := heap_setCell_same _ q 3 _ _ d h3
  have h5 := heap_setCell_same _ q 4 _ _ e h4
  have h6 := heap_setCell_same _ q 5 _ _ f h5
  unfold set6
  rw [h6]; rfl
theorem six_frozen {w : World} {q : Nat} {x0 x1 x2 x3 x4 x5 : Value} {T : TypeId} (h : w.heap[q]? = some (.cells #[x0, x1, x2, x3, x4, x5] T (0, 0))) :
    w.frozen? ⟨q, 0, none⟩ = false ∧ w.frozen? ⟨q, 1, none⟩ = false ∧ w.frozen? ⟨q, 2, none⟩ = false ∧ w.frozen? ⟨q, 3, none⟩ = false ∧ w.frozen? ⟨q, 4, none⟩ = false ∧ w.frozen? ⟨q, 5, none⟩ = false := by
  refine ⟨?_, ?_, ?_, ?_, ?_, ?_⟩ <;> simp [World.frozen?, h]
theorem grown_setr {w w3 : World} {b k : Nat} {x : Value} (h : w.grownBy w3 (some b)) : w.grownBy (w3.setCell ⟨b, k, none⟩ x) (some b) :=
  ⟨h.os, h.tape, h.output, by simpa using h.size, fun j hj hn => (heap_setCell_other w3 ⟨b, k, none⟩ j _ (fun e => hn (by rw [e]))).trans (h.block j hj hn)⟩
theorem grown_set6 (w : World) (q : Nat) (a b c d e f : Value) : w.grownBy (set6 w q a b c d e f) (some q) := grown_setr (grown_setr (grown_setr (grown_setr (grown_setr (grown_setr (World.grownBy.refl _ _))))))
/-- A box is told what it holds: nothing has turned. -/
theorem setCell_id {w : World} {b k : Nat} {zs : Array Value} {T : TypeId} {x : Value} (h : w.heap[b]? = some (.cells zs T (0, 0))) (hx : zs[k]? = some x) : w.setCell ⟨b, k, none⟩ x = w := by
  have hb : b < w.heap.size := (Array.getElem?_eq_some_iff.1 h).1
  have hs := heap_setCell_same w b k _ _ x h
  have he : zs.setIfInBounds k x = zs := by
    apply Array.ext (by simp)
    intro i h1 h2
    by_cases e : k = i
    · subst e
      simp only [Array.getElem_setIfInBounds_self]
      rw [Array.getElem?_eq_some_iff] at hx
      exact hx.2.symm
    · exact Array.getElem_setIfInBounds_ne _ e
  have hh : (w.setCell ⟨b, k, none⟩ x).heap = w.heap := by
    apply Array.ext_getElem?
    intro j
    by_cases e : j = b
    · subst e
      rw [hs, h]
      first | rw [he] | (simp only [he])
    · exact heap_setCell_other w ⟨b, k, none⟩ j _ (by simpa using e)
  cases w
  first
    | (simp only [World.setCell] at hh ⊢; first | rw [hh] | simp_all)
    | simp_all [World.setCell]
theorem rbox2 (w : World) (o1 o2 : Obj) : ((w.alloc o1).alloc o2).heap.size = w.heap.size + 2 ∧ Below w.heap.size w ((w.alloc o1).alloc o2) ∧ ((w.alloc o1).alloc o2).heap[w.heap.size]? = some o1 ∧ ((w.alloc o1).alloc o2).heap[w.heap.size + 1]? = some o2 := by
  refine ⟨by simp, ((Below.refl _ _).alloc (Nat.le_refl _) _).alloc (by simp) _, ?_, ?_⟩
  · rw [Below.heap_alloc _ _ _ (by simp)]; exact heap_alloc_new w _
  · have := heap_alloc_new (w.alloc o1) o2
    simpa using this
theorem rbox3 (w : World) (o1 o2 o3 : Obj) : (((w.alloc o1).alloc o2).alloc o3).heap.size = w.heap.size + 3 ∧ Below w.heap.size w (((w.alloc o1).alloc o2).alloc o3) ∧ (((w.alloc o1).alloc o2).alloc o3).heap[w.heap.size]? = some o1 ∧ (((w.alloc o1).alloc o2).alloc o3).heap[w.heap.size + 1]? = some o2 ∧ (((w.alloc o1).alloc o2).alloc o3).heap[w.heap.size + 2]? = some o3 := by
  obtain ⟨h1, h2, h3, h4⟩ := rbox2 w o1 o2
  refine ⟨by simp, h2.alloc (by simp; omega) _, ?_, ?_, ?_⟩
  · rw [Below.heap_alloc _ _ _ (by omega)]; exact h3
  · rw [Below.heap_alloc _ _ _ (by omega)]; exact h4
  · have := heap_alloc_new ((w.alloc o1).alloc o2) o3
    simpa using this
end Go.Proofs.Ytbhnjnoblkfckaa
