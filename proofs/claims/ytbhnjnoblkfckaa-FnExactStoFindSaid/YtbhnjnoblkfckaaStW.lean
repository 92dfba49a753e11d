/- Boxes of nine cells: an entry. -/
import Derived.Test.YtbhnjnoblkfckaaStP
import Derived.Test.YtbhnjnoblkfckaaRsW
namespace Go.Proofs.Ytbhnjnoblkfckaa
open Go.RowKit

def enC (e : En) : Array Value := #[.string e.place, .int .i64 e.mask, .int .i64 e.rsp.code, .int .i64 e.rsp.mx, .bool e.rsp.hide, .string e.rsp.tag, .int .i64 e.rsp.cod, .string e.rsp.body, .int .i64 e.tm]
theorem nine_facts {w : World} {b : Nat} {x0 x1 x2 x3 x4 x5 x6 x7 x8 : Value} {T : TypeId} (h : w.heap[b]? = some (.cells #[x0, x1, x2, x3, x4, x5, x6, x7, x8] T (0, 0))) :
    w.cell? ⟨b, 0, none⟩ = some x0 ∧ w.cell? ⟨b, 1, none⟩ = some x1 ∧ w.cell? ⟨b, 2, none⟩ = some x2 ∧ w.cell? ⟨b, 3, none⟩ = some x3 ∧ w.cell? ⟨b, 4, none⟩ = some x4 ∧ w.cell? ⟨b, 5, none⟩ = some x5 ∧ w.cell? ⟨b, 6, none⟩ = some x6 ∧ w.cell? ⟨b, 7, none⟩ = some x7 ∧ w.cell? ⟨b, 8, none⟩ = some x8 := by
  simp [World.cell?, h]
theorem nine_frozen {w : World} {b : Nat} {x0 x1 x2 x3 x4 x5 x6 x7 x8 : Value} {T : TypeId} (h : w.heap[b]? = some (.cells #[x0, x1, x2, x3, x4, x5, x6, x7, x8] T (0, 0))) :
    w.frozen? ⟨b, 0, none⟩ = false ∧ w.frozen? ⟨b, 1, none⟩ = false ∧ w.frozen? ⟨b, 2, none⟩ = false ∧ w.frozen? ⟨b, 3, none⟩ = false ∧ w.frozen? ⟨b, 4, none⟩ = false ∧ w.frozen? ⟨b, 5, none⟩ = false ∧ w.frozen? ⟨b, 6, none⟩ = false ∧ w.frozen? ⟨b, 7, none⟩ = false ∧ w.frozen? ⟨b, 8, none⟩ = false := by
  refine ⟨?_, ?_, ?_, ?_, ?_, ?_, ?_, ?_, ?_⟩ <;> simp [World.frozen?, h]
def set9 (w : World) (q : Nat) (a b c d e f g h i : Value) : World :=
  ((((((((w.setCell ⟨q, 0, none⟩ a).setCell ⟨q, 1, none⟩ b).setCell ⟨q, 2, none⟩ c).setCell ⟨q, 3, none⟩ d).setCell ⟨q, 4, none⟩ e).setCell ⟨q, 5, none⟩ f).setCell ⟨q, 6, none⟩ g).setCell ⟨q, 7, none⟩ h).setCell ⟨q, 8, none⟩ i
theorem nine_set {w : World} {q : Nat} {x0 x1 x2 x3 x4 x5 x6 x7 x8 : Value} {T : TypeId} (h : w.heap[q]? = some (.cells #[x0, x1, x2, x3, x4, x5, x6, x7, x8] T (0, 0))) (a b c d e f g k i : Value) :
    (set9 w q a b c d e f g k i).heap[q]? = some (.cells #[a, b, c, d, e, f, g, k, i] T (0, 0)) := by
  have h1 : (w.setCell ⟨q, 0, none⟩ a).heap[q]? = some (.cells #[a, x1, x2, x3, x4, x5, x6, x7, x8] T (0, 0)) := heap_setCell_same _ q 0 _ _ a h
  have h2 : ((w.setCell ⟨q, 0, none⟩ a).setCell ⟨q, 1, none⟩ b).heap[q]? = some (.cells #[a, b, x2, x3, x4, x5, x6, x7, x8] T (0, 0)) := heap_setCell_same _ q 1 _ _ b h1
  have h3 : (((w.setCell ⟨q, 0, none⟩ a).setCell ⟨q, 1, none⟩ b).setCell ⟨q, 2, none⟩ c).heap[q]? = some (.cells #[a, b, c, x3, x4, x5, x6, x7, x8] T (0, 0)) := heap_setCell_same _ q 2 _ _ c h2
  have h4 : ((((w.setCell ⟨q, 0, none⟩ a).setCell ⟨q, 1, none⟩ b).setCell ⟨q, 2, none⟩ c).setCell ⟨q, 3, none⟩ d).heap[q]? = some (.cells #[a, b, c, d, x4, x5, x6, x7, x8] T (0, 0)) := heap_setCell_same _ q 3 _ _ d h3
  have h5 : (((((w.setCell ⟨q, 0, none⟩ a).setCell ⟨q, 1, none⟩ b).setCell ⟨q, 2, none⟩ c).setCell ⟨q, 3, none⟩ d).setCell ⟨q, 4, none⟩ e).heap[q]? = some (.cells #[a, b, c, d, e, x5, x6, x7, x8] T (0, 0)) := heap_setCell_same _ q 4 _ _ e h4
  have h6 : ((((((w.setCell ⟨q, 0, none⟩ a).setCell ⟨q, 1, none⟩ b).setCell ⟨q, 2, none⟩ c).setCell ⟨q, 3, none⟩ d).setCell ⟨q, 4, none⟩ e).setCell ⟨q, 5, none⟩ f).heap[q]? = some (.cells #[a, b, c, d, e, f, x6, x7, x8] T (0, 0)) := heap_setCell_same _ q 5 _ _ f h5
  have h7 : (((((((w.setCell ⟨q, 0, none⟩ a).setCell ⟨q, 1, none⟩ b).setCell ⟨q, 2, none⟩ c).setCell ⟨q, 3, none⟩ d).setCell ⟨q, 4, none⟩ e).setCell ⟨q, 5, none⟩ f).setCell ⟨q, 6, none⟩ g).heap[q]? = some (.cells #[a, b, c, d, e, f, g, x7, x8] T (0, 0)) := heap_setCell_same _ q 6 _ _ g h6
  have h8 : ((((((((w.setCell ⟨q, 0, none⟩ a).setCell ⟨q, 1, none⟩ b).setCell ⟨q, 2, none⟩ c).setCell ⟨q, 3, none⟩ d).setCell ⟨q, 4, none⟩ e).setCell ⟨q, 5, none⟩ f).setCell ⟨q, 6, none⟩ g).setCell ⟨q, 7, none⟩ k).heap[q]? = some (.cells #[a, b, c, d, e, f, g, k, x8] T (0, 0)) := heap_setCell_same _ q 7 _ _ k h7
  have h9 : (((((((((w.setCell ⟨q, 0, none⟩ a).setCell ⟨q, 1, none⟩ b).setCell ⟨q, 2, none⟩ c).setCell ⟨q, 3, none⟩ d).setCell ⟨q, 4, none⟩ e).setCell ⟨q, 5, none⟩ f).setCell ⟨q, 6, none⟩ g).setCell ⟨q, 7, none⟩ k).setCell ⟨q, 8, none⟩ i).heap[q]? = some (.cells #[a, b, c, d, e, f, g, k, i] T (0, 0)) := heap_setCell_same _ q 8 _ _ i h8
  exact h9
theorem grown_set9 (w : World) (q : Nat) (a b c d e f g h i : Value) : w.grownBy (set9 w q a b c d e f g h i) (some q) :=
  grown_setr (grown_setr (grown_setr (grown_setr (grown_setr (grown_setr (grown_setr (grown_setr (grown_setr (World.grownBy.refl _ _)))))))))
end Go.Proofs.Ytbhnjnoblkfckaa
