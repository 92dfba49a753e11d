/- Walks: the drawing of texts, whole. -/
import Derived.Test.YtiepobifbkleaaaDoorDraw2
import Derived.Deep.RegionHeld3
namespace Go.Proofs.YtiepobifbkleaaaDoor
open Go.RowKit

def BytesL : List Value → Prop
  | [] => True
  | v :: l => (∃ x : UInt8, v = .int .u8 (x.toNat : Int)) ∧ BytesL l
theorem bytes_at : ∀ {l : List Value} {r : Nat}, BytesL l → r < l.length → ∃ x : UInt8, l[r]? = some (.int .u8 (x.toNat : Int))
  | [], r, _, h => by simp at h
  | v :: l, 0, h, _ => by obtain ⟨⟨x, rfl⟩, _⟩ := h; exact ⟨x, rfl⟩
  | v :: l, r + 1, h, hr => by simpa using bytes_at (l := l) (r := r) h.2 (by simp at hr; omega)
theorem new_cell (w : World) {cs : Array Value} (T : TypeId) {u : Value} {r : Nat} (hx : cs[r]? = some u) : (w.alloc (.cells cs T)).cell? ⟨w.heap.size, r, none⟩ = some u := by
  rw [cell_of_row _ w.heap.size r cs T (0, 0) (heap_alloc_new w _), hx]

theorem wrap_u8_nat (r : Nat) (h : r < 256) : IntKind.u8.wrap (r : Int) = (r : Int) := by simp [IntKind.wrap, IntKind.bits, IntKind.signed]; omega
theorem lit_list {cs : List Value} {r : Nat} {u : Value} (h : (cs.toArray)[r]? = some u) : cs[r]? = some u := by simpa using h
end Go.Proofs.YtiepobifbkleaaaDoor
