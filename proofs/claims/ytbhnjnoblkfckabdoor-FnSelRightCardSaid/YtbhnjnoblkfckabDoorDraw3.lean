/- Walks: the drawing of texts, whole. -/
import Derived.Test.YtbhnjnoblkfckabDoorDraw2
import Derived.Deep.RegionHeld3
namespace Go.Proofs.YtbhnjnoblkfckabDoor
open Go.RowKit

theorem DrawnStr.mono {K K' m m' : Nat} {w : World} {B g : Nat} {e : Ending} {w' : World} (h : DrawnStr K w B g m e w') (hK : K ≤ K') (hm : m ≤ m') : DrawnStr K' w B g m' e w' := by
  obtain ⟨s, h1, h2, h3⟩ := h
  exact ⟨s, h1, by omega, h3.mono hm⟩

def BytesL : List Value → Prop
  | [] => True
  | v :: l => (∃ x : UInt8, v = .int .u8 (x.toNat : Int)) ∧ BytesL l
theorem bytes_at : ∀ {l : List Value} {r : Nat}, BytesL l → r < l.length → ∃ x : UInt8, l[r]? = some (.int .u8 (x.toNat : Int))
  | [], r, _, h => by simp at h
  | v :: l, 0, h, _ => by obtain ⟨⟨x, rfl⟩, _⟩ := h; exact ⟨x, rfl⟩
  | v :: l, r + 1, h, hr => by simpa using bytes_at (l := l) (r := r) h.2 (by simp at hr; omega)
theorem lit_byte {w w1 : World} {B g m : Nat} {cs : Array Value} {T : TypeId} (hd : Drawn (w.alloc (.cells cs T)) w1 B g m) (hg : g < w.heap.size) (hok : BytesL cs.toList) (r : Nat) (hr : r < cs.size) :
    ∃ x : UInt8, w1.cell? ⟨w.heap.size, r, none⟩ = some (.int .u8 (x.toNat : Int)) := by
  obtain ⟨x, h1⟩ := bytes_at hok (r := r) (by simpa using hr)
  refine ⟨x, ?_⟩
  have hb : w1.heap[w.heap.size]? = some (.cells cs T (0, 0)) := (hd.2.block w.heap.size (by simp) (by simp; omega)).trans (heap_alloc_new w _)
  rw [cell_of_row w1 w.heap.size r cs T (0, 0) hb, ← Array.getElem?_toList, h1]

theorem lit_cell {w w1 : World} {B g m : Nat} {cs : Array Value} {T : TypeId} {u : Value} {r : Nat} (hd : Drawn (w.alloc (.cells cs T)) w1 B g m) (hg : g < w.heap.size) (hx : cs[r]? = some u) : w1.cell? ⟨w.heap.size, r, none⟩ = some u := by
  have hb : w1.heap[w.heap.size]? = some (.cells cs T (0, 0)) := (hd.2.block w.heap.size (by simp) (by simp; omega)).trans (heap_alloc_new w _)
  rw [cell_of_row w1 w.heap.size r cs T (0, 0) hb, hx]
theorem new_cell (w : World) {cs : Array Value} (T : TypeId) {u : Value} {r : Nat} (hx : cs[r]? = some u) : (w.alloc (.cells cs T)).cell? ⟨w.heap.size, r, none⟩ = some u := by
  rw [cell_of_row _ w.heap.size r cs T (0, 0) (heap_alloc_new w _), hx]

theorem wrap_u8_nat (r : Nat) (h : r < 256) : IntKind.u8.wrap (r : Int) = (r : Int) := by simp [IntKind.wrap, IntKind.bits, IntKind.signed]; omega
theorem lit_list {cs : List Value} {r : Nat} {u : Value} (h : (cs.toArray)[r]? = some u) : cs[r]? = some u := by simpa using h
theorem Drawn.below {w w' : World} {B g m : Nat} (h : Drawn w w' B g m) (hg : g < w.heap.size) : Below B w w' := by
  refine ⟨h.2.os, h.2.tape, h.2.output, h.2.size, fun k hk => ?_⟩
  exact h.2.block k (by have := h.1.1; omega) (by have := h.1.1; simp; omega)
theorem pick_lit (g : Nat) (q : Int) (n : Nat) (hqn : q = n) (hn : 1 ≤ n) (B m : Nat) (w : World) (hm : m ≤ 1000000) (hq : n ≤ 1000000) (h : RdAt w B g m) :
    Calls Tryd.prog 13 #[.pointer (some ⟨g, 0, none⟩), .int .i64 q] w fun e w' => ∃ r : Nat, e = .returned (.int .i64 (r : Int)) ∧ r < n ∧ (r : Int) < q ∧ Drawn w w' B g (m + 1) := by
  refine (pick_any g q B m w hm (by omega) h).mono ?_
  rintro e w' ⟨r, h1, h2, h3⟩
  exact ⟨r, h1, by omega, by omega, h3⟩

end Go.Proofs.YtbhnjnoblkfckabDoor
