/- What the program's tables give, together; boxes of keys and requests in memory. -/
import Derived.Test.YtiepobifbkleaaaDoorKySz
import Derived.Test.YtiepobifbkleaaaDoorGCa
import Derived.Test.YtiepobifbkleaaaDoorNumR
import Derived.Test.YtiepobifbkleaaaDoorGCfa
namespace Go.Proofs.YtiepobifbkleaaaDoor
open Go.RowKit

theorem three_facts {w' : World} {g : Nat} {x0 x1 x2 : Value} {T : TypeId} (h : w'.heap[g]? = some (.cells #[x0, x1, x2] T (0, 0))) :
    w'.cell? ⟨g, 0, none⟩ = some x0 ∧ w'.cell? ⟨g, 1, none⟩ = some x1 ∧ w'.cell? ⟨g, 2, none⟩ = some x2 ∧
    w'.frozen? ⟨g, 0, none⟩ = false ∧ w'.frozen? ⟨g, 1, none⟩ = false ∧ w'.frozen? ⟨g, 2, none⟩ = false := by
  refine ⟨?_, ?_, ?_, ?_, ?_, ?_⟩ <;> simp [World.cell?, World.frozen?, h]
/-- Two blocks made one behind the other. -/
theorem box2_new (w : World) (o1 o2 : Obj) : ((w.alloc o1).alloc o2).heap.size = w.heap.size + 2 ∧ Below w.heap.size w ((w.alloc o1).alloc o2) ∧ ((w.alloc o1).alloc o2).heap[w.heap.size]? = some o1 ∧ ((w.alloc o1).alloc o2).heap[w.heap.size + 1]? = some o2 := by
  refine ⟨by simp, ((Below.refl _ _).alloc (Nat.le_refl _) _).alloc (by simp) _, ?_, ?_⟩
  · rw [Below.heap_alloc _ _ _ (by simp)]; exact heap_alloc_new w _
  · have := heap_alloc_new (w.alloc o1) o2
    simpa using this
theorem str_nil {s : ByteArray} (h : s.data.toList = []) : s = ⟨#[]⟩ := by
  apply ByteArray.ext; apply Array.toList_inj.1; simpa using h
def headC (h : Hd) (u : Value) : Array Value := #[.string h.verb, .string h.target, .string h.host, u, .string h.body]
def keyC (k : Ky) : Array Value := #[.int .i64 k.house, .string k.place, .int .i64 k.mask]
structure HdSz (h : Hd) : Prop where
  verb : h.verb.size ≤ 1048576
  target : h.target.size ≤ 1048576
  host : h.host.size ≤ 1048576
  body : h.body.size ≤ 1048576
  fs : FOk h.fs 1048576
  len : h.fs.length ≤ 2000000
theorem numT_le (n : Int) : (numT n).length ≤ 6 := by
  unfold numT
  split
  · rename_i h; exact dec_len_le 5 _ (by omega)
  · simp
end Go.Proofs.YtiepobifbkleaaaDoor
