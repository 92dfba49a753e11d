/- Fields: read from a line. -/
import Derived.Test.YtncegikmpapldaaGreatDoorFok
import Derived.Test.YtncegikmpapldaaGreatDoorCutI
import Derived.Test.YtncegikmpapldaaGreatDoorLower
namespace Go.Proofs.YtncegikmpapldaaGreatDoor
open Go.RowKit

/-- What a line says, be it valid or not. -/
def rdF (l : List UInt8) : ByteArray × ByteArray := (⟨(lowL (cutL l 58).1).toArray⟩, ⟨(Lib.trimB (cutL l 58).2.1 32).toArray⟩)
def rdB (l : List UInt8) : Bool := (cutL l 58).2.2 && fdB (rdF l)
def rdR (l : List UInt8) : (ByteArray × ByteArray) × Bool := if rdB l = true then (rdF l, true) else ((⟨#[]⟩, ⟨#[]⟩), false)
def fdV (r : (ByteArray × ByteArray) × Bool) : Value := .tuple #[.agg #[.string r.1.1, .string r.1.2], .bool r.2]

theorem rd_no {l : List UInt8} (h : (cutL l 58).2.2 = false) : rdR l = ((⟨#[]⟩, ⟨#[]⟩), false) := by simp [rdR, rdB, h]
theorem rd_bad {l : List UInt8} (h : fdB (rdF l) = false) : rdR l = ((⟨#[]⟩, ⟨#[]⟩), false) := by simp [rdR, rdB, h]
theorem rd_yes {l : List UInt8} (h1 : (cutL l 58).2.2 = true) (h2 : fdB (rdF l) = true) : rdR l = (rdF l, true) := by simp [rdR, rdB, h1, h2]

theorem low_len (l : List UInt8) : (lowL l).length = l.length := by simp [lowL]

/-- The block of a result, as it lies behind calls that leave it alone. -/
theorem res_block {w w' : World} {x y : Value} {T : TypeId} (h : Below (w.heap.size + 1) (w.alloc (.cells #[x, y] T)) w') : w'.heap[w.heap.size]? = some (.cells #[x, y] T (0, 0)) :=
  (h.block w.heap.size (Nat.lt_succ_self _)).trans (heap_alloc_new w _)
theorem res_facts {w' : World} {g : Nat} {x y : Value} {T : TypeId} (h : w'.heap[g]? = some (.cells #[x, y] T (0, 0))) : w'.cell? ⟨g, 0, none⟩ = some x ∧ w'.cell? ⟨g, 1, none⟩ = some y ∧ w'.frozen? ⟨g, 0, none⟩ = false ∧ w'.frozen? ⟨g, 1, none⟩ = false := by
  refine ⟨?_, ?_, ?_, ?_⟩ <;> simp [World.cell?, World.frozen?, h]
theorem res_set {w' : World} {g : Nat} {x y : Value} {T : TypeId} (h : w'.heap[g]? = some (.cells #[x, y] T (0, 0))) (a b : Value) : ((w'.setCell ⟨g, 0, none⟩ a).setCell ⟨g, 1, none⟩ b).cell? ⟨g, 0, none⟩ = some a ∧ ((w'.setCell ⟨g, 0, none⟩ a).setCell ⟨g, 1, none⟩ b).cell? ⟨g, 1, none⟩ = some b := by
  have h1 := heap_setCell_same w' g 0 _ _ a h
  have h2 := heap_setCell_same _ g 1 _ _ b h1
  constructor <;> simp [World.cell?, h2]
theorem below_set2 {w w3 : World} {b : Nat} {x y : Value} (h : Below b w w3) : Below b w ((w3.setCell ⟨b, 0, none⟩ x).setCell ⟨b, 1, none⟩ y) :=
  ⟨h.os, h.tape, h.output, by simpa using h.size, fun j hj => (heap_setCell_other _ ⟨b, 1, none⟩ j _ (by simp; omega)).trans ((heap_setCell_other w3 ⟨b, 0, none⟩ j _ (by simp; omega)).trans (h.block j hj))⟩

end Go.Proofs.YtncegikmpapldaaGreatDoor
