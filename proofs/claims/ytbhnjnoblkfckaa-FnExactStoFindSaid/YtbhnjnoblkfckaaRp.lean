/- Answers: what they are; no function of the program. -/
import Derived.Test.YtbhnjnoblkfckaaOwn2
namespace Go.Proofs.Ytbhnjnoblkfckaa
open Go.RowKit

/-- An answer. -/
structure Rp where
  code : Int
  mx : Int
  hide : Bool
  tag : ByteArray
  cod : Int
  body : ByteArray
def noRp : Rp := ⟨0, 0, false, ⟨#[]⟩, 0, ⟨#[]⟩⟩
def rspV (r : Rp) : Value := .agg #[.int .i64 r.code, .int .i64 r.mx, .bool r.hide, .string r.tag, .int .i64 r.cod, .string r.body]
def rspC (r : Rp) : Array Value := #[.int .i64 r.code, .int .i64 r.mx, .bool r.hide, .string r.tag, .int .i64 r.cod, .string r.body]
theorem six_facts {w : World} {b : Nat} {x0 x1 x2 x3 x4 x5 : Value} {T : TypeId} (h : w.heap[b]? = some (.cells #[x0, x1, x2, x3, x4, x5] T (0, 0))) :
    w.cell? ⟨b, 0, none⟩ = some x0 ∧ w.cell? ⟨b, 1, none⟩ = some x1 ∧ w.cell? ⟨b, 2, none⟩ = some x2 ∧ w.cell? ⟨b, 3, none⟩ = some x3 ∧ w.cell? ⟨b, 4, none⟩ = some x4 ∧ w.cell? ⟨b, 5, none⟩ = some x5 := by
  simp [World.cell?, h]
end Go.Proofs.Ytbhnjnoblkfckaa
