/- Walks: the drawing of inputs: the reader of a code. -/
import Derived.Test.YtiepobifbkleaaaDoorOwn
import Derived.Test.YtiepobifbkleaaaDoorRows
import Derived.WalkKit
import Derived.WalkSpells
import Derived.WalkLawsBesides
import Derived.BigQuiet
import Derived.Deep.RegionWith
import Derived.Lib.Hide
import Derived.IntWalk
import Derived.Laws.BitsAllLaws
import Derived.Laws.BitsLemmas
namespace Go.Proofs.YtiepobifbkleaaaDoor
open Go.RowKit

/-- The code that a reader stands over: nothing, or a row of bytes below block B. -/
def CodeAt (w : World) (B : Nat) (A : Option Addr) (n c : Nat) : Prop :=
  n = 0 ∨ ∃ b o, A = some ⟨b, o, none⟩ ∧ b < B ∧ n ≤ 2000 ∧ n ≤ c ∧ c ≤ maxLen ∧ ∀ j, j < n → ∃ x : UInt8, w.cell? ⟨b, o + j, none⟩ = some (.int .u8 (x.toNat : Int))

theorem CodeAt.keep {w w' : World} {B : Nat} {A : Option Addr} {n c : Nat} (h : CodeAt w B A n c) (hk : ∀ b, b < B → w'.heap[b]? = w.heap[b]?) : CodeAt w' B A n c := by
  rcases h with h | ⟨b, o, rfl, h1, h2, h3, h4, h5⟩
  · exact .inl h
  · refine .inr ⟨b, o, rfl, h1, h2, h3, h4, fun j hj => ?_⟩
    obtain ⟨x, hx⟩ := h5 j hj
    exact ⟨x, (World.cell?_of_block (w := w) (hk b h1)).trans hx⟩

theorem xor_shift (x : Nat) (hx : x < 2 ^ 62) : bits .xor .i64 (x : Int) ((x : Int) / 64) = ((x ^^^ (x / 64) : Nat) : Int) := by
  have h1 : x ^^^ (x / 64) < 2 ^ 63 := Nat.xor_lt_two_pow (by omega) (by omega)
  have e : ((x : Int) / 64) = ((x / 64 : Nat) : Int) := by omega
  rw [e]
  show IntKind.i64.wrap ((BitVec.ofInt 64 (x : Int) ^^^ BitVec.ofInt 64 ((x / 64 : Nat) : Int)).toNat : Int) = _
  have o (a : Nat) (ha : a < 9223372036854775808) : (BitVec.ofInt 64 (a : Int)).toNat = a := by
    rw [BitVec.ofInt_natCast, BitVec.toNat_ofNat]; exact Nat.mod_eq_of_lt (by omega)
  rw [BitVec.toNat_xor, o x (by omega), o (x / 64) (by omega), IntKind.wrap_i64]
  omega

end Go.Proofs.YtiepobifbkleaaaDoor
