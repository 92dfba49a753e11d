/- Walks: the laws' own check that names go; what came in as a row of bytes. -/
import Derived.Test.YtbhnjnoblkfckabDoorLaid
import Derived.Test.YtbhnjnoblkfckabDoorTrim
import Derived.Test.YtbhnjnoblkfckabDoorDraw3
namespace Go.Proofs.YtbhnjnoblkfckabDoor
open Go.RowKit

set_option maxHeartbeats 400000 in
theorem gd_ok (w : World) (h : Cls w) :
    Calls Tryd.prog 8 #[] w fun e w' => e = .returned (.bool true) ∧ w = w' := by
  have ht := impl_tok ⟨#[97]⟩ w (by decide) h
  rw [show tokB (ByteArray.mk #[97]).data.toList = true from by decide] at ht
  have HT := Lib.hid ht; clear ht h
  go_enter Tryd.func8, Tryd.ntmps8
  go_wp2_with fail
  refine HT.out.mono ?_
  rintro e w' ⟨rfl, rfl⟩
  go_wp2
  go_ret
  exact ⟨rfl, rfl⟩

theorem isrow_below {k : IntKind} {w w' : World} {a : Option Addr} {len cap : Nat} {zs : List Int} (h : IsRow k w a len cap zs) (hb : Below w.heap.size w w') : IsRow k w' a len cap zs := by
  rcases h with h | ⟨x, h1, h2, h3, h4, h5, h6⟩
  · exact .inl h
  · exact .inr ⟨x, h1, h2, h3, h4, fun i hi => (hb.cell (World.block_lt_of_cell? w _ (h5 i hi))).trans (h5 i hi), h6⟩

theorem isrow_len {k : IntKind} {w : World} {a : Option Addr} {len cap : Nat} {zs : List Int} (h : IsRow k w a len cap zs) : len ≤ 9223372036854775807 := by
  rcases h with ⟨_, rfl, _⟩ | ⟨x, _, h1, h2, _⟩
  · omega
  · unfold maxLen at h2; omega

end Go.Proofs.YtbhnjnoblkfckabDoor
