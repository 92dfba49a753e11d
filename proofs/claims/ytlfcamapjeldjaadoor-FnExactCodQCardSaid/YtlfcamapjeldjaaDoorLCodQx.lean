/- The law on a quality, exact. -/
import Derived.Test.YtlfcamapjeldjaaDoorCodQi
import Derived.Test.YtlfcamapjeldjaaDoorLaidN
namespace Go.Proofs.YtlfcamapjeldjaaDoor
open Go.RowKit

set_option maxHeartbeats 400000 in
theorem law_codq (s : ByteArray) (w : World) (hs : s.size ≤ maxLen) (he : Errs w) :
    Calls Tryd.prog 7 #[.string s] w fun e w' => e = .returned (.bool true) ∧ Below w.heap.size w w' := by
  by_cases hbig : 1048576 < s.size
  · unfold maxLen at hs
    clear he
    go_enter Tryd.func7, Tryd.ntmps7
    go_wp2_with fail
    go_ret
    exact ⟨rfl, Below.refl _ _⟩
  · have hs' := hs
    unfold maxLen at hs'
    have HE := Lib.hid he
    have HI := fun W (h : Errs W) => impl_codq s W (by omega) h
    clear he
    unfold QEnd at HI
    have HS := spec_codq s w hs
    unfold QEnd at HS
    generalize codQ s.data.toList = q at *
    obtain ⟨q, b⟩ := q
    have HI2 := Lib.hid HI; have HS2 := Lib.hid HS
    clear HI HS
    go_enter Tryd.func7, Tryd.ntmps7
    go_wp2_with fail
    refine HS2.out.mono ?_
    rintro e w1 ⟨rfl, n, rfl⟩
    go_wp2_with fail
    refine (HI2.out _ (show Errs (w.drewN n) from HE.out)).mono ?_
    rintro e w2 ⟨rfl, hb2⟩
    go_wp2
    go_ret
    exact ⟨rfl, below_drewN_left hb2⟩
namespace Lw
theorem fnExactCodQ (w : World) (hL : laidMetH Tryd.prog Rows.fnExactCodQRow.laid w) (s : ByteArray) (hs : s.size ≤ maxLen) :
    Calls Tryd.prog 7 #[.string s] w fun e w' => e = .returned (.bool true) ∧ Below w.heap.size w w' := by
  have hL' : laidMet Tryd.prog Rows.fnExactCodQRow.laid w := hL
  exact law_codq s w hs (errs_of_heads hL'.tail.tail.tail)
end Lw
end Go.Proofs.YtlfcamapjeldjaaDoor
