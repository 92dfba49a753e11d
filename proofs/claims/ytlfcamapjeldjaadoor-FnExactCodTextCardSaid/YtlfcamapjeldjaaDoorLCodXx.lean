/- The law on a set's text, exact. -/
import Derived.Test.YtlfcamapjeldjaaDoorCodX
namespace Go.Proofs.YtlfcamapjeldjaaDoor
open Go.RowKit

set_option maxHeartbeats 800000 in
theorem law_codtextx (m : Int) (w : World) (hc : Cds w) :
    Calls Tryd.prog 9 #[.int .i64 m] w fun e w' => e = .returned (.bool true) ∧ Below w.heap.size w w' := by
  have HS := Lib.hid (spec_codtext m w)
  have HI := Lib.hid (fun W (h : Cds W) => impl_codtext m W h)
  have HC := Lib.hid hc
  clear hc
  generalize codT m = l at *
  have hr : ((ByteArray.mk l.toArray).toList != (ByteArray.mk l.toArray).toList) = false := by simp
  simp only [strV] at *
  generalize (ByteArray.mk l.toArray) = s at *
  go_enter Tryd.func9, Tryd.ntmps9
  go_wp2_with fail
  refine HS.out.mono ?_
  rintro e w1 ⟨rfl, hb1⟩
  have hc1 := HC.out.below hb1 (Nat.le_refl _)
  go_wp2_with fail
  refine (HI.out _ hc1).mono ?_
  rintro e w2 ⟨rfl, rfl⟩
  go_wp2
  go_ret
  exact ⟨rfl, hb1⟩
namespace Lw
theorem fnExactCodText (w : World) (hL : laidMetH Tryd.prog Rows.fnExactCodTextRow.laid w) (m : Int) (_hm : (Lit.int .i64 m).wf = true) :
    Calls Tryd.prog 9 #[.int .i64 m] w fun e w' => e = .returned (.bool true) ∧ Below w.heap.size w w' := by
  have hL' : laidMet Tryd.prog Rows.fnExactCodTextRow.laid w := hL
  exact law_codtextx m w (cds_of_head hL')
end Lw
end Go.Proofs.YtlfcamapjeldjaaDoor
