/- The law on the set of codings that a request would take, exact. -/
import Derived.Test.YtlfcamapjeldjaaGreatDoorCodOs
import Derived.Test.YtlfcamapjeldjaaGreatDoorFEq
import Derived.Test.YtlfcamapjeldjaaGreatDoorFOpen
import Derived.Test.YtlfcamapjeldjaaGreatDoorLaidN
namespace Go.Proofs.YtlfcamapjeldjaaGreatDoor
open Go.RowKit Go.Maps

set_option maxHeartbeats 1600000 in
theorem law_codofx (v : Value) (fs : List Fd) (w : World) (hF : FRow w v fs) (hok : FOk fs maxLen) (hd : Cds w) (hc : Cls w) (he : Errs w) :
    Calls Tryz.prog 4 #[v] w fun e w' => e = .returned (.bool true) ∧ Below w.heap.size w w' := by
  have HF := Lib.hid hF; have HOK := Lib.hid hok
  have HX : Hid (∀ W, Below w.heap.size w W → Cds W ∧ Cls W ∧ Errs W) := Lib.hid fun W hW => ⟨hd.below hW (Nat.le_refl _), hc.below hW (Nat.le_refl _), he.below hW (Nat.le_refl _)⟩
  clear hF hok hd hc he
  go_enter Tryz.func4, Tryz.ntmps4
  go_wp2_with fail
  refine (sz_fields v fs _ HF.out HOK.out).mono ?_
  rintro e w1 ⟨⟨r, rfl, hr⟩, hb1⟩
  rcases hr with hr | ⟨hr, hok1, hn⟩
  · go_wp2
    go_ret
    exact ⟨rfl, hb1⟩
  have hmx : fs.length ≤ maxLen := by unfold maxLen; omega
  have hn2 : fs.length ≤ 2000000 := by omega
  have hF1 := HF.out.below (Nat.le_refl _) hb1
  have HOK1 := Lib.hid hok1
  clear hok1 HOK
  go_wp2_with fail
  refine (to_fields v fs _ hF1 hn).mono ?_
  rintro e w2 ⟨rfl, hc2, hb2⟩
  have hb02 := hb1.trans (hb2.mono hb1.size)
  have hR2 := hc2.row hmx
  clear hc2 hF1
  go_wp2_with fail
  refine (spec_codof _ fs _ hR2 HOK1.out hn2).mono ?_
  rintro e w3 ⟨rfl, hb3⟩
  have hb03 := hb02.trans (hb3.mono hb02.size)
  have hF3 := HF.out.below (Nat.le_refl _) hb03
  clear hR2
  go_wp2_with fail
  refine (to_fields v fs _ hF3 hn).mono ?_
  rintro e w4 ⟨rfl, hc4, hb4⟩
  have hb04 := hb03.trans (hb4.mono hb03.size)
  have hR4 := hc4.row hmx
  obtain ⟨k1, k2, k3⟩ := HX.out _ hb04
  clear hc4 hF3
  have HI4 := Lib.hid (impl_codof _ fs _ hR4 HOK1.out hn2 k1 k2 k3)
  clear k1 k2 k3
  go_wp2_with fail
  refine HI4.out.mono ?_
  rintro e w5 ⟨rfl, hb5⟩
  have hb05 := hb04.trans (hb5.mono hb04.size)
  have hR5 := hR4.below (Nat.le_refl _) hb5
  have hF5 := HF.out.below (Nat.le_refl _) hb05
  clear hR4
  generalize codOfF fs = M at *
  go_wp2_with fail
  refine (to_fields v fs _ hF5 hn).mono ?_
  rintro e w7 ⟨rfl, hc7, hb7⟩
  have hR7 := hc7.row hmx
  have hR57 := hR5.below (Nat.le_refl _) hb7
  have hb07 := hb05.trans (hb7.mono hb05.size)
  clear hc7 hF5 hR5
  go_wp2_with fail
  refine (eq_fields _ _ fs _ hR57 hR7 (by omega)).mono ?_
  rintro e w8 ⟨rfl, hb8⟩
  have hb08 := hb07.trans (hb8.mono hb07.size)
  go_wp2
  go_ret
  exact ⟨rfl, hb08⟩
namespace Lw
theorem fnExactCodOf (w : World) (hL : laidMetH Tryz.prog Rows.fnExactCodOfRow.laid w) (v : Value) (fs : List Fd) (hF : FRow w v fs) (hok : FOk fs maxLen) :
    Calls Tryz.prog 4 #[v] w fun e w' => e = .returned (.bool true) ∧ Below w.heap.size w w' := by
  have hL' : laidMet Tryz.prog Rows.fnExactCodOfRow.laid w := hL
  exact law_codofx v fs w hF hok (cds_of_head hL'.tail.tail.tail.tail.tail.tail.tail) (cls_of_head hL'.tail.tail.tail.tail.tail.tail) (errs_of_heads hL'.tail.tail.tail.tail)
end Lw
end Go.Proofs.YtlfcamapjeldjaaGreatDoor
