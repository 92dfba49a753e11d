/- The law on the only value of a name, exact. -/
import Derived.Test.YtahbnclangfkaaaFEq
import Derived.Test.YtahbnclangfkaaaFOne
namespace Go.Proofs.Ytahbnclangfkaaa
open Go.RowKit Go.Maps

set_option maxHeartbeats 1600000 in
theorem law_one (v : Value) (fs : List Fd) (s : ByteArray) (w : World) (hF : FRow w v fs) (hok : FOk fs maxLen) (hs : s.size ≤ maxLen) :
    Calls Try.prog 4 #[v, .string s] w fun e w' => e = .returned (.bool true) ∧ Below w.heap.size w w' := by
  have hs' := hs
  unfold maxLen at hs'
  have HF := Lib.hid hF; have HOK := Lib.hid hok; have HS := Lib.hid hs
  by_cases hbig : 1048576 < s.size
  · clear hF hok hs
    go_enter Try.func4, Try.ntmps4
    go_wp2_with fail
    go_ret
    exact ⟨rfl, Below.refl _ _⟩
  · clear hF hok hs
    go_enter Try.func4, Try.ntmps4
    go_wp2_with fail
    refine (sz_fields v fs _ HF.out HOK.out).mono ?_
    rintro e w1 ⟨⟨r, rfl, hr⟩, hb1⟩
    rcases hr with hr | ⟨hr, hok1, hn⟩
    · go_wp2
      go_ret
      exact ⟨rfl, hb1⟩
    · have hok2 : FOk fs 281474976710656 := fun f hf => ⟨Nat.le_trans (hok1 f hf).1 (by omega), Nat.le_trans (hok1 f hf).2 (by omega)⟩
      have hmx : fs.length ≤ maxLen := by unfold maxLen; omega
      have hF1 := HF.out.below (Nat.le_refl _) hb1
      have HOK2 := Lib.hid hok2
      clear hok1 hok2 HOK
      generalize hO : oneOf (allTo fs s fs.length) = O
      have HO := Lib.hid hO; clear hO
      obtain ⟨os, ob⟩ := O
      go_wp2_with fail
      refine (to_fields v fs _ hF1 hn).mono ?_
      rintro e w2 ⟨rfl, hc2, hb2⟩
      have hbel2 := hb1.trans (hb2.mono hb1.size)
      have hR2 := hc2.row hmx
      go_wp2_with fail
      refine (spec_one _ fs s _ hR2 (by omega)).mono ?_
      rintro e w3 ⟨rfl, hb3⟩
      rw [HO.out]
      have hbel3 := hbel2.trans (hb3.mono hbel2.size)
      have hF3 := HF.out.below (Nat.le_refl _) hbel3
      clear hc2 hR2 hF1
      go_wp2_with fail
      refine (to_fields v fs _ hF3 hn).mono ?_
      rintro e w4 ⟨rfl, hc4, hb4⟩
      have hbel4 := hbel3.trans (hb4.mono hbel3.size)
      have hR4 := hc4.row hmx
      go_wp2_with fail
      refine (impl_one _ fs s _ hR4 HOK2.out (by omega) HS.out).mono ?_
      rintro e w5 ⟨rfl, hb5⟩
      rw [HO.out]
      have hbel5 := hbel4.trans (hb5.mono hbel4.size)
      have hR5 := hR4.below (Nat.le_refl _) hb5
      have hF5 := HF.out.below (Nat.le_refl _) hbel5
      have hrefl := str_refl os
      clear hc4 hR4 hF3
      go_wp2_with fail
      refine (to_fields v fs _ hF5 hn).mono ?_
      rintro e w7 ⟨rfl, hc7, hb7⟩
      have hR7 := hc7.row hmx
      have hR57 := hR5.below (Nat.le_refl _) hb7
      have hbel7 := hbel5.trans (hb7.mono hbel5.size)
      clear hc7 hF5 hR5
      go_wp2_with fail
      refine (eq_fields _ _ fs _ hR57 hR7 (by omega)).mono ?_
      rintro e w8 ⟨rfl, hb8⟩
      have hbel8 := hbel7.trans (hb8.mono hbel7.size)
      go_wp2
      go_ret
      exact ⟨rfl, hbel8⟩
namespace Lw
theorem fnExactFldOne (w : World) (v : Value) (fs : List Fd) (hF : FRow w v fs) (hok : FOk fs maxLen) (s : ByteArray) (hs : s.size ≤ maxLen) :
    Calls Try.prog 4 #[v, .string s] w fun e w' => e = .returned (.bool true) ∧ Below w.heap.size w w' := law_one v fs s w hF hok hs
end Lw
end Go.Proofs.Ytahbnclangfkaaa
