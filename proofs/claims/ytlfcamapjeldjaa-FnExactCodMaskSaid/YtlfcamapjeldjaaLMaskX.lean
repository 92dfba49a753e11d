/- The laws on the set of what would be taken, and on what is in a set, exact. -/
import Derived.Test.YtlfcamapjeldjaaMaskI
import Derived.Test.YtlfcamapjeldjaaMaskS
import Derived.Test.YtlfcamapjeldjaaMaskB
import Derived.Test.YtlfcamapjeldjaaWOpen
namespace Go.Proofs.Ytlfcamapjeldjaa
open Go.RowKit Go.Maps

set_option maxHeartbeats 1600000 in
theorem law_maskx (v : Value) (ws : List Wt) (w : World) (hF : WRow w v ws) :
    Calls Try.prog 4 #[v] w fun e w' => e = .returned (.bool true) ∧ Below w.heap.size w w' := by
  have hF0 := hF
  obtain ⟨va, vc, rfl, h1, h2, _⟩ := hF
  have hSz := fun W => sz_wants va ws.length vc W (by omega)
  have HF := Lib.hid hF0; have HS := Lib.hid hSz
  clear hF0 hSz
  go_enter Try.func4, Try.ntmps4
  go_wp2_with fail
  refine (HS.out _).mono ?_
  rintro e w1 ⟨⟨r, rfl, hr⟩, rfl⟩
  rcases hr with hr | ⟨hr, hn⟩
  · go_wp2
    go_ret
    exact ⟨rfl, Below.refl _ _⟩
  have hmx : ws.length ≤ maxLen := by unfold maxLen; omega
  have i1 : ¬ r < 0 := by omega
  go_wp2_with fail
  refine (to_wants _ ws w HF.out hn).mono ?_
  rintro e w2 ⟨rfl, hc2, hb2⟩
  have hR2 := hc2.row hmx
  clear hc2
  go_wp2_with fail
  refine (spec_mask _ ws _ hR2).mono ?_
  rintro e w3 ⟨rfl, n3, rfl⟩
  have hb3 : Below w.heap.size w (w2.drewN n3) := below_drewN hb2
  have hF3 := HF.out.below (Nat.le_refl _) hb3
  clear hR2
  go_wp2_with fail
  refine (to_wants _ ws _ hF3 hn).mono ?_
  rintro e w4 ⟨rfl, hc4, hb4⟩
  have hb04 := hb3.trans (hb4.mono hb3.size)
  have hR4 := hc4.row hmx
  clear hc4 hF3
  go_wp2_with fail
  refine (impl_mask _ ws _ hR4).mono ?_
  rintro e w5 ⟨rfl, hb5⟩
  have hb05 := hb04.trans (hb5.mono hb04.size)
  have hR5 := hR4.below (Nat.le_refl _) hb5
  have hF5 := HF.out.below (Nat.le_refl _) hb05
  clear hR4
  go_wp2_with fail
  refine (to_wants _ ws _ hF5 hn).mono ?_
  rintro e w6 ⟨rfl, hc6, hb6⟩
  have hb06 := hb05.trans (hb6.mono hb05.size)
  have hR6 := hc6.row hmx
  have hR56 := hR5.below (Nat.le_refl _) hb6
  clear hc6 hF5 hR5
  go_wp2_with fail
  refine (eq_wants _ _ ws _ hR56 hR6 (by omega)).mono ?_
  rintro e w7 ⟨rfl, hb7⟩
  have hb07 := hb06.trans (hb7.mono hb06.size)
  go_wp2
  go_ret
  exact ⟨rfl, hb07⟩

set_option maxHeartbeats 400000 in
theorem law_inx (m c : Int) (w : World) :
    Calls Try.prog 5 #[.int .i64 m, .int .i64 c] w fun e w' => e = .returned (.bool true) ∧ Below w.heap.size w w' := by
  have HS := Lib.hid (spec_codin m c w)
  have HI := Lib.hid (fun W => impl_codin m c W)
  generalize inB m c = b at *
  go_enter Try.func5, Try.ntmps5
  go_wp2_with fail
  refine HS.out.mono ?_
  rintro e w1 ⟨rfl, hb1⟩
  go_wp2_with fail
  refine (HI.out _).mono ?_
  rintro e w2 ⟨rfl, rfl⟩
  go_wp2
  go_ret
  exact ⟨rfl, hb1⟩
namespace Lw
theorem fnExactCodMask (w : World) (v : Value) (ws : List Wt) (hF : WRow w v ws) :
    Calls Try.prog 4 #[v] w fun e w' => e = .returned (.bool true) ∧ Below w.heap.size w w' := law_maskx v ws w hF
theorem fnExactCodIn (w : World) (m : Int) (_ : (Lit.int .i64 m).wf = true) (c : Int) (_ : (Lit.int .i64 c).wf = true) :
    Calls Try.prog 5 #[.int .i64 m, .int .i64 c] w fun e w' => e = .returned (.bool true) ∧ Below w.heap.size w w' := law_inx m c w
end Lw
end Go.Proofs.Ytlfcamapjeldjaa
