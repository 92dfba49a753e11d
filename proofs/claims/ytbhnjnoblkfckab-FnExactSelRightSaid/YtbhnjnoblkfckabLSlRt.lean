/- The law on whether a seal is right, exact. -/
import Derived.Test.YtbhnjnoblkfckabSlM
import Derived.Test.YtbhnjnoblkfckabSlN
import Derived.Test.YtbhnjnoblkfckabSlZ
import Derived.Test.YtbhnjnoblkfckabSlF
namespace Go.Proofs.Ytbhnjnoblkfckab
open Go.RowKit

namespace Lw
set_option maxRecDepth 100000 in
set_option maxHeartbeats 3200000 in
theorem fnExactSelRight (w : World) (key : Int) (_hk : (Lit.int .i64 key).wf = true) (s : Sl) (hp : s.path.size ≤ maxLen) (now : Int) (_hn : (Lit.int .i64 now).wf = true) (last : Int) (_hl : (Lit.int .i64 last).wf = true) :
    Calls Try.prog 4 #[.int .i64 key, slV s, .int .i64 now, .int .i64 last] w fun e w' => e = .returned (.bool true) ∧ Below w.heap.size w w' := by
  have hI := fun W => impl_right key s now last W hp
  have hS := fun W => spec_right key s now last W hp
  have hZ := fun W => sz_seal s W hp
  have hT := fun W => to_seal s W
  obtain ⟨wA, hwA⟩ : ∃ wA, wA = w.alloc (.cells #[.string s.path, .bool s.under, .int .i64 s.til, .int .i64 s.nonce, .int .i64 s.code] 25) := ⟨_, rfl⟩
  have hsA : wA.heap.size = w.heap.size + 1 := by rw [hwA]; simp
  have hbA : Below w.heap.size w wA := by rw [hwA]; exact (Below.refl _ _).alloc (Nat.le_refl _) _
  have hH : wA.heap[w.heap.size]? = some (.cells #[.string s.path, .bool s.under, .int .i64 s.til, .int .i64 s.nonce, .int .i64 s.code] 25 (0, 0)) := by rw [hwA]; exact heap_alloc_new w _
  have HX : Hid (∀ W, Below wA.heap.size wA W → Below w.heap.size w W ∧ W.heap[w.heap.size]? = some (.cells #[.string s.path, .bool s.under, .int .i64 s.til, .int .i64 s.nonce, .int .i64 s.code] 25 (0, 0))) := Lib.hid fun W hW =>
    ⟨hbA.trans (hW.mono (by omega)), (hW.block _ (by omega)).trans hH⟩
  have HW := Lib.hid hwA
  have hb0 : Below wA.heap.size wA wA := Below.refl _ _
  obtain ⟨p0, p1, p2, p3, p4⟩ := sl_facts hH
  rw [hwA] at p0 p1 p2 p3 p4
  generalize rightS key s now last = R at *
  obtain ⟨p, u, t, n, c⟩ := s
  unfold slV at *
  dsimp only at *
  have e1 : (R != R) = false := by simp
  have e2 : (R == R) = true := by simp
  clear hwA hH hbA _hk _hn _hl
  go_enter Try.func4, Try.ntmps4
  go_wp2_with fail
  rw [← HW.out]
  refine (hZ _).mono ?_
  rintro e w1 ⟨⟨r, rfl, hr⟩, hb1⟩
  clear hZ hb0 p0 p1 p2 p3 p4
  obtain ⟨hB1, hH1⟩ := HX.out _ hb1
  have HB1 := Lib.hid hB1
  obtain ⟨p0, p1, p2, p3, p4⟩ := sl_facts hH1
  clear hH1 hB1
  rcases hr with hr | ⟨hr, -⟩
  · clear hI hS hT hb1
    go_wp2
    go_ret
    exact ⟨rfl, HB1.out⟩
  have i1 : ¬ r < 0 := by omega
  go_wp2_with fail
  refine (hT _).mono ?_
  rintro e w2 ⟨rfl, hb2⟩
  have hb02 := hb1.trans (hb2.mono hb1.size)
  clear hb1 hb2 p0 p1 p2 p3 p4 HB1
  go_wp2_with fail
  refine (hS _).mono ?_
  rintro e w3 ⟨rfl, hb3⟩
  have hb03 := hb02.trans (hb3.mono hb02.size)
  clear hb02 hb3 hS
  obtain ⟨p0, p1, p2, p3, p4⟩ := sl_facts (HX.out _ hb03).2
  go_wp2_with fail
  refine (hT _).mono ?_
  rintro e w4 ⟨rfl, hb4⟩
  have hb04 := hb03.trans (hb4.mono hb03.size)
  clear hb03 hb4 hT p0 p1 p2 p3 p4
  go_wp2_with fail
  refine (hI _).mono ?_
  rintro e w5 ⟨rfl, hb5⟩
  have HB := Lib.hid (HX.out _ (hb04.trans (hb5.mono hb04.size))).1
  clear hb04 hb5 hI HX
  go_wp2
  go_ret
  exact ⟨rfl, HB.out⟩
end Lw
end Go.Proofs.Ytbhnjnoblkfckab
