/- The law on a key's text, exact. -/
import Derived.Test.YtiepobifbkleaaaDoorLaidN
import Derived.Test.YtiepobifbkleaaaDoorKyT
import Derived.Test.YtiepobifbkleaaaDoorKyTs
import Derived.Test.YtiepobifbkleaaaDoorKyFr
namespace Go.Proofs.YtiepobifbkleaaaDoor
open Go.RowKit Go.Maps

set_option maxRecDepth 100000 in
set_option maxHeartbeats 1600000 in
theorem law_keytext (k : Ky) (w : World) (hp : k.place.size ≤ maxLen) (hh : -9223372036854775808 ≤ k.house ∧ k.house ≤ 9223372036854775807) (hm : -9223372036854775808 ≤ k.mask ∧ k.mask ≤ 9223372036854775807) (ht : Tab w) :
    Calls Tryd.prog 4 #[keyV k] w fun e w' => e = .returned (.bool true) ∧ Below w.heap.size w w' := by
  obtain ⟨wA, hwA⟩ : ∃ wA, wA = w.alloc (.cells #[.int .i64 k.house, .string k.place, .int .i64 k.mask] 26) := ⟨_, rfl⟩
  have hbA : Below w.heap.size w wA := by rw [hwA]; exact (Below.refl _ _).alloc (Nat.le_refl _) _
  have hz : wA.heap.size = w.heap.size + 1 := by rw [hwA]; simp
  have hA : wA.heap[w.heap.size]? = some (.cells #[.int .i64 k.house, .string k.place, .int .i64 k.mask] 26 (0, 0)) := by rw [hwA]; exact heap_alloc_new w _
  have HX : Hid (∀ W, Below wA.heap.size wA W → Tab W ∧ Below w.heap.size w W ∧ W.heap[w.heap.size]? = some (.cells #[.int .i64 k.house, .string k.place, .int .i64 k.mask] 26 (0, 0))) := Lib.hid fun W hW => by
    have hb := hbA.trans (hW.mono (by omega))
    exact ⟨ht.below hb (Nat.le_refl _), hb, (hW.block _ (by omega)).trans hA⟩
  have hS := sz_key k 1048576 (by omega) (by omega) hp wA
  have HT := Lib.hid fun W => to_key k W
  have HSp : Hid (k.place.size ≤ 1048576 → ∀ W, Calls Tryd.prog 13 #[keyV k] W fun e w' => e = .returned (.string ⟨(keyT k).toArray⟩) ∧ Below W.heap.size W w') := Lib.hid fun h W => spec_keytext k W h
  have HIm : Hid (k.place.size ≤ 1048576 → ∀ W, Tab W → Calls Tryd.prog 14 #[keyV k] W fun e w' => e = .returned (.string ⟨(keyT k).toArray⟩) ∧ Below W.heap.size W w') := Lib.hid fun h W hW => impl_keytext k W h hh hm hW
  generalize (ByteArray.mk (keyT k).toArray) = S at *
  obtain ⟨house, place, mask⟩ := k
  unfold keyV at hS HT HSp HIm ⊢
  dsimp only at *
  obtain ⟨t0, t1, t2, _⟩ := three_facts hA
  rw [hwA] at t0 t1 t2
  have HW := Lib.hid hwA
  have hss := str_refl S
  clear hwA hbA hA ht hh hm hp
  go_enter Tryd.func4, Tryd.ntmps4
  go_wp2_with fail
  rw [← HW.out]
  refine hS.mono ?_
  rintro e w1 ⟨⟨r, rfl, hr⟩, hb1⟩
  clear hS t0 t1 t2
  rcases hr with hr | ⟨hr, _, hp1⟩
  · have HB := Lib.hid (HX.out _ hb1).2.1
    clear hb1
    go_wp2
    go_ret
    exact ⟨rfl, HB.out⟩
  have i1 : ¬ r < 0 := by omega
  have HSp1 := Lib.hid (HSp.out hp1); have HIm1 := Lib.hid (HIm.out hp1)
  obtain ⟨t0, t1, t2, _⟩ := three_facts (HX.out _ hb1).2.2
  clear HSp HIm
  go_wp2_with fail
  refine (HT.out _).mono ?_
  rintro e w2 ⟨rfl, hb2⟩
  have hb02 := hb1.trans (hb2.mono hb1.size)
  clear hb1 hb2 t0 t1 t2
  go_wp2_with fail
  refine (HSp1.out _).mono ?_
  rintro e w3 ⟨rfl, hb3⟩
  have hb03 := hb02.trans (hb3.mono hb02.size)
  obtain ⟨t0, t1, t2, _⟩ := three_facts (HX.out _ hb03).2.2
  clear hb02 hb3
  go_wp2_with fail
  refine (HT.out _).mono ?_
  rintro e w4 ⟨rfl, hb4⟩
  have hb04 := hb03.trans (hb4.mono hb03.size)
  clear hb03 hb4 t0 t1 t2
  go_wp2_with fail
  refine (HIm1.out _ (HX.out _ hb04).1).mono ?_
  rintro e w5 ⟨rfl, hb5⟩
  have HB := Lib.hid (HX.out _ (hb04.trans (hb5.mono hb04.size))).2.1
  clear hb04 hb5
  go_wp2
  go_ret
  exact ⟨rfl, HB.out⟩
namespace Lw
theorem fnExactKeyText (w : World) (hL : laidMetH Tryd.prog Rows.fnExactKeyTextRow.laid w) (k : Ky) (hp : k.place.size ≤ maxLen) (hh : (Lit.int .i64 k.house).wf = true) (hm : (Lit.int .i64 k.mask).wf = true) :
    Calls Tryd.prog 4 #[keyV k] w fun e w' => e = .returned (.bool true) ∧ Below w.heap.size w w' := by
  have hL' : laidMet Tryd.prog Rows.fnExactKeyTextRow.laid w := hL
  exact law_keytext k w hp (int_range hh) (int_range hm) (tab_of_head hL'.tail.tail)
end Lw
end Go.Proofs.YtiepobifbkleaaaDoor
