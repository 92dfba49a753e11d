/- The law on the parts of a text, exact. -/
import Derived.Test.YtmeblmoinanciaaParts
import Derived.Test.YtmeblmoinanciaaEq
namespace Go.Proofs.Ytmeblmoinanciaa
open Go.RowKit

theorem partsL_len (l : List UInt8) (c : UInt8) : (partsL l c).length ≤ l.length + 1 := by
  induction l with
  | nil => simp [partsL]
  | cons b l ih =>
    unfold partsL
    split
    · simp; omega
    · split
      · simp
      · rename_i h; rw [h] at ih; simpa using Nat.le_succ_of_le ih

set_option maxHeartbeats 800000 in
theorem law_parts (s : ByteArray) (c : UInt8) (w : World) (hs : s.size ≤ maxLen) :
    Calls Try.prog 5 #[.string s, .int .u8 c.toNat] w fun e w' => e = .returned (.bool true) ∧ Below w.heap.size w w' := by
  unfold maxLen at hs
  by_cases hbig : 1048576 < s.size
  · go_enter Try.func5, Try.ntmps5
    go_wp2_with fail
    go_ret
    exact ⟨rfl, Below.refl _ _⟩
  · have hlen : (partsL s.data.toList c).length ≤ 1048577 := by have := partsL_len s.data.toList c; rw [size_len] at hbig; omega
    go_enter Try.func5, Try.ntmps5
    go_wp2_with fail
    refine (spec_parts _ _ _ (by omega)).mono ?_
    rintro e w1 ⟨v1, rfl, ho1, hb1⟩
    go_wp2_with fail
    refine (impl_parts _ _ _ (by omega)).mono ?_
    rintro e w2 ⟨v2, rfl, ho2, hb2⟩
    have hbel2 := hb1.trans (hb2.mono hb1.size)
    go_wp2_with fail
    refine (eq_strings _ _ _ _ (Rd1.of_own ho2) (Rd1.of_own (own_below ho1 hb2))).mono ?_
    rintro e w3 ⟨rfl, n3, rfl⟩
    go_wp2_with fail
    have ho2' := own_drewN ho2 n3
    have hbel3 : Below w.heap.size w (w2.drewN n3) := below_drewN hbel2
    have hv1 := ho1.lt
    have hv2 := ho2.lt
    have hne : ∀ b, v1.ownBlock = some b → some b ≠ v2.ownBlock := fun b hb e => by
      have := (hv1 b hb).2; have := (hv2 b e.symm).1; omega
    have hr1 := (Rd1.of_own (own_below ho1 hb2)).drewN n3
    generalize hN : (partsL s.data.toList c).length = N at *
    have HN := Lib.hid hN; clear hN
    refine (mark_strings v2 1 N w1.heap.size _ _ (by omega) ho2').mono ?_
    rintro e w4 ⟨rfl, ho4, hg4⟩
    have hbel4 : Below w.heap.size w w4 := hbel3.grown hg4 hbel3.size (fun k hk => Nat.le_trans hb1.size (hv2 k hk).1)
    have hr4 := hr1.keep (w' := w4) (fun b hb => hg4.block b (Nat.lt_of_lt_of_le (hv1 b hb).2 hb2.size) (hne b hb))
    go_wp2_with fail
    refine (held_strings v2 1 N _ (by omega) (Rd1.of_own ho4) (fun b hb => (ho4.lt b hb).2)).mono ?_
    rintro e w5 ⟨rfl, hb5⟩
    have ho5 := own_below ho4 hb5
    have hbel5 := hbel4.trans (hb5.mono hbel4.size)
    have hr5 := hr4.keep (w' := w5) (fun b hb => hb5.block b (Nat.lt_of_lt_of_le (hv1 b hb).2 (Nat.le_trans hb2.size hg4.size)))
    have hz1 : ((1 : Int) + (N : Int) != 1 + (N : Int)) = false := by simp
    have hz2 : ¬ ((1 : Int) + (N : Int) < 0) := by omega
    go_wp2_with fail
    refine (impl_parts _ _ _ (by omega)).mono ?_
    rintro e w6 ⟨v3, rfl, ho6, hb6⟩
    have hbel6 := hbel5.trans (hb6.mono hbel5.size)
    have hr6 := hr5.keep (w' := w6) (fun b hb => hb6.block b (Nat.lt_of_lt_of_le (hv1 b hb).2 (Nat.le_trans hb2.size (Nat.le_trans hg4.size hb5.size))))
    have ho6' := own_below ho5 hb6
    go_wp2_with fail
    refine (eq_strings _ _ _ _ (Rd1.of_own ho6) hr6).mono ?_
    rintro e w7 ⟨rfl, n7, rfl⟩
    go_wp2_with fail
    refine (held_strings v2 1 N _ (by omega) ((Rd1.of_own ho6').drewN n7) (fun b hb => (ho6'.lt b hb).2)).mono ?_
    rintro e w8 ⟨rfl, hb8⟩
    have hbel8 := (below_drewN hbel6).trans (hb8.mono hbel6.size)
    go_wp2
    go_ret
    exact ⟨rfl, hbel8⟩

namespace Lw
theorem fnExactTxtParts (w : World) (s : ByteArray) (hs : s.size ≤ maxLen) (c : Int) (hc : (Lit.int .u8 c).wf = true) :
    Calls Try.prog 5 #[.string s, .int .u8 c] w fun e w' => e = .returned (.bool true) ∧ Below w.heap.size w w' := by
  obtain ⟨u, rfl⟩ := u8_of_wf hc
  exact law_parts s u w hs
end Lw
end Go.Proofs.Ytmeblmoinanciaa
