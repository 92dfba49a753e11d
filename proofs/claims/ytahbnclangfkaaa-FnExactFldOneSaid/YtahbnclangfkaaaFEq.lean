/- The laws' own helpers over lists of fields: equal, marked. -/
import Derived.Test.YtahbnclangfkaaaFCopy
namespace Go.Proofs.Ytahbnclangfkaaa
open Go.RowKit Go.Maps

theorem str_refl (a : ByteArray) : (a.toList != a.toList) = false := by simp

set_option maxHeartbeats 400000 in
theorem eq_field (f : Fd) (w : World) :
    Calls Try.prog 20 #[.agg #[.string f.1, .string f.2], .agg #[.string f.1, .string f.2]] w fun e w' => e = .returned (.bool true) ∧ Below w.heap.size w w' := by
  obtain ⟨a, b⟩ := f
  go_enter Try.func20, Try.ntmps20
  go_wp2
  go_ret
  exact ⟨rfl, ((Below.refl _ _).alloc (Nat.le_refl _) _).alloc (by simp) _⟩

set_option maxHeartbeats 1600000 in
theorem eq_fields (v1 v2 : Value) (fs : List Fd) (w : World) (hF1 : FRow w v1 fs) (hF2 : FRow w v2 fs) (hn : fs.length ≤ 2000000) :
    Calls Try.prog 10 #[v1, v2] w fun e w' => e = .returned (.bool true) ∧ Below w.heap.size w w' := by
  obtain ⟨a1, c1, rfl, _, _, h1⟩ := hF1
  obtain ⟨a2, c2, rfl, _, _, h2⟩ := hF2
  have H1 := Lib.hid h1; have H2 := Lib.hid h2; clear h1 h2
  go_enter Try.func10, Try.ntmps10
  go_wp2
  go_loopw [5] (fun i wr => ∃ k : Nat, k ≤ fs.length ∧ i = .int .i64 k ∧ Below w.heap.size w wr) (fun i _ => fs.length - (intOf i).toNat)
  case atStart => exact ⟨0, Nat.zero_le _, rfl, Below.refl _ _⟩
  case round =>
    obtain ⟨k, hk, rfl, hnx⟩ := hrel
    by_cases hlt : k < fs.length
    · obtain ⟨b1, o1, rfl, hb1, c1, d1⟩ := H1.out k fs[k] (List.getElem?_eq_getElem hlt)
      obtain ⟨b2, o2, rfl, hb2, c2, d2⟩ := H2.out k fs[k] (List.getElem?_eq_getElem hlt)
      generalize fs[k] = f at *
      have hc := eq_field f
      have HC : ∀ W, Below w.heap.size w W → W.cell? ⟨b1, o1 + k * 2, none⟩ = some (.string f.1) ∧ W.cell? ⟨b1, o1 + k * 2 + 1, none⟩ = some (.string f.2) ∧ W.cell? ⟨b2, o2 + k * 2, none⟩ = some (.string f.1) ∧ W.cell? ⟨b2, o2 + k * 2 + 1, none⟩ = some (.string f.2) := fun W hW =>
        ⟨(hW.cell (p := ⟨b1, o1 + k * 2, none⟩) hb1).trans c1, (hW.cell (p := ⟨b1, o1 + k * 2 + 1, none⟩) hb1).trans d1, (hW.cell (p := ⟨b2, o2 + k * 2, none⟩) hb2).trans c2, (hW.cell (p := ⟨b2, o2 + k * 2 + 1, none⟩) hb2).trans d2⟩
      obtain ⟨k1, k2, k3, k4⟩ := HC wr hnx
      clear c1 c2 d1 d2 HC H1 H2
      obtain ⟨nm, vl⟩ := f
      simp only at k1 k2 k3 k4 hc
      have HE := Lib.hid hc; clear hc
      have i1 : (k : Int) < (fs.length : Int) := by omega
      have hs := hnx.size
      have HN := Lib.hid hnx; clear hnx
      go_wp2_with fail
      go_region_with (go_at_call 20; refine (HE.out _).mono ?_; rintro e w1 ⟨rfl, hbx⟩; have hbz := HN.out.trans (below_drew_left (hbx.mono hs)))
      all_goals go_wp2
      all_goals go_roundw
      all_goals first
        | (case rel => exact ⟨k + 1, by omega, by go_num, hbz⟩)
        | (simp [intOf]; omega)
    · have hkn : k = fs.length := by omega
      subst hkn
      go_wp2
      go_ret
      exact ⟨rfl, hnx⟩

theorem mark_nat (k : Nat) (x : Int) (hx : x = (k : Int)) (w : World) (hk : k < 10000000) :
    Calls Try.prog 21 #[.int .i64 x] w fun e w' => e = .returned (.string ⟨(markS k).toArray⟩) ∧ Below w.heap.size w w' := by
  subst hx; exact mark_text k w hk

set_option maxHeartbeats 800000 in
theorem mark_fields (g n k : Nat) (F : Nat → Fd) (w : World) (h : FCells w g n F) (hk : k + 2 * n < 10000000) :
    Calls Try.prog 11 #[.slice (some ⟨g, 0, none⟩) n n, .int .i64 k] w fun e w' => e = .returned (.int .i64 ((k : Int) + 2 * (n : Int))) ∧ w.grownBy w' (some g) := by
  go_enter Try.func11, Try.ntmps11
  go_wp2
  go_loopw [1, 5] (fun q i wr => ∃ j : Nat, j ≤ n ∧ i = .int .i64 j ∧ q = .int .i64 ((k : Int) + 2 * (j : Int)) ∧ (∃ F', FCells wr g n F') ∧ w.grownBy wr (some g)) (fun _ i _ => n - (intOf i).toNat)
  case atStart => exact ⟨0, Nat.zero_le _, rfl, by simp, ⟨F, h⟩, World.grownBy.refl _ _⟩
  case round =>
    obtain ⟨j, hj, rfl, rfl, ⟨F', hown⟩, hg⟩ := hrel
    by_cases hlt : j < n
    · have j1 : (j : Int) < (n : Int) := by omega
      go_wp2_with fail
      refine (mark_nat (k + 2 * j) _ (by omega) _ (by omega)).mono ?_
      rintro e w1 ⟨rfl, hb1⟩
      have hown1 := hown.keep (hb1.block _ hown.lt)
      have hg1 := grown_trans hg (grown_of_below hb1 (some g))
      have q0 := hown1.cell0 hlt
      have f0 := hown1.frozen (j * 2)
      have hst := hown1.set0 hlt ⟨(markS (k + 2 * j)).toArray⟩
      have hg2 := grown_trans hg1 (grown_set w1 g (j * 2) (.string ⟨(markS (k + 2 * j)).toArray⟩))
      generalize (ByteArray.mk (markS (k + 2 * j)).toArray) = x1 at *
      have HS := Lib.hid hst; have HG := Lib.hid hg2
      clear hown hown1 hst hg hg1 hg2 hb1 h
      go_wp2_with fail
      refine (mark_nat (k + 2 * j + 1) _ (by omega) _ (by omega)).mono ?_
      rintro e w2 ⟨rfl, hb2⟩
      have hown2 := HS.out.keep (hb2.block _ HS.out.lt)
      have hg3 := grown_trans HG.out (grown_of_below hb2 (some g))
      have q1 := hown2.cell1 hlt
      have f1 := hown2.frozen (j * 2 + 1)
      have hst := hown2.set1 hlt ⟨(markS (k + 2 * j + 1)).toArray⟩
      have hg4 := grown_trans hg3 (grown_set w2 g (j * 2 + 1) (.string ⟨(markS (k + 2 * j + 1)).toArray⟩))
      generalize (ByteArray.mk (markS (k + 2 * j + 1)).toArray) = x2 at *
      have HS2 := Lib.hid hst; have HG2 := Lib.hid hg4
      clear hown2 hst hg3 hg4 hb2 HS HG
      go_wp2
      go_roundw
      case rel => exact ⟨j + 1, by omega, by go_num, by go_num, ⟨_, HS2.out⟩, HG2.out⟩
      case measure => simp [intOf]; omega
    · have hjn : j = n := by omega
      subst hjn
      go_wp2
      go_ret
      exact ⟨rfl, hg⟩
end Go.Proofs.Ytahbnclangfkaaa
