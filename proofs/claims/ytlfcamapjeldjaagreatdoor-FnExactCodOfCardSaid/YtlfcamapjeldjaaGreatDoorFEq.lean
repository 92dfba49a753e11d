/- The laws' own helpers over lists of fields: equal, marked. -/
import Derived.Test.YtlfcamapjeldjaaGreatDoorFCopy
namespace Go.Proofs.YtlfcamapjeldjaaGreatDoor
open Go.RowKit Go.Maps

theorem str_refl (a : ByteArray) : (a.toList != a.toList) = false := by simp

set_option maxHeartbeats 400000 in
theorem eq_field (f : Fd) (w : World) :
    Calls Tryz.prog 31 #[.agg #[.string f.1, .string f.2], .agg #[.string f.1, .string f.2]] w fun e w' => e = .returned (.bool true) ∧ Below w.heap.size w w' := by
  obtain ⟨a, b⟩ := f
  go_enter Tryz.func31, Tryz.ntmps31
  go_wp2
  go_ret
  exact ⟨rfl, ((Below.refl _ _).alloc (Nat.le_refl _) _).alloc (by simp) _⟩

set_option maxHeartbeats 1600000 in
theorem eq_fields (v1 v2 : Value) (fs : List Fd) (w : World) (hF1 : FRow w v1 fs) (hF2 : FRow w v2 fs) (hn : fs.length ≤ 2000000) :
    Calls Tryz.prog 15 #[v1, v2] w fun e w' => e = .returned (.bool true) ∧ Below w.heap.size w w' := by
  obtain ⟨a1, c1, rfl, _, _, h1⟩ := hF1
  obtain ⟨a2, c2, rfl, _, _, h2⟩ := hF2
  have H1 := Lib.hid h1; have H2 := Lib.hid h2; clear h1 h2
  go_enter Tryz.func15, Tryz.ntmps15
  go_wp2
  go_loopw [5] (fun i wr => ∃ k : Nat, k ≤ fs.length ∧ i = .int .i64 k ∧ Below w.heap.size w wr) (fun i _ => fs.length - (intOf i).toNat)
  case atStart => exact ⟨0, Nat.zero_le _, rfl, Below.refl _ _⟩
  case round =>
    obtain ⟨k, hk, rfl, hnx⟩ := hrel
    by_cases hlt : k < fs.length
    · obtain ⟨b1, o1, rfl, hb1, c1, d1⟩ := H1.out k fs[k] (List.getElem?_eq_getElem hlt)
      obtain ⟨b2, o2, rfl, hb2, c2, d2⟩ := H2.out k fs[k] (List.getElem?_eq_getElem hlt)
      generalize fs[k] = f at *
      have hc := eq_field f
      have HC : ∀ W, Below w.heap.size w W → W.cell? ⟨b1, o1 + k * 2, none⟩ = some (.string f.1) ∧ W.cell? ⟨b1, o1 + k * 2 + 1, none⟩ = some (.string f.2) ∧ W.cell? ⟨b2, o2 + k * 2, none⟩ = some (.string f.1) ∧ W.cell? ⟨b2, o2 + k * 2 + 1, none⟩ = some (.string f.2) := fun W hW =>
        ⟨(hW.cell (p := ⟨b1, o1 + k * 2, none⟩) hb1).trans c1, (hW.cell (p := ⟨b1, o1 + k * 2 + 1, none⟩) hb1).trans d1, (hW.cell (p := ⟨b2, o2 + k * 2, none⟩) hb2).trans c2, (hW.cell (p := ⟨b2, o2 + k * 2 + 1, none⟩) hb2).trans d2⟩
      obtain ⟨k1, k2, k3, k4⟩ := HC wr hnx
      clear c1 c2 d1 d2 HC H1 H2
      obtain ⟨nm, vl⟩ := f
      simp only at k1 k2 k3 k4 hc
      have HE := Lib.hid hc; clear hc
      have i1 : (k : Int) < (fs.length : Int) := by omega
      have hs := hnx.size
      have HN := Lib.hid hnx; clear hnx
      go_wp2_with fail
      go_region_with (go_at_call 31; refine (HE.out _).mono ?_; rintro e w1 ⟨rfl, hbx⟩; have hbz := HN.out.trans (below_drew_left (hbx.mono hs)))
      all_goals go_wp2
      all_goals go_roundw
      all_goals first
        | (case rel => exact ⟨k + 1, by omega, by go_num, hbz⟩)
        | (simp [intOf]; omega)
    · have hkn : k = fs.length := by omega
      subst hkn
      go_wp2
      go_ret
      exact ⟨rfl, hnx⟩

end Go.Proofs.YtlfcamapjeldjaaGreatDoor
