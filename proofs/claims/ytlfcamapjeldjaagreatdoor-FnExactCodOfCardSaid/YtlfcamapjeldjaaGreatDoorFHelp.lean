/- The laws' own helpers over lists of fields: sized, copied, equal, marked. -/
import Derived.Test.YtlfcamapjeldjaaGreatDoorVals
import Derived.Test.YtlfcamapjeldjaaGreatDoorEq
import Derived.Laws.MakeOwn
namespace Go.Proofs.YtlfcamapjeldjaaGreatDoor
open Go.RowKit Go.Maps

/-- How much is left behind a field. -/
def szF (f : Fd) (left : Int) : Int := if left - (f.1.size : Int) < 0 then -1 else if left - (f.1.size : Int) - (f.2.size : Int) < 0 then -1 else left - (f.1.size : Int) - (f.2.size : Int)

set_option maxHeartbeats 400000 in
theorem sz_field (f : Fd) (left : Int) (w : World) (h0 : 0 ≤ left) (h1 : left ≤ 1000000000) (hf : f.1.size ≤ maxLen ∧ f.2.size ≤ maxLen) :
    Calls Tryz.prog 29 #[.agg #[.string f.1, .string f.2], .int .i64 left] w fun e w' => e = .returned (.int .i64 (szF f left)) ∧ Below w.heap.size w w' := by
  obtain ⟨a, b⟩ := f
  obtain ⟨ha, hb⟩ := hf
  unfold maxLen at ha hb
  simp only at ha hb
  by_cases c1 : left - (a.size : Int) < 0
  · go_enter Tryz.func29, Tryz.ntmps29
    go_wp2
    go_ret
    exact ⟨by unfold szF; rw [if_pos (by simp only; omega)]; rfl, (Below.refl _ _).alloc (Nat.le_refl _) _⟩
  · by_cases c2 : left - (a.size : Int) - (b.size : Int) < 0
    · go_enter Tryz.func29, Tryz.ntmps29
      go_wp2
      go_ret
      exact ⟨by unfold szF; rw [if_neg (by simp only; omega), if_pos (by simp only; omega)]; rfl, (Below.refl _ _).alloc (Nat.le_refl _) _⟩
    · go_enter Tryz.func29, Tryz.ntmps29
      go_wp2
      go_ret
      exact ⟨by unfold szF; rw [if_neg (by simp only; omega), if_neg (by simp only; omega)]; rfl, (Below.refl _ _).alloc (Nat.le_refl _) _⟩

theorem szF_cases (f : Fd) (left : Int) : (szF f left < 0 ∧ szF f left = -1) ∨ (0 ≤ szF f left ∧ szF f left ≤ left ∧ (f.1.size : Int) ≤ left ∧ (f.2.size : Int) ≤ left) := by
  unfold szF
  split
  · exact .inl ⟨by omega, rfl⟩
  · split
    · exact .inl ⟨by omega, rfl⟩
    · exact .inr ⟨by omega, by omega, by omega, by omega⟩

set_option maxHeartbeats 800000 in
theorem sz_fields (v : Value) (fs : List Fd) (w : World) (hF : FRow w v fs) (hok : FOk fs maxLen) :
    Calls Tryz.prog 13 #[v, .int .i64 1048576] w fun e w' => (∃ r : Int, e = .returned (.int .i64 r) ∧ (r < 0 ∨ (0 ≤ r ∧ FOk fs 1048576 ∧ fs.length ≤ 1048576))) ∧ Below w.heap.size w w' := by
  obtain ⟨a, c, rfl, h1, h2, h3⟩ := hF
  unfold maxLen at h2
  have H3 := Lib.hid h3; have HOK := Lib.hid hok
  clear h3 hok
  by_cases hbig : 1048576 < fs.length
  · go_enter Tryz.func13, Tryz.ntmps13
    go_wp2
    go_ret
    exact ⟨⟨-1, rfl, .inl (by omega)⟩, Below.refl _ _⟩
  · go_enter Tryz.func13, Tryz.ntmps13
    go_wp2
    go_loopw [1, 5] (fun x i wr => ∃ (k : Nat) (r : Int), k ≤ fs.length ∧ i = .int .i64 k ∧ x = .int .i64 r ∧ 0 ≤ r ∧ r ≤ 1048576 ∧ Hid (∀ (j : Nat) (f : Fd), j < k → fs[j]? = some f → f.1.size ≤ 1048576 ∧ f.2.size ≤ 1048576) ∧ Below w.heap.size w wr) (fun _ i _ => fs.length - (intOf i).toNat)
    case atStart => exact ⟨0, _, Nat.zero_le _, rfl, rfl, by omega, by omega, Lib.hid (fun j f hj => by omega), Below.refl _ _⟩
    case round =>
      obtain ⟨k, r, hk, rfl, rfl, hr0, hr1, hall, hnx⟩ := hrel
      by_cases hlt : k < fs.length
      · obtain ⟨b1, o1, rfl, hb1, c1, c2⟩ := H3.out k fs[k] (List.getElem?_eq_getElem hlt)
        obtain ⟨f, hf⟩ : ∃ f, f = fs[k] := ⟨_, rfl⟩
        rw [← hf] at c1 c2
        have hfk : fs[k]? = some f := by rw [hf]; exact List.getElem?_eq_getElem hlt
        clear hf
        have hfo := HOK.out f (List.mem_of_getElem? hfk)
        have k1 := (hnx.cell (p := ⟨b1, o1 + k * 2, none⟩) hb1).trans c1
        have k2 := (hnx.cell (p := ⟨b1, o1 + k * 2 + 1, none⟩) hb1).trans c2
        have hc := sz_field f r
        have hz := szF_cases f r
        obtain ⟨nm, vl⟩ := f
        clear c1 c2
        have HK := Lib.hid hfk; clear hfk
        have HO := Lib.hid hfo; clear hfo
        generalize szF (nm, vl) r = q at hc hz
        simp only at hz
        have HC := Lib.hid hc; clear hc
        go_wp2_with fail
        refine (HC.out _ (by omega) (by omega) HO.out).mono ?_
        rintro e w1 ⟨rfl, hb1'⟩
        have hnx1 := hnx.trans (hb1'.mono hnx.size)
        rcases hz with ⟨hq, rfl⟩ | ⟨q1, q2, q3, q4⟩
        · go_wp2
          go_ret
          exact ⟨⟨-1, rfl, .inl (by omega)⟩, hnx1⟩
        · go_wp2
          go_roundw
          case rel =>
            refine ⟨k + 1, q, by omega, by go_num, rfl, q1, by omega, Lib.hid (fun j f hj hjf => ?_), hnx1⟩
            rcases Nat.lt_or_ge j k with h | h
            · exact hall.out j f h hjf
            · have : j = k := by omega
              subst this
              rw [HK.out] at hjf
              cases hjf
              simp only; omega
          case measure => simp [intOf]; omega
      · have hkn : k = fs.length := by omega
        subst hkn
        go_wp2
        go_ret
        refine ⟨⟨r, rfl, .inr ⟨hr0, fun f hf => ?_, by omega⟩⟩, hnx⟩
        obtain ⟨j, hj, hjf⟩ := List.getElem_of_mem hf
        exact hall.out j f hj (by rw [List.getElem?_eq_getElem hj, hjf])
end Go.Proofs.YtlfcamapjeldjaaGreatDoor
