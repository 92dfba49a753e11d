/- Walks: the drawing of places. -/
import Derived.Test.YtbhnjnoblkfckabDoorDraw3
import Derived.Test.YtbhnjnoblkfckabDoorUri
namespace Go.Proofs.YtbhnjnoblkfckabDoor
open Go.RowKit

set_option maxRecDepth 100000 in
set_option maxHeartbeats 1600000 in
theorem place_any (g B m : Nat) (w : World) (hm : m ≤ 800000) (h : RdAt w B g m) :
    Calls Tryd.prog 31 #[.pointer (some ⟨g, 0, none⟩)] w (DrawnStr 30 w B g (m + 3)) := by
  have hg := h.lt
  go_enter Tryd.func31, Tryd.ntmps31
  go_wp2_with fail
  refine (pick_any g 9 B m _ (by omega) (by omega) (h.alloc _)).mono ?_
  rintro e w1 ⟨r, rfl, hr, hd⟩
  obtain ⟨s, hs, hk⟩ := lit_str (K := 10) hd hg (by decide) r (by simp; omega)
  have hr7 : (r : Int) < 9 := by omega
  have hd' := hd.of_alloc
  clear hd hr
  go_wp2_with fail
  refine (pick_any g 4 B (m + 1) _ (by omega) (by omega) hd'.1).mono ?_
  rintro e w2 ⟨r2, rfl, hr2, hd2⟩
  clear hs
  by_cases h0 : r2 = 0
  · subst h0
    have hd3 := hd'.trans hd2
    clear hr2 hd2
    go_wp2_with fail
    refine (pick_any g 4 B (m + 1 + 1) _ (by omega) (by omega) (hd3.1.alloc _)).mono ?_
    rintro e w3 ⟨r3, rfl, hr3, hd4⟩
    obtain ⟨s2, hs2, hk2⟩ := lit_str (K := 20) hd4 hd3.1.lt (by decide) r3 (by simp; omega)
    have hr8 : (r3 : Int) < 4 := by omega
    have hd5 := hd3.trans hd4.of_alloc
    clear hd4 hr3
    go_wp2
    go_ret
    exact ⟨s ++ s2, rfl, by rw [bytes_app]; omega, hd5.mono (by omega)⟩
  · have hz : ((r2 : Int) == 0) = false := beq_eq_false_iff_ne.2 (by omega)
    clear h0 hr2
    go_wp2
    go_ret
    exact ⟨s, rfl, by omega, (hd'.trans hd2).mono (by omega)⟩

set_option maxRecDepth 100000 in
set_option maxHeartbeats 1600000 in
theorem raw_any (g B m : Nat) (w : World) (hm : m ≤ 700000) (h : RdAt w B g m) :
    Calls Tryd.prog 25 #[.pointer (some ⟨g, 0, none⟩)] w (DrawnStr 50 w B g (m + 8)) := by
  go_enter Tryd.func25, Tryd.ntmps25
  go_wp2_with fail
  refine (pick_any g 4 B m _ (by omega) (by omega) h).mono ?_
  rintro e w1 ⟨k, rfl, hk, hd1⟩
  have hk5 : k = 0 ∨ k = 1 ∨ (k = 2 ∨ k = 3) := by omega
  clear hk
  rcases hk5 with rfl | rfl | hk5
  · go_wp2_with fail
    refine (pick_any g 22 B (m + 1) _ (by omega) (by omega) (hd1.1.alloc _)).mono ?_
    rintro e w2 ⟨r, rfl, hr, hd2⟩
    obtain ⟨s, hs, hk⟩ := lit_str (K := 50) hd2 hd1.1.lt (by decide) r (by simp; omega)
    have hr7 : (r : Int) < 22 := by omega
    have hd' := hd1.trans hd2.of_alloc
    clear hd2 hr
    go_wp2
    go_ret
    exact ⟨s, rfl, hk, hd'.mono (by omega)⟩
  · go_wp2_with fail
    refine (place_any g B (m + 1) _ (by omega) hd1.1).mono ?_
    rintro e w2 ⟨s, rfl, hs, hd2⟩
    go_wp2_with fail
    refine (bent_any g B (m + 1 + 3) s _ (by omega) (by omega) hd2.1).mono ?_
    rintro e w3 ⟨s3, rfl, hs3, hd3⟩
    go_wp2
    go_ret
    exact ⟨s3, rfl, by omega, ((hd1.trans hd2).trans hd3).mono (by omega)⟩
  · have n0 : ((k : Int) == 0) = false := by simp; omega
    have n1 : ((k : Int) == 1) = false := by simp; omega
    go_wp2_with fail
    refine (place_any g B (m + 1) _ (by omega) hd1.1).mono ?_
    rintro e w2 ⟨s, rfl, hs, hd2⟩
    go_wp2
    go_ret
    exact ⟨s, rfl, by omega, (hd1.trans hd2).mono (by omega)⟩

end Go.Proofs.YtbhnjnoblkfckabDoor
