/- Walks: the drawing of hosts. -/
import Derived.Test.YtmhnapaldicfdaaDoorDraw3
namespace Go.Proofs.YtmhnapaldicfdaaDoor
open Go.RowKit

set_option maxHeartbeats 400000 in
theorem host_any (g B m : Nat) (w : World) (hm : m ≤ 1000000) (h : RdAt w B g m) :
    Calls Tryd.prog 11 #[.pointer (some ⟨g, 0, none⟩)] w (DrawnStr 20 w B g (m + 1)) := by
  have hg := h.lt
  go_enter Tryd.func11, Tryd.ntmps11
  go_wp2_with fail
  refine (pick_any g 5 B m _ hm (by omega) (h.alloc _)).mono ?_
  rintro e w1 ⟨r, rfl, hr, hd⟩
  obtain ⟨s, hs, hk⟩ := lit_str (K := 20) hd hg (by decide) r (by simp; omega)
  have hr7 : (r : Int) < 5 := by omega
  have hd' := hd.of_alloc
  clear hd
  go_wp2
  go_ret
  exact ⟨s, rfl, hk, hd'⟩

set_option maxHeartbeats 1600000 in
theorem draw_host (a : Option Addr) (len cap : Nat) (zs : List Int) (w : World) (h : IsRow .u8 w a len cap zs) :
    Calls Tryd.prog 5 #[.slice a len cap] w fun e w' => ∃ s : ByteArray, e = .returned (.string s) ∧ s.size ≤ 50 ∧ Below w.heap.size w w' := by
  go_enter Tryd.func5, Tryd.ntmps5
  go_wp2_with fail
  refine (open_any a len cap zs w h).mono ?_
  rintro e w0 ⟨g, rfl, hr0, hb0⟩
  clear h
  go_wp2_with fail
  refine (host_any g w.heap.size 0 _ (by omega) hr0).mono ?_
  rintro e w1 ⟨s, rfl, hs, hd1⟩
  go_wp2_with fail
  refine (pick_any g 4 w.heap.size (0 + 1) _ (by omega) (by omega) hd1.1).mono ?_
  rintro e w2 ⟨k, rfl, hk, hd2⟩
  have hlt := hr0.lt
  have hd3 := hd1.trans hd2
  have hk4 : k = 0 ∨ k = 1 ∨ k = 2 ∨ k = 3 := by omega
  clear hk hd1 hd2
  rcases hk4 with rfl | rfl | rfl | rfl
  · go_wp2_with fail
    refine (pick_any g 12 w.heap.size (0 + 1 + 1) _ (by omega) (by omega) (hd3.1.alloc _)).mono ?_
    rintro e w3 ⟨r, rfl, hr, hd4⟩
    obtain ⟨x, hx, hxk⟩ := lit_str (K := 50) hd4 hd3.1.lt (by decide) r (by simp; omega)
    have hr7 : (r : Int) < 12 := by omega
    have hd5 := hd3.trans hd4.of_alloc
    clear hd4 hr
    go_wp2
    go_ret
    exact ⟨x, rfl, hxk, hb0.trans (hd5.below hlt)⟩
  · go_wp2_with fail
    refine (bent_any g w.heap.size (0 + 1 + 1) s _ (by omega) (by omega) hd3.1).mono ?_
    rintro e w3 ⟨x, rfl, hx, hd4⟩
    go_wp2
    go_ret
    exact ⟨x, rfl, by omega, hb0.trans ((hd3.trans hd4).below hlt)⟩
  · go_wp2
    go_ret
    exact ⟨_, rfl, by rw [ByteArray.size_append]; have : (ByteArray.mk #[58, 56, 48]).size = 3 := rfl; omega, hb0.trans (hd3.below hlt)⟩
  · go_wp2
    go_ret
    exact ⟨s, rfl, by omega, hb0.trans (hd3.below hlt)⟩
end Go.Proofs.YtmhnapaldicfdaaDoor
