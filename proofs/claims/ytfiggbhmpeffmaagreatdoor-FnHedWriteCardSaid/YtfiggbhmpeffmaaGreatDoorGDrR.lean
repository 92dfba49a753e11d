import Derived.Test.YtfiggbhmpeffmaaGreatDoorGByt
import Derived.Test.YtfiggbhmpeffmaaGreatDoorGdOk
-- from XDrR
/- Walks: the drawing of bytes. -/
namespace Go.Proofs.YtfiggbhmpeffmaaGreatDoor
open Go.RowKit

def strLeft (v : Value) : Nat := match v with | .string s => 5000 - s.size | _ => 0
theorem nine_size (t : ByteArray) : ((ByteArray.mk #[103, 101, 116, 32, 47, 10, 120, 58, 32]) ++ t).size = 9 + t.size := by
  rw [ByteArray.size_append]; rfl

set_option maxRecDepth 100000 in
set_option maxHeartbeats 3200000 in
theorem draw_hr (a : Option Addr) (len cap : Nat) (zs : List Int) (w : World) (h : IsRow .u8 w a len cap zs) :
    Calls Tryz.prog 12 #[.slice a len cap] w fun e w' => ∃ s : ByteArray, e = .returned (.string s) ∧ s.size ≤ 4200 ∧ Below w.heap.size w w' := by
  go_enter Tryz.func12, Tryz.ntmps12
  go_wp2_with fail
  refine (open_any a len cap zs w h).mono ?_
  rintro e w0 ⟨g, rfl, hr0, hb0⟩
  clear h
  have hlt := hr0.lt
  go_wp2_with fail
  refine (bytes_any g w.heap.size 0 w0 (by omega) hr0).mono ?_
  rintro e w1 ⟨s, rfl, hs, hd1⟩
  have hrd1 := hd1.1
  have HD1 := Lib.hid hd1
  have HB0 := Lib.hid hb0
  clear hd1 hb0 hr0
  go_wp2_with fail
  refine (odd_any g 20 w.heap.size 1200 _ (by omega) (by omega) (by omega) hrd1).mono ?_
  rintro e w2 ⟨b, rfl, hd2⟩
  have HD2 := Lib.hid (HD1.out.trans hd2)
  clear hd2 hrd1
  cases b
  · go_wp2_with fail
    go_ret
    exact ⟨s, rfl, by omega, HB0.out.trans (HD2.out.below hlt)⟩
  · go_wp2_with fail
    go_loopw [4] (fun x wr => ∃ t : ByteArray, x = .string t ∧ t.size ≤ 4100 ∧ Drawn w0 wr w.heap.size g (1300 + t.size)) (fun x _ => strLeft x)
    case atStart => exact ⟨s, rfl, hs, HD2.out.mono (by omega)⟩
    case round =>
      obtain ⟨t, rfl, ht, hdt⟩ := hrel
      have hrdt := hdt.1
      have HDt := Lib.hid hdt
      clear hdt
      go_wp2_with fail
      refine (pick_lit g 5 5 rfl (by decide) w.heap.size (1300 + t.size) _ (by omega) (by decide) hrdt).mono ?_
      rintro e w3 ⟨r, rfl, hr, hr2, hd3⟩
      have HD3 := Lib.hid (HDt.out.trans hd3)
      clear hd3 hrdt
      by_cases hlt2 : (t.size : Int) < 300 + (r : Int)
      · have hz : ¬ (9223372036854775807 < 9 + t.size) := by omega
        go_wp2
        go_roundw
        case rel => exact ⟨_, rfl, by rw [nine_size]; omega, HD3.out.mono (by rw [nine_size]; omega)⟩
        case measure => simp only [strLeft, nine_size]; omega
      · go_wp2
        go_ret
        exact ⟨t, rfl, by omega, HB0.out.trans (HD3.out.below hlt)⟩
end Go.Proofs.YtfiggbhmpeffmaaGreatDoor

