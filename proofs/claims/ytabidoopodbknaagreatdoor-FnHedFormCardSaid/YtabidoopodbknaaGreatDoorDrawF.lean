/- Walks: the drawing of fields. -/
import Derived.Test.YtabidoopodbknaaGreatDoorRegR
namespace Go.Proofs.YtabidoopodbknaaGreatDoor
open Go.RowKit

set_option maxHeartbeats 400000 in
theorem value_any (g B m : Nat) (w : World) (hm : m ≤ 900000) (h : RdAt w B g m) :
    Calls Tryz.prog 12 #[.pointer (some ⟨g, 0, none⟩)] w (DrawnStr 40 w B g (m + 1)) := by
  have hg := h.lt
  go_enter Tryz.func12, Tryz.ntmps12
  go_wp2_with fail
  refine (pick_any g 9 B m _ (by omega) (by omega) (h.alloc _)).mono ?_
  rintro e w1 ⟨r, rfl, hr, hd⟩
  obtain ⟨s, hs, hk⟩ := lit_str (K := 40) hd hg (by decide) r (by simp; omega)
  have hr7 : (r : Int) < 9 := by omega
  have hd' := hd.of_alloc
  clear hd
  go_wp2
  go_ret
  exact ⟨s, rfl, hk, hd'⟩

def names6 : Array Value := #[.string ⟨#[97, 99, 99, 101, 112, 116]⟩, .string ⟨#[120, 45, 49]⟩, .string ⟨#[105, 102, 45, 110, 111, 110, 101]⟩, .string ⟨#[99, 111, 111, 107, 105, 101]⟩, .string ⟨#[115, 99, 111, 112, 101]⟩, .string ⟨#[98]⟩]

def DrawnFd (K : Nat) (w : World) (B g m : Nat) (e : Ending) (w' : World) : Prop := ∃ s t : ByteArray, e = .returned (.agg #[.string s, .string t]) ∧ s.size ≤ K ∧ t.size ≤ K ∧ Drawn w w' B g m

theorem drawn_set1 {w0 w : World} {B g m b : Nat} (h : Drawn w0 w B g m) (hgb : g < b) (hB : w0.heap.size ≤ b) (j : Nat) (x : Value) : Drawn w0 (w.setCell ⟨b, j, none⟩ x) B g m := by
  refine ⟨h.1.keep fun k hk => heap_setCell_other w ⟨b, j, none⟩ k _ (by simp; omega), ⟨h.2.os, h.2.tape, h.2.output, by simpa using h.2.size, fun k hk hne => ?_⟩⟩
  exact (heap_setCell_other w ⟨b, j, none⟩ k _ (by simp; omega)).trans (h.2.block k hk hne)
theorem drawn_set2 {w0 w : World} {B g m b : Nat} {x y : Value} (h : Drawn w0 w B g m) (hgb : g < b) (hB : w0.heap.size ≤ b) : Drawn w0 ((w.setCell ⟨b, 0, none⟩ x).setCell ⟨b, 1, none⟩ y) B g m := drawn_set1 (drawn_set1 h hgb hB 0 x) hgb hB 1 y

end Go.Proofs.YtabidoopodbknaaGreatDoor
