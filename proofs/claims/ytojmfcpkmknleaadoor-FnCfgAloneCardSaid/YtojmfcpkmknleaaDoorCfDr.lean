/- Walks: what the laws on houses draw. -/
import Derived.Test.YtojmfcpkmknleaaDoorCfO
import Derived.Test.YtojmfcpkmknleaaDoorGdOkD
namespace Go.Proofs.YtojmfcpkmknleaaDoor
open Go.RowKit

set_option maxHeartbeats 400000 in
theorem host_anyC (g B m : Nat) (w : World) (hm : m ≤ 1000000) (h : RdAt w B g m) :
    Calls Tryd.prog 26 #[.pointer (some ⟨g, 0, none⟩)] w (DrawnStr 20 w B g (m + 1)) := by
  have hg := h.lt
  go_enter Tryd.func26, Tryd.ntmps26
  go_wp2_with fail
  refine (pick_any g 5 B m _ hm (by omega) (h.alloc _)).mono ?_
  rintro e w1 ⟨r, rfl, hr, hd⟩
  obtain ⟨s, hs, hk⟩ := lit_str (K := 20) hd hg (by decide) r (by simp; omega)
  have hr7 : (r : Int) < 5 := by omega
  have hd' := hd.of_alloc
  clear hd
  go_wp2
  go_ret
  exact ⟨s, rfl, hk, hd'⟩
theorem hrow_form {g : Nat} {w : World} {v : Value} {hs : List Hs} (h : HRowA g w v hs) : ∃ a c, v = .slice a hs.length c := by
  obtain ⟨a, c, rfl, _⟩ := h
  exact ⟨a, c, rfl⟩

set_option maxRecDepth 100000 in
set_option maxHeartbeats 1600000 in
theorem draw_route (a : Option Addr) (len cap : Nat) (zs : List Int) (w : World) (h : IsRow .u8 w a len cap zs) :
    Calls Tryd.prog 9 #[.slice a len cap] w fun e w' => ∃ (hs : List Hs) (a' : Option Addr) (c' : Nat) (s : ByteArray), e = .returned (.tuple #[.agg #[.slice a' hs.length c'], .string s]) ∧ HRow w' (.slice a' hs.length c') hs ∧ (∀ h ∈ hs, HSm3 h) ∧ hs.length ≤ 5 ∧ s.size ≤ 20 ∧ Below w.heap.size w w' := by
  have hA : Below w.heap.size w (w.alloc (.cells #[.slice none 0 0] 25)) := (Below.refl _ _).alloc (Nat.le_refl _) _
  have h' := isrow_below h hA
  go_enter Tryd.func9, Tryd.ntmps9
  go_wp2_with fail
  refine (open_any a len cap zs _ h').mono ?_
  rintro e w1 ⟨g, rfl, hr1, hb1⟩
  clear h h'
  have r1 := (hb1.block w.heap.size (by simp)).trans (heap_alloc_new w _)
  go_wp2_with fail
  refine (cfgor_any g _ 0 9 _ (by omega) (by omega) hr1).mono ?_
  rintro e w2 ⟨hs, v, rfl, hrow, hok, hl, hd2⟩
  obtain ⟨a', c', rfl⟩ := hrow_form hrow
  have hgl : w.heap.size < g := by have := hr1.1; simp at this; omega
  have r2 := block_keep (by omega) r1 hd2.2
  have hrd2 := hd2.1
  go_wp2_with fail
  refine (host_anyC g _ (0 + 400) _ (by omega) hrd2).mono ?_
  rintro e w3 ⟨s, rfl, hss, hd3⟩
  have hrow3 := hrow.keep hd3.2
  have r3 := block_keep (by omega) r2 hd3.2
  have hbel : Below w.heap.size w w3 := (hA.trans (hb1.mono (by simp))).trans (((hd2.trans hd3).below hr1.lt).mono (by simp))
  have h1 := heap_setCell_same w3 w.heap.size 0 _ _ (.slice a' hs.length c') r3
  obtain ⟨k0, p0⟩ := one_factC r3
  obtain ⟨x0, _⟩ := one_factC h1
  have hF : Hid (Below w.heap.size w (w3.setCell ⟨w.heap.size, 0, none⟩ (.slice a' hs.length c')) ∧ HRow (w3.setCell ⟨w.heap.size, 0, none⟩ (.slice a' hs.length c')) (.slice a' hs.length c') hs) :=
    Lib.hid ⟨hbel.setCell (p := ⟨w.heap.size, 0, none⟩) (Nat.le_refl _) _, (hrow3.set r3 0 _).row⟩
  clear r1 r2 r3 h1 hbel hd2 hd3 hb1 hA hrow hrow3 hr1 hrd2
  go_wp2
  exact bodyPost_ret (v := .tuple #[.agg #[.slice a' hs.length c'], .string s]) (by simp [results, Tryd.results9, go_sem, x0]) rfl ⟨hs, a', c', s, rfl, hF.out.2, hok, hl, hss, hF.out.1⟩

set_option maxRecDepth 100000 in
set_option maxHeartbeats 1600000 in
theorem draw_alone (a : Option Addr) (len cap : Nat) (zs : List Int) (w : World) (h : IsRow .u8 w a len cap zs) :
    Calls Tryd.prog 15 #[.slice a len cap] w fun e w' => ∃ (hs : List Hs) (a' : Option Addr) (c' : Nat) (r : Nat), e = .returned (.tuple #[.agg #[.slice a' hs.length c'], .int .i64 ((r : Int) - 1)]) ∧ HRow w' (.slice a' hs.length c') hs ∧ (∀ h ∈ hs, HSm3 h) ∧ hs.length ≤ 5 ∧ r < 5 ∧ Below w.heap.size w w' := by
  have hA : Below w.heap.size w (w.alloc (.cells #[.slice none 0 0] 25)) := (Below.refl _ _).alloc (Nat.le_refl _) _
  have h' := isrow_below h hA
  go_enter Tryd.func15, Tryd.ntmps15
  go_wp2_with fail
  refine (open_any a len cap zs _ h').mono ?_
  rintro e w1 ⟨g, rfl, hr1, hb1⟩
  clear h h'
  have r1 := (hb1.block w.heap.size (by simp)).trans (heap_alloc_new w _)
  go_wp2_with fail
  refine (cfgor_any g _ 0 9 _ (by omega) (by omega) hr1).mono ?_
  rintro e w2 ⟨hs, v, rfl, hrow, hok, hl, hd2⟩
  obtain ⟨a', c', rfl⟩ := hrow_form hrow
  have hgl : w.heap.size < g := by have := hr1.1; simp at this; omega
  have r2 := block_keep (by omega) r1 hd2.2
  have hrd2 := hd2.1
  go_wp2_with fail
  refine (pick_lit g 5 5 rfl (by decide) _ (0 + 400) _ (by omega) (by decide) hrd2).mono ?_
  rintro e w3 ⟨r, rfl, hr, hr', hd3⟩
  have hrow3 := hrow.keep hd3.2
  have r3 := block_keep (by omega) r2 hd3.2
  have hbel : Below w.heap.size w w3 := (hA.trans (hb1.mono (by simp))).trans (((hd2.trans hd3).below hr1.lt).mono (by simp))
  have h1 := heap_setCell_same w3 w.heap.size 0 _ _ (.slice a' hs.length c') r3
  obtain ⟨k0, p0⟩ := one_factC r3
  obtain ⟨x0, _⟩ := one_factC h1
  have hF : Hid (Below w.heap.size w (w3.setCell ⟨w.heap.size, 0, none⟩ (.slice a' hs.length c')) ∧ HRow (w3.setCell ⟨w.heap.size, 0, none⟩ (.slice a' hs.length c')) (.slice a' hs.length c') hs) :=
    Lib.hid ⟨hbel.setCell (p := ⟨w.heap.size, 0, none⟩) (Nat.le_refl _) _, (hrow3.set r3 0 _).row⟩
  clear r1 r2 r3 h1 hbel hd2 hd3 hb1 hA hrow hrow3 hr1 hrd2
  go_wp2
  exact bodyPost_ret (v := .tuple #[.agg #[.slice a' hs.length c'], .int .i64 ((r : Int) - 1)]) (by simp [results, Tryd.results15, go_sem, x0]) rfl ⟨hs, a', c', r, rfl, hF.out.2, hok, hl, hr, hF.out.1⟩
end Go.Proofs.YtojmfcpkmknleaaDoor
