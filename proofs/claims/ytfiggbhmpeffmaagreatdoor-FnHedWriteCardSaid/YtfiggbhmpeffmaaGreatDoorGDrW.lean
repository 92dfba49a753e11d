import Derived.Test.YtfiggbhmpeffmaaGreatDoorGHdD
import Derived.Test.YtfiggbhmpeffmaaGreatDoorGdOk
-- from XDrawW
/- Walks: the drawing of requests to be written. -/
namespace Go.Proofs.YtfiggbhmpeffmaaGreatDoor
open Go.RowKit

set_option maxRecDepth 100000 in
set_option maxHeartbeats 1600000 in
theorem draw_hw (a : Option Addr) (len cap : Nat) (zs : List Int) (w : World) (h : IsRow .u8 w a len cap zs) :
    Calls Tryz.prog 11 #[.slice a len cap] w fun e w' => ∃ (hd : Hd) (a' : Option Addr) (c' : Nat), e = .returned (.agg #[.string hd.verb, .string hd.target, .string hd.host, .slice a' hd.fs.length c', .string hd.body]) ∧ w'.ownsRow w.heap.size 58 2 (.slice a' hd.fs.length c') hd.fs.length (fcells hd.fs) ∧ FOk hd.fs 40 ∧ hd.verb.size ≤ 50 ∧ hd.target.size ≤ 50 ∧ hd.host.size ≤ 50 ∧ hd.body.size ≤ 50 ∧ hd.fs.length ≤ 12 ∧ Below w.heap.size w w' := by
  have hA : Below w.heap.size w (w.alloc (.cells #[.string ⟨#[]⟩, .string ⟨#[]⟩, .string ⟨#[]⟩, .slice none 0 0, .string ⟨#[]⟩] 25)) := (Below.refl _ _).alloc (Nat.le_refl _) _
  have h' := isrow_below h hA
  go_enter Tryz.func11, Tryz.ntmps11
  go_wp2_with fail
  refine (open_any a len cap zs _ h').mono ?_
  rintro e w1 ⟨g, rfl, hr1, hb1⟩
  clear h h'
  have r1 := (hb1.block w.heap.size (by simp)).trans (heap_alloc_new w _)
  go_wp2_with fail
  refine (head_any g _ 0 5 _ (by omega) (by omega) (by omega) hr1).mono ?_
  rintro e w2 ⟨hd, v, rfl, ho, hok, b1, b2, b3, b4, hn, hd2⟩
  obtain ⟨a', c', rfl⟩ := own_len2 ho
  have hgl : w.heap.size < g := by have := hr1.1; simp at this; omega
  have r2 := block_keep (by omega) r1 hd2.2
  have hs1 : w.heap.size < w1.heap.size := by have := hr1.lt; omega
  have hbel : Below w.heap.size w w2 := (hA.trans (hb1.mono (by simp))).trans ((hd2.below hr1.lt).mono (by simp))
  have h1 := five_set r2 (.string hd.verb) (.string hd.target) (.string hd.host) (.slice a' hd.fs.length c') (.string hd.body)
  obtain ⟨k0, k1, k2, k3, k4, p0, p1, p2, p3, p4⟩ := five_facts r2
  obtain ⟨x0, x1, x2, x3, x4, _⟩ := five_facts h1
  have hF : Hid (Below w.heap.size w (set5 w2 w.heap.size (.string hd.verb) (.string hd.target) (.string hd.host) (.slice a' hd.fs.length c') (.string hd.body)) ∧ (set5 w2 w.heap.size (.string hd.verb) (.string hd.target) (.string hd.host) (.slice a' hd.fs.length c') (.string hd.body)).ownsRow w.heap.size 58 2 (.slice a' hd.fs.length c') hd.fs.length (fcells hd.fs)) := Lib.hid ⟨by unfold set5; exact ((((hbel.setCell (p := ⟨w.heap.size, 0, none⟩) (Nat.le_refl _) _).setCell (p := ⟨w.heap.size, 1, none⟩) (Nat.le_refl _) _).setCell (p := ⟨w.heap.size, 2, none⟩) (Nat.le_refl _) _).setCell (p := ⟨w.heap.size, 3, none⟩) (Nat.le_refl _) _).setCell (p := ⟨w.heap.size, 4, none⟩) (Nat.le_refl _) _, own_lower (own_setk (own_setk (own_setk (own_setk (own_setk ho hs1 _) hs1 _) hs1 _) hs1 _) hs1 _) (by omega)⟩
  unfold set5 at x0 x1 x2 x3 x4 hF
  clear r1 r2 h1 hbel hd2 hb1 hA ho hr1
  go_wp2
  exact bodyPost_ret (v := .agg #[.string hd.verb, .string hd.target, .string hd.host, .slice a' hd.fs.length c', .string hd.body]) (by simp [results, Tryz.results11, go_sem, x0, x1, x2, x3, x4]) rfl ⟨hd, a', c', rfl, hF.out.2, hok, b1, b2, b3, b4, hn, hF.out.1⟩
end Go.Proofs.YtfiggbhmpeffmaaGreatDoor

