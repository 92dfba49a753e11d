/- Walks: the drawing of a line. -/
import Derived.Test.YtahbnclangfkaaaDoorDrawL2
namespace Go.Proofs.YtahbnclangfkaaaDoor
open Go.RowKit

def pads3 : Array Value := #[.string ⟨#[]⟩, .string ⟨#[32]⟩, .string ⟨#[32, 32, 32]⟩]
def pads2 : Array Value := #[.string ⟨#[]⟩, .string ⟨#[32]⟩]

set_option maxRecDepth 100000 in
set_option maxHeartbeats 3200000 in
theorem line_any (g B m : Nat) (w : World) (hm : m ≤ 500000) (h : RdAt w B g m) :
    Calls Tryd.prog 37 #[.pointer (some ⟨g, 0, none⟩)] w (DrawnStr 100 w B g (m + 200)) := by
  have hg := h.lt
  go_enter Tryd.func37, Tryd.ntmps37
  go_wp2_with fail
  refine (field_any g B m 99999 _ (by omega) (by omega) (by omega) h).mono ?_
  rintro e w1 ⟨s, t, rfl, hs, ht, hd1⟩
  obtain ⟨W0, hW0⟩ : ∃ W0, W0 = w1.alloc (.cells #[.string s, .string t] 24) := ⟨_, rfl⟩
  have hD0 : Drawn w W0 B g (m + 60) := by rw [hW0]; exact hd1.alloc _
  have hg1 := hd1.1.lt
  have hV : ∀ W M, Drawn W0 W B g M → W.cell? ⟨w1.heap.size, 0, none⟩ = some (.string s) ∧ W.cell? ⟨w1.heap.size, 1, none⟩ = some (.string t) := fun W M hW => by
    have r := block_keep (show w1.heap.size ≠ g by omega) (show W0.heap[w1.heap.size]? = some (.cells #[.string s, .string t] 24 (0, 0)) by rw [hW0]; exact heap_alloc_new w1 _) hW.2
    constructor <;> simp [World.cell?, r]
  have HV := Lib.hid hV; have HW0 := Lib.hid hW0
  clear hV hW0
  go_wp2_with fail
  rw [← HW0.out]
  refine wp_region_all (by kernel_rfl) 19 (by kernel_rfl) (by kernel_rfl)
    (fun u => { tmps := #[.pointer (some ⟨g, 0, none⟩), undef, .string ⟨#[]⟩, .pointer (some ⟨w1.heap.size, 0, none⟩), u 18, .pointer (some ⟨g, 0, none⟩), .agg #[.string s, .string t], u 0, u 1, u 2, u 3, u 4, u 5, u 6, u 7, u 8, u 9, u 10, u 11, u 12, u 13, u 14, u 15, u 16, u 17, undef, undef, undef, undef, undef, undef, undef, undef, undef, undef, undef, undef, undef, undef, undef], defers := [] })
    (CAtK W0 B g (m + 60) 1)
    (RAt [REq (.pointer (some ⟨w1.heap.size, 0, none⟩)), RStr 40, RStr 41, RLit g 3 pads3 9, REq (.pointer (some ⟨g, 0, none⟩)), RNum 3, RCell g 3, RStr 3, RStr 44, REq (.pointer (some ⟨w1.heap.size, 1, none⟩)), RStr 40, RStr 84, RLit g 2 pads2 9, REq (.pointer (some ⟨g, 0, none⟩)), RNum 2, RCell g 3, RStr 3, RStr 87, RStr 87])
    (fun w w' => w.grownBy w' (some g)) (fun _ => undef) ⟨(Drawn.refl hD0.1).drew, hD0.1.lt⟩
    (fun i v w w' _ hR hle => stay_at (g := g) (by exact ⟨stay_eq _ _, stay_str _ _, stay_str _ _, stay_lit _ _ _ _, stay_eq _ _, stay_num _ _, stay_cell _ _, stay_str _ _, stay_str _ _, stay_eq _ _, stay_str _ _, stay_str _ _, stay_lit _ _ _ _, stay_eq _ _, stay_num _ _, stay_cell _ _, stay_str _ _, stay_str _ _, stay_str _ _, trivial⟩) v w w' hR hle) ?_ ?_
  · intro i hi u w2 k hk hC hd
    have hlt := catk_lt hC
    match i, hi with
    | 0, _ =>
      refine wpOp_step rfl (fun K hK => ?_)
      clear hd
      go_simp
      exact hK _ _ ⟨_, rfl, rfl, World.grownBy.refl _ _, catk_same hC⟩
    | 1, _ =>
      have e0 : u 0 = .pointer (some ⟨w1.heap.size, 0, none⟩) := hd 0 (dep_of (by kernel_rfl))
      obtain ⟨c0, c1⟩ := HV.out w2 _ hC.1
      refine wpOp_step rfl (fun K hK => ?_)
      clear hd
      go_simp
      exact hK _ _ ⟨_, by simp [upd, e0], ⟨s, rfl, hs⟩, World.grownBy.refl _ _, catk_same hC⟩
    | 2, _ =>
      obtain ⟨x, ex, hx⟩ : RStr 40 (u 1) w2 := hd 1 (dep_of (by kernel_rfl))
      have hz : ¬ (9223372036854775807 < x.size + 1) := by omega
      refine wpOp_step rfl (fun K hK => ?_)
      clear hd
      go_simp
      refine hK _ _ ⟨.string (x ++ ⟨#[58]⟩), ?_, ⟨x ++ ⟨#[58]⟩, rfl, ?_⟩, World.grownBy.refl _ _, catk_same hC⟩
      · simp [upd, ex]
      · rw [bytes_app, one_size]; omega
    | 3, _ =>
      refine wpOp_step rfl (fun K hK => ?_)
      clear hd
      go_simp
      exact hK _ _ ⟨_, rfl, ⟨_, rfl, by omega, heap_alloc_new w2 _⟩, World.grownBy_alloc _ _ _, catk_alloc hC _⟩
    | 4, _ =>
      refine wpOp_step rfl (fun K hK => ?_)
      clear hd
      go_simp
      exact hK _ _ ⟨_, rfl, rfl, World.grownBy.refl _ _, catk_same hC⟩
    | 5, _ =>
      have e1 : u 4 = .pointer (some ⟨g, 0, none⟩) := hd 4 (dep_of (by kernel_rfl))
      refine wpOp_step rfl (fun K hK => ?_)
      clear hd
      go_simp
      refine (pick_lit g 3 3 rfl (by decide) B (m + 60 + 1 * k) _ (by omega) (by decide) hC.1.1).mono ?_
      rintro e w3 ⟨r, rfl, hr, -, hd2⟩
      exact hK _ _ ⟨_, by simp [upd, e1], ⟨r, rfl, hr⟩, hd2.2, catk_drawn hC hd2 (by omega)⟩
    | 6, _ =>
      obtain ⟨b, e0, hbg, hb⟩ : RLit g 3 pads3 9 (u 3) w2 := hd 3 (dep_of (by kernel_rfl))
      obtain ⟨r, e2, hr⟩ : RNum 3 (u 5) w2 := hd 5 (dep_of (by kernel_rfl))
      obtain ⟨x, hx, hk3⟩ := lit_at (K := 3) hb (by decide) (r := r) hr
      have hr6 : (r : Int) < 3 := by omega
      refine wpOp_step rfl (fun K hK => ?_)
      clear hd
      go_simp
      exact hK _ _ ⟨_, by simp [upd, e0, e2], ⟨b, r, x, rfl, hbg, hx, hk3⟩, World.grownBy.refl _ _, catk_same hC⟩
    | 7, _ =>
      obtain ⟨b, r, x, e3, hbg, hx, hk3⟩ : RCell g 3 (u 6) w2 := hd 6 (dep_of (by kernel_rfl))
      refine wpOp_step rfl (fun K hK => ?_)
      clear hd
      go_simp
      exact hK _ _ ⟨_, by simp [upd, e3], ⟨x, rfl, hk3⟩, World.grownBy.refl _ _, catk_same hC⟩
    | 8, _ =>
      obtain ⟨x, ex, hx⟩ : RStr 41 (u 2) w2 := hd 2 (dep_of (by kernel_rfl))
      obtain ⟨y, ey, hy⟩ : RStr 3 (u 7) w2 := hd 7 (dep_of (by kernel_rfl))
      have hz : ¬ (9223372036854775807 < x.size + y.size) := by omega
      refine wpOp_step rfl (fun K hK => ?_)
      clear hd
      go_simp
      refine hK _ _ ⟨.string (x ++ y), ?_, ⟨x ++ y, rfl, ?_⟩, World.grownBy.refl _ _, catk_same hC⟩
      · simp [upd, ex, ey]
      · rw [bytes_app]; omega
    | 9, _ =>
      refine wpOp_step rfl (fun K hK => ?_)
      clear hd
      go_simp
      exact hK _ _ ⟨_, rfl, rfl, World.grownBy.refl _ _, catk_same hC⟩
    | 10, _ =>
      have e9 : u 9 = .pointer (some ⟨w1.heap.size, 1, none⟩) := hd 9 (dep_of (by kernel_rfl))
      obtain ⟨c0, c1⟩ := HV.out w2 _ hC.1
      refine wpOp_step rfl (fun K hK => ?_)
      clear hd
      go_simp
      exact hK _ _ ⟨_, by simp [upd, e9], ⟨t, rfl, ht⟩, World.grownBy.refl _ _, catk_same hC⟩
    | 11, _ =>
      obtain ⟨x, ex, hx⟩ : RStr 44 (u 8) w2 := hd 8 (dep_of (by kernel_rfl))
      obtain ⟨y, ey, hy⟩ : RStr 40 (u 10) w2 := hd 10 (dep_of (by kernel_rfl))
      have hz : ¬ (9223372036854775807 < x.size + y.size) := by omega
      refine wpOp_step rfl (fun K hK => ?_)
      clear hd
      go_simp
      refine hK _ _ ⟨.string (x ++ y), ?_, ⟨x ++ y, rfl, ?_⟩, World.grownBy.refl _ _, catk_same hC⟩
      · simp [upd, ex, ey]
      · rw [bytes_app]; omega
    | 12, _ =>
      refine wpOp_step rfl (fun K hK => ?_)
      clear hd
      go_simp
      exact hK _ _ ⟨_, rfl, ⟨_, rfl, by omega, heap_alloc_new w2 _⟩, World.grownBy_alloc _ _ _, catk_alloc hC _⟩
    | 13, _ =>
      refine wpOp_step rfl (fun K hK => ?_)
      clear hd
      go_simp
      exact hK _ _ ⟨_, rfl, rfl, World.grownBy.refl _ _, catk_same hC⟩
    | 14, _ =>
      have e1 : u 13 = .pointer (some ⟨g, 0, none⟩) := hd 13 (dep_of (by kernel_rfl))
      refine wpOp_step rfl (fun K hK => ?_)
      clear hd
      go_simp
      refine (pick_lit g 2 2 rfl (by decide) B (m + 60 + 1 * k) _ (by omega) (by decide) hC.1.1).mono ?_
      rintro e w3 ⟨r, rfl, hr, -, hd2⟩
      exact hK _ _ ⟨_, by simp [upd, e1], ⟨r, rfl, hr⟩, hd2.2, catk_drawn hC hd2 (by omega)⟩
    | 15, _ =>
      obtain ⟨b, e0, hbg, hb⟩ : RLit g 2 pads2 9 (u 12) w2 := hd 12 (dep_of (by kernel_rfl))
      obtain ⟨r, e2, hr⟩ : RNum 2 (u 14) w2 := hd 14 (dep_of (by kernel_rfl))
      obtain ⟨x, hx, hk3⟩ := lit_at (K := 3) hb (by decide) (r := r) hr
      have hr6 : (r : Int) < 2 := by omega
      refine wpOp_step rfl (fun K hK => ?_)
      clear hd
      go_simp
      exact hK _ _ ⟨_, by simp [upd, e0, e2], ⟨b, r, x, rfl, hbg, hx, hk3⟩, World.grownBy.refl _ _, catk_same hC⟩
    | 16, _ =>
      obtain ⟨b, r, x, e3, hbg, hx, hk3⟩ : RCell g 3 (u 15) w2 := hd 15 (dep_of (by kernel_rfl))
      refine wpOp_step rfl (fun K hK => ?_)
      clear hd
      go_simp
      exact hK _ _ ⟨_, by simp [upd, e3], ⟨x, rfl, hk3⟩, World.grownBy.refl _ _, catk_same hC⟩
    | 17, _ =>
      obtain ⟨x, ex, hx⟩ : RStr 84 (u 11) w2 := hd 11 (dep_of (by kernel_rfl))
      obtain ⟨y, ey, hy⟩ : RStr 3 (u 16) w2 := hd 16 (dep_of (by kernel_rfl))
      have hz : ¬ (9223372036854775807 < x.size + y.size) := by omega
      refine wpOp_step rfl (fun K hK => ?_)
      clear hd
      go_simp
      refine hK _ _ ⟨.string (x ++ y), ?_, ⟨x ++ y, rfl, ?_⟩, World.grownBy.refl _ _, catk_same hC⟩
      · simp [upd, ex, ey]
      · rw [bytes_app]; omega
    | 18, _ =>
      have e17 : RStr 87 (u 17) w2 := hd 17 (dep_of (by kernel_rfl))
      refine wpOp_step rfl (fun K hK => ?_)
      clear hd
      go_simp
      exact hK _ _ ⟨_, rfl, e17, World.grownBy.refl _ _, catk_same hC⟩
    | n + 19, h19 => exact absurd h19 (by omega)
  · intro u w2 k hk hC hd
    obtain ⟨l, e18, hl⟩ : RStr 87 (u 18) w2 := hd 18 (by decide)
    have hD2 := (hD0.trans hC.1).mono (show m + 60 + 1 * k ≤ m + 80 by omega)
    have hrd := hD2.1
    clear hd hD0 hC hg1 hd1 HV HW0
    go_wp2_with fail
    refine (pick_lit g 6 6 rfl (by decide) B (m + 80) _ (by omega) (by decide) hrd).mono ?_
    rintro e w3 ⟨r, rfl, hr, -, hd3⟩
    have hD3 := hD2.trans hd3
    have hrd3 := hD3.1
    have hg3 := hrd3.lt
    have hr5 : r = 0 ∨ r = 1 ∨ 2 ≤ r := by omega
    clear hd3 hD2 hrd
    rcases hr5 with rfl | rfl | hr5
    · go_wp2_with fail
      refine (pick_lit g 8 8 rfl (by decide) B (m + 80 + 1) _ (by omega) (by decide) (hrd3.alloc _)).mono ?_
      rintro e w4 ⟨r2, rfl, hr2, hr2', hd4⟩
      obtain ⟨x, hx, hx40⟩ := lit_str (K := 40) hd4 hg3 (by decide) r2 (by simp; omega)
      have hD4 := hD3.trans hd4.of_alloc
      clear hd4 hD3 hrd3
      go_wp2
      go_ret
      exact ⟨x, rfl, by omega, hD4.mono (by omega)⟩
    · go_wp2_with fail
      refine (bent_any g B (m + 80 + 1) l _ (by omega) (by omega) hrd3).mono ?_
      rintro e w4 ⟨x, rfl, hx, hd4⟩
      have hD4 := hD3.trans hd4
      go_wp2
      go_ret
      exact ⟨x, rfl, by omega, hD4.mono (by omega)⟩
    · have n0 : ((r : Int) == 0) = false := by simp; omega
      have n1 : ((r : Int) == 1) = false := by simp; omega
      go_wp2
      go_ret
      exact ⟨l, by simp, by omega, hD3.mono (by omega)⟩

set_option maxHeartbeats 400000 in
theorem draw_fldread (a : Option Addr) (len cap : Nat) (zs : List Int) (w : World) (h : IsRow .u8 w a len cap zs) :
    Calls Tryd.prog 16 #[.slice a len cap] w fun e w' => ∃ s : ByteArray, e = .returned (.string s) ∧ s.size ≤ 100 ∧ Below w.heap.size w w' := by
  go_enter Tryd.func16, Tryd.ntmps16
  go_wp2_with fail
  refine (open_any a len cap zs w h).mono ?_
  rintro e w0 ⟨g, rfl, hr0, hb0⟩
  clear h
  go_wp2_with fail
  refine (line_any g w.heap.size 0 _ (by omega) hr0).mono ?_
  rintro e w1 ⟨s, rfl, hs, hd⟩
  have hbel := hb0.trans (hd.below hr0.lt)
  clear hd hr0
  go_wp2
  go_ret
  exact ⟨s, rfl, hs, hbel⟩
end Go.Proofs.YtahbnclangfkaaaDoor
