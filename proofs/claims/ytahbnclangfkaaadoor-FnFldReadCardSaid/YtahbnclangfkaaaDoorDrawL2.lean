/- Walks: the draws of chapter 3. -/
import Derived.Test.YtahbnclangfkaaaDoorDrawL
import Derived.Test.YtahbnclangfkaaaDoorGdOk
namespace Go.Proofs.YtahbnclangfkaaaDoor
open Go.RowKit

def RFlds (g K : Nat) : Value → World → Prop := fun v w => ∃ fs, FRowA g w v fs ∧ FOk fs K ∧ fs.length ≤ 4
theorem stay_flds (g K : Nat) : Stay g (RFlds g K) := fun _ _ _ ⟨fs, h1, h2, h3⟩ hg => ⟨fs, h1.keep hg, h2, h3⟩
def names4 : Array Value := #[.string ⟨#[97, 99, 99, 101, 112, 116]⟩, .string ⟨#[120, 45, 49]⟩, .string ⟨#[99, 111, 111, 107, 105, 101]⟩, .string ⟨#[110, 111, 110, 101]⟩]

set_option maxRecDepth 100000 in
set_option maxHeartbeats 1600000 in
theorem draw_fldall (a : Option Addr) (len cap : Nat) (zs : List Int) (w : World) (h : IsRow .u8 w a len cap zs) :
    Calls Tryd.prog 18 #[.slice a len cap] w fun e w' => ∃ v fs s, e = .returned (.tuple #[v, .string s]) ∧ FRow w' v fs ∧ FOk fs 40 ∧ fs.length ≤ 4 ∧ s.size ≤ 40 ∧ Below w.heap.size w w' := by
  go_enter Tryd.func18, Tryd.ntmps18
  go_wp2_with fail
  refine (open_any a len cap zs w h).mono ?_
  rintro e w0 ⟨g, rfl, hr0, hb0⟩
  clear h
  go_wp2_with fail
  refine wp_region_all (by kernel_rfl) 9 (by kernel_rfl) (by kernel_rfl)
    (fun u => { tmps := #[.slice a len cap, undef, u 7, u 8, .pointer (some ⟨g, 0, none⟩), .slice a len cap, .pointer (some ⟨g, 0, none⟩), u 0, u 1, u 2, u 3, u 4, u 5, u 6], defers := [] })
    (CAtK w0 w.heap.size g 0 300)
    (RAt [REq (.pointer (some ⟨g, 0, none⟩)), RFlds g 40, RLit g 4 names4 9, REq (.pointer (some ⟨g, 0, none⟩)), RNum 4, RCell g 40, RStr 40, RFlds g 40, RStr 40])
    (fun w w' => w.grownBy w' (some g)) (fun i => if i = 7 then .slice none 0 0 else if i = 8 then .string ⟨#[]⟩ else undef) ⟨(Drawn.refl hr0).drew, hr0.lt⟩
    (fun i v w w' _ hR hle => stay_at (g := g) (by exact ⟨stay_eq _ _, stay_flds _ _, stay_lit _ _ _ _, stay_eq _ _, stay_num _ _, stay_cell _ _, stay_str _ _, stay_flds _ _, stay_str _ _, trivial⟩) v w w' hR hle) ?_ ?_
  · intro i hi u w1 k hk hC hd
    have hlt := catk_lt hC
    match i, hi with
    | 0, _ =>
      refine wpOp_step rfl (fun K hK => ?_)
      clear hd
      go_simp
      exact hK _ _ ⟨_, rfl, rfl, World.grownBy.refl _ _, catk_same hC⟩
    | 1, _ =>
      have e0 : u 0 = .pointer (some ⟨g, 0, none⟩) := hd 0 (dep_of (by kernel_rfl))
      refine wpOp_step rfl (fun K hK => ?_)
      clear hd
      go_simp
      refine (fields_any g w.heap.size (0 + 300 * k) 9 _ (by omega) (by omega) (by omega) hC.1.1).mono ?_
      rintro e w2 ⟨v, fs, rfl, h1, h2, h3, hd2⟩
      exact hK _ _ ⟨v, by simp [upd, e0], ⟨fs, h1, h2, h3⟩, hd2.2, catk_drawn hC hd2 (by omega)⟩
    | 2, _ =>
      refine wpOp_step rfl (fun K hK => ?_)
      clear hd
      go_simp
      exact hK _ _ ⟨_, rfl, ⟨_, rfl, by omega, heap_alloc_new w1 _⟩, World.grownBy_alloc _ _ _, catk_alloc hC _⟩
    | 3, _ =>
      refine wpOp_step rfl (fun K hK => ?_)
      clear hd
      go_simp
      exact hK _ _ ⟨_, rfl, rfl, World.grownBy.refl _ _, catk_same hC⟩
    | 4, _ =>
      have e3 : u 3 = .pointer (some ⟨g, 0, none⟩) := hd 3 (dep_of (by kernel_rfl))
      refine wpOp_step rfl (fun K hK => ?_)
      clear hd
      go_simp
      refine (pick_lit g 4 4 rfl (by decide) w.heap.size (0 + 300 * k) _ (by omega) (by decide) hC.1.1).mono ?_
      rintro e w2 ⟨r, rfl, hr, -, hd2⟩
      exact hK _ _ ⟨_, by simp [upd, e3], ⟨r, rfl, hr⟩, hd2.2, catk_drawn hC hd2 (by omega)⟩
    | 5, _ =>
      obtain ⟨b, e2, hbg, hb⟩ : RLit g 4 names4 9 (u 2) w1 := hd 2 (dep_of (by kernel_rfl))
      obtain ⟨r, e4, hr⟩ : RNum 4 (u 4) w1 := hd 4 (dep_of (by kernel_rfl))
      obtain ⟨s, hs, hk40⟩ := lit_at (K := 40) hb (by decide) (r := r) hr
      have hr6 : (r : Int) < 4 := by omega
      refine wpOp_step rfl (fun K hK => ?_)
      clear hd
      go_simp
      exact hK _ _ ⟨_, by simp [upd, e2, e4], ⟨b, r, s, rfl, hbg, hs, hk40⟩, World.grownBy.refl _ _, catk_same hC⟩
    | 6, _ =>
      obtain ⟨b, r, s, e5, hbg, hs, hk40⟩ : RCell g 40 (u 5) w1 := hd 5 (dep_of (by kernel_rfl))
      refine wpOp_step rfl (fun K hK => ?_)
      clear hd
      go_simp
      exact hK _ _ ⟨_, by simp [upd, e5], ⟨s, rfl, hk40⟩, World.grownBy.refl _ _, catk_same hC⟩
    | 7, _ =>
      have e1 : RFlds g 40 (u 1) w1 := hd 1 (dep_of (by kernel_rfl))
      refine wpOp_step rfl (fun K hK => ?_)
      clear hd
      go_simp
      exact hK _ _ ⟨_, rfl, e1, World.grownBy.refl _ _, catk_same hC⟩
    | 8, _ =>
      have e1 : RStr 40 (u 6) w1 := hd 6 (dep_of (by kernel_rfl))
      refine wpOp_step rfl (fun K hK => ?_)
      clear hd
      go_simp
      exact hK _ _ ⟨_, rfl, e1, World.grownBy.refl _ _, catk_same hC⟩
  · intro u w1 k hk hC hd
    obtain ⟨fs, h1, h2, h3⟩ : RFlds g 40 (u 7) w1 := hd 7 (by decide)
    obtain ⟨s, e8, hs⟩ : RStr 40 (u 8) w1 := hd 8 (by decide)
    have hbel := hb0.trans ((hC.1.below hC.2))
    clear hd
    go_wp2
    go_ret2
    exact ⟨u 7, fs, s, by simp [e8], h1.row, h2, h3, hs, hbel⟩

set_option maxRecDepth 100000 in
set_option maxHeartbeats 1600000 in
theorem draw_fldtext (a : Option Addr) (len cap : Nat) (zs : List Int) (w : World) (h : IsRow .u8 w a len cap zs) :
    Calls Tryd.prog 9 #[.slice a len cap] w fun e w' => ∃ s t : ByteArray, e = .returned (.agg #[.string s, .string t]) ∧ s.size ≤ 40 ∧ t.size ≤ 40 ∧ Below w.heap.size w w' := by
  have hA : Below w.heap.size w (w.alloc (.cells #[.string ⟨#[]⟩, .string ⟨#[]⟩] 24)) := (Below.refl _ _).alloc (Nat.le_refl _) _
  have h' := isrow_below h hA
  go_enter Tryd.func9, Tryd.ntmps9
  go_wp2_with fail
  refine (open_any a len cap zs _ h').mono ?_
  rintro e w1 ⟨g, rfl, hr1, hb1⟩
  clear h h'
  have r1 := (hb1.block w.heap.size (by simp)).trans (heap_alloc_new w _)
  go_wp2_with fail
  refine (field_any g _ 0 5 _ (by omega) (by omega) (by omega) hr1).mono ?_
  rintro e w2 ⟨s, t, rfl, hs, ht, hd2⟩
  have hgl : w.heap.size < g := by have := hr1.1; simp at this; omega
  have r2 := block_keep (by omega) r1 hd2.2
  have hbel : Below w.heap.size w w2 := (hA.trans (hb1.mono (by simp))).trans ((hd2.below hr1.lt).mono (by simp))
  have h1 := heap_setCell_same w2 w.heap.size 0 _ _ (.string s) r2
  have h2 := heap_setCell_same _ w.heap.size 1 _ _ (.string t) h1
  have k0 : w2.cell? ⟨w.heap.size, 0, none⟩ = some (.string ⟨#[]⟩) := by simp [World.cell?, r2]
  have k1 : w2.cell? ⟨w.heap.size, 1, none⟩ = some (.string ⟨#[]⟩) := by simp [World.cell?, r2]
  have k2 : w2.frozen? ⟨w.heap.size, 0, none⟩ = false := by simp [World.frozen?, r2]
  have k3 : w2.frozen? ⟨w.heap.size, 1, none⟩ = false := by simp [World.frozen?, r2]
  have k8 : ((w2.setCell ⟨w.heap.size, 0, none⟩ (.string s)).setCell ⟨w.heap.size, 1, none⟩ (.string t)).cell? ⟨w.heap.size, 0, none⟩ = some (.string s) := by simp [World.cell?, h2]
  have k9 : ((w2.setCell ⟨w.heap.size, 0, none⟩ (.string s)).setCell ⟨w.heap.size, 1, none⟩ (.string t)).cell? ⟨w.heap.size, 1, none⟩ = some (.string t) := by simp [World.cell?, h2]
  have HB := Lib.hid (below_set (below_set hbel (k := 0) (x := .string s)) (k := 1) (x := .string t))
  clear r1 r2 h1 h2 hbel hd2 hb1 hr1 hA
  go_wp2
  exact bodyPost_ret (v := .agg #[.string s, .string t]) (by simp [results, Tryd.results9, go_sem, k8, k9]) rfl ⟨s, t, rfl, hs, ht, HB.out⟩
end Go.Proofs.YtahbnclangfkaaaDoor
