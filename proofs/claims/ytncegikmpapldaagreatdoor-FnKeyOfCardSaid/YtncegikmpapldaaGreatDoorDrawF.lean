/- Walks: the drawing of fields. -/
import Derived.Test.YtncegikmpapldaaGreatDoorRegR
namespace Go.Proofs.YtncegikmpapldaaGreatDoor
open Go.RowKit

set_option maxHeartbeats 400000 in
theorem value_any (g B m : Nat) (w : World) (hm : m ≤ 900000) (h : RdAt w B g m) :
    Calls Tryz.prog 131 #[.pointer (some ⟨g, 0, none⟩)] w (DrawnStr 40 w B g (m + 1)) := by
  have hg := h.lt
  go_enter Tryz.func131, Tryz.ntmps131
  go_wp2_with fail
  refine (pick_any g 9 B m _ (by omega) (by omega) (h.alloc _)).mono ?_
  rintro e w1 ⟨r, rfl, hr, hd⟩
  obtain ⟨s, hs, hk⟩ := lit_str (K := 40) hd hg (by decide) r (by simp; omega)
  have hr7 : (r : Int) < 9 := by omega
  have hd' := hd.of_alloc
  clear hd
  go_wp2
  go_ret
  exact ⟨s, rfl, hk, hd'⟩

def names6 : Array Value := #[.string ⟨#[97, 99, 99, 101, 112, 116]⟩, .string ⟨#[120, 45, 49]⟩, .string ⟨#[105, 102, 45, 110, 111, 110, 101]⟩, .string ⟨#[99, 111, 111, 107, 105, 101]⟩, .string ⟨#[115, 99, 111, 112, 101]⟩, .string ⟨#[98]⟩]

def DrawnFd (K : Nat) (w : World) (B g m : Nat) (e : Ending) (w' : World) : Prop := ∃ s t : ByteArray, e = .returned (.agg #[.string s, .string t]) ∧ s.size ≤ K ∧ t.size ≤ K ∧ Drawn w w' B g m

theorem drawn_set1 {w0 w : World} {B g m b : Nat} (h : Drawn w0 w B g m) (hgb : g < b) (hB : w0.heap.size ≤ b) (j : Nat) (x : Value) : Drawn w0 (w.setCell ⟨b, j, none⟩ x) B g m := by
  refine ⟨h.1.keep fun k hk => heap_setCell_other w ⟨b, j, none⟩ k _ (by simp; omega), ⟨h.2.os, h.2.tape, h.2.output, by simpa using h.2.size, fun k hk hne => ?_⟩⟩
  exact (heap_setCell_other w ⟨b, j, none⟩ k _ (by simp; omega)).trans (h.2.block k hk hne)
theorem drawn_set2 {w0 w : World} {B g m b : Nat} {x y : Value} (h : Drawn w0 w B g m) (hgb : g < b) (hB : w0.heap.size ≤ b) : Drawn w0 ((w.setCell ⟨b, 0, none⟩ x).setCell ⟨b, 1, none⟩ y) B g m := drawn_set1 (drawn_set1 h hgb hB 0 x) hgb hB 1 y

set_option maxRecDepth 100000 in
set_option maxHeartbeats 1600000 in
theorem odd_any (g : Nat) (q : Int) (B m : Nat) (w : World) (hm : m ≤ 1000000) (hq : q ≤ 1000000) (hq0 : 0 ≤ q) (h : RdAt w B g m) :
    Calls Tryz.prog 78 #[.pointer (some ⟨g, 0, none⟩), .int .i64 q] w fun e w' => ∃ b : Bool, e = .returned (.bool b) ∧ Drawn w w' B g (m + 1) := by
  go_enter Tryz.func78, Tryz.ntmps78
  go_wp2_with fail
  refine (pick_any g q B m _ hm hq h).mono ?_
  rintro e w1 ⟨r, rfl, hr, hd⟩
  go_wp2
  go_ret
  exact ⟨_, rfl, hd⟩

set_option maxRecDepth 100000 in
set_option maxHeartbeats 3200000 in
theorem field_any (g B m : Nat) (q : Int) (w : World) (hm : m ≤ 700000) (hq : q ≤ 1000000) (hq0 : 0 ≤ q) (h : RdAt w B g m) :
    Calls Tryz.prog 95 #[.pointer (some ⟨g, 0, none⟩), .int .i64 q] w (DrawnFd 40 w B g (m + 60)) := by
  have hg := h.lt
  go_enter Tryz.func95, Tryz.ntmps95
  go_wp2_with fail
  obtain ⟨w0, hw0⟩ : ∃ w0, w0 = w.alloc (.cells #[.string ⟨#[]⟩, .string ⟨#[]⟩] 50) := ⟨_, rfl⟩
  have h0 : RdAt w0 B g m := by rw [hw0]; exact h.alloc _
  have hs0 : w.heap.size < w0.heap.size := by rw [hw0]; simp
  rw [← hw0]
  refine wp_region_last (by kernel_rfl) 9 (by kernel_rfl) (by kernel_rfl) (by kernel_rfl)
    (fun u => { tmps := #[.pointer (some ⟨g, 0, none⟩), .int .i64 q, undef, undef, .pointer (some ⟨w.heap.size, 0, none⟩), u 8, u 0, u 1, u 2, u 3, u 4, u 5, u 6, u 7, undef, undef, undef, undef, undef, undef, undef, undef, undef, undef, undef, undef, undef, undef, undef, undef], defers := [] })
    (CAtK w0 B g m 1)
    (RAt [RLit g 6 names6 9, REq (.pointer (some ⟨g, 0, none⟩)), RNum 6, RCell g 40, RStr 40, REq (.pointer (some ⟨g, 0, none⟩)), RStr 40, RPair 40, RVar g w0.heap.size (.string ⟨#[]⟩) (.string ⟨#[]⟩) 50])
    (fun w w' => w.grownBy w' (some g)) (fun _ => undef) ⟨(Drawn.refl h0).drew, h0.lt⟩
    (fun i v w w' _ hR hle => stay_at (g := g) (by exact ⟨stay_lit _ _ _ _, stay_eq _ _, stay_num _ _, stay_cell _ _, stay_str _ _, stay_eq _ _, stay_str _ _, stay_pair _ _, stay_var _ _ _ _ _, trivial⟩) v w w' hR hle) ?_ ?_
  · intro i hi u w1 k hk hC hd
    have hlt := catk_lt hC
    match i, hi with
    | 0, _ =>
      refine wpOp_step rfl (fun K hK => ?_)
      clear hd
      go_simp
      exact hK _ _ ⟨_, rfl, ⟨_, rfl, by omega, heap_alloc_new w1 _⟩, World.grownBy_alloc _ _ _, catk_alloc hC _⟩
    | 1, _ =>
      refine wpOp_step rfl (fun K hK => ?_)
      clear hd
      go_simp
      exact hK _ _ ⟨_, rfl, rfl, World.grownBy.refl _ _, catk_same hC⟩
    | 2, _ =>
      have e1 : u 1 = .pointer (some ⟨g, 0, none⟩) := hd 1 (dep_of (by kernel_rfl))
      refine wpOp_step rfl (fun K hK => ?_)
      clear hd
      go_simp
      refine (pick_lit g 6 6 rfl (by decide) B (m + 1 * k) _ (by omega) (by decide) hC.1.1).mono ?_
      rintro e w2 ⟨r, rfl, hr, -, hd2⟩
      exact hK _ _ ⟨_, by simp [upd, e1], ⟨r, rfl, hr⟩, hd2.2, catk_drawn hC hd2 (by omega)⟩
    | 3, _ =>
      obtain ⟨b, e0, hbg, hb⟩ : RLit g 6 names6 9 (u 0) w1 := hd 0 (dep_of (by kernel_rfl))
      obtain ⟨r, e2, hr⟩ : RNum 6 (u 2) w1 := hd 2 (dep_of (by kernel_rfl))
      obtain ⟨s, hs, hk40⟩ := lit_at (K := 40) hb (by decide) (r := r) hr
      have hr6 : (r : Int) < 6 := by omega
      refine wpOp_step rfl (fun K hK => ?_)
      clear hd
      go_simp
      exact hK _ _ ⟨_, by simp [upd, e0, e2], ⟨b, r, s, rfl, hbg, hs, hk40⟩, World.grownBy.refl _ _, catk_same hC⟩
    | 4, _ =>
      obtain ⟨b, r, s, e3, hbg, hs, hk40⟩ : RCell g 40 (u 3) w1 := hd 3 (dep_of (by kernel_rfl))
      refine wpOp_step rfl (fun K hK => ?_)
      clear hd
      go_simp
      exact hK _ _ ⟨_, by simp [upd, e3], ⟨s, rfl, hk40⟩, World.grownBy.refl _ _, catk_same hC⟩
    | 5, _ =>
      refine wpOp_step rfl (fun K hK => ?_)
      clear hd
      go_simp
      exact hK _ _ ⟨_, rfl, rfl, World.grownBy.refl _ _, catk_same hC⟩
    | 6, _ =>
      have e5 : u 5 = .pointer (some ⟨g, 0, none⟩) := hd 5 (dep_of (by kernel_rfl))
      refine wpOp_step rfl (fun K hK => ?_)
      clear hd
      go_simp
      refine (value_any g B (m + 1 * k) _ (by omega) hC.1.1).mono ?_
      rintro e w2 ⟨s, rfl, hs, hd2⟩
      exact hK _ _ ⟨_, by simp [upd, e5], ⟨s, rfl, hs⟩, hd2.2, catk_drawn hC hd2 (by omega)⟩
    | 7, _ =>
      obtain ⟨s, e4, hs⟩ : RStr 40 (u 4) w1 := hd 4 (dep_of (by kernel_rfl))
      obtain ⟨t, e6, ht⟩ : RStr 40 (u 6) w1 := hd 6 (dep_of (by kernel_rfl))
      refine wpOp_step rfl (fun K hK => ?_)
      clear hd
      go_simp
      exact hK _ _ ⟨_, by simp [upd, e4, e6], ⟨s, t, rfl, hs, ht⟩, World.grownBy.refl _ _, catk_same hC⟩
    | 8, _ =>
      refine wpOp_step rfl (fun K hK => ?_)
      clear hd
      go_simp
      exact hK _ _ ⟨_, rfl, ⟨_, rfl, hlt, by have := hC.1.2.size; omega, heap_alloc_new w1 _⟩, World.grownBy_alloc _ _ _, catk_alloc hC _⟩
  · intro u w1 k hk hC hd
    obtain ⟨s, t, e7, hs, ht⟩ : RPair 40 (u 7) w1 := hd 7 (by decide)
    obtain ⟨b, e8, hgb, hB, hb⟩ : RVar g w0.heap.size (.string ⟨#[]⟩) (.string ⟨#[]⟩) 50 (u 8) w1 := hd 8 (by decide)
    have q0 : w1.cell? ⟨b, 0, none⟩ = some (.string ⟨#[]⟩) := by simp [World.cell?, hb]
    have q1 : w1.cell? ⟨b, 1, none⟩ = some (.string ⟨#[]⟩) := by simp [World.cell?, hb]
    have q2 : w1.frozen? ⟨b, 0, none⟩ = false := by simp [World.frozen?, hb]
    have q3 : w1.frozen? ⟨b, 1, none⟩ = false := by simp [World.frozen?, hb]
    refine wpOp_step rfl (fun K hK => ?_)
    clear hd
    go_simp
    refine hK _ _ ?_
    clear hK K
    have hb2 : ((w1.setCell ⟨b, 0, none⟩ (.string s)).setCell ⟨b, 1, none⟩ (.string t)).heap[b]? = some (.cells #[.string s, .string t] 50 (0, 0)) := by
      have h1 := heap_setCell_same w1 b 0 _ _ (.string s) hb
      have h2 := heap_setCell_same _ b 1 _ _ (.string t) h1
      simpa using h2
    have hD1 : Drawn w0 ((w1.setCell ⟨b, 0, none⟩ (.string s)).setCell ⟨b, 1, none⟩ (.string t)) B g (m + 10) := drawn_set2 (hC.1.mono (by omega)) hgb hB
    generalize ((w1.setCell ⟨b, 0, none⟩ (.string s)).setCell ⟨b, 1, none⟩ (.string t)) = W1 at hb2 hD1 ⊢
    clear q0 q1 q2 q3 e7 e8 hb hC hk
    have hres : ∀ W M, Drawn w0 W B g M → W.heap[w.heap.size]? = some (.cells #[.string ⟨#[]⟩, .string ⟨#[]⟩] 50 (0, 0)) := fun W M hW => by
      refine block_keep (by omega) ?_ hW.2
      rw [hw0]; exact heap_alloc_new w _
    have HR := Lib.hid hres
    have hfin : ∀ W M x y, Drawn w0 W B g M → Drawn w ((W.setCell ⟨w.heap.size, 0, none⟩ x).setCell ⟨w.heap.size, 1, none⟩ y) B g M := fun W M x y hW => by
      have hW' : Drawn w W B g M := by rw [hw0] at hW; exact hW.of_alloc
      exact drawn_set2 hW' hg (Nat.le_refl _)
    have HF := Lib.hid hfin
    clear hres hfin
    have hbne : b ≠ g := by omega
    have hne : b ≠ w.heap.size := by omega
    -- the end, whatever the field
    have hend : ∀ (W : World) (M : Nat) (s t : ByteArray), Drawn w0 W B g M → M ≤ m + 60 → W.heap[b]? = some (.cells #[.string s, .string t] 50 (0, 0)) → s.size ≤ 40 → t.size ≤ 40 →
        W.cell? ⟨b, 0, none⟩ = some (.string s) ∧ W.cell? ⟨b, 1, none⟩ = some (.string t) ∧ W.frozen? ⟨b, 0, none⟩ = false ∧ W.frozen? ⟨b, 1, none⟩ = false ∧
        W.cell? ⟨w.heap.size, 0, none⟩ = some (.string ⟨#[]⟩) ∧ W.cell? ⟨w.heap.size, 1, none⟩ = some (.string ⟨#[]⟩) ∧ W.frozen? ⟨w.heap.size, 0, none⟩ = false ∧ W.frozen? ⟨w.heap.size, 1, none⟩ = false ∧
        ((W.setCell ⟨w.heap.size, 0, none⟩ (.string s)).setCell ⟨w.heap.size, 1, none⟩ (.string t)).cell? ⟨w.heap.size, 0, none⟩ = some (.string s) ∧
        ((W.setCell ⟨w.heap.size, 0, none⟩ (.string s)).setCell ⟨w.heap.size, 1, none⟩ (.string t)).cell? ⟨w.heap.size, 1, none⟩ = some (.string t) ∧
        Hid (DrawnFd 40 w B g (m + 60) (.returned (.agg #[.string s, .string t])) ((W.setCell ⟨w.heap.size, 0, none⟩ (.string s)).setCell ⟨w.heap.size, 1, none⟩ (.string t))) := fun W M s t hW hM hb hs ht => by
      have r0 := HR.out W M hW
      have h1 := heap_setCell_same W w.heap.size 0 _ _ (.string s) r0
      have h2 := heap_setCell_same _ w.heap.size 1 _ _ (.string t) h1
      refine ⟨by simp [World.cell?, hb], by simp [World.cell?, hb], by simp [World.frozen?, hb], by simp [World.frozen?, hb], by simp [World.cell?, r0], by simp [World.cell?, r0], by simp [World.frozen?, r0], by simp [World.frozen?, r0], by simp [World.cell?, h2], by simp [World.cell?, h2], Lib.hid ⟨s, t, rfl, hs, ht, (HF.out W M _ _ hW).mono hM⟩⟩
    have HE := Lib.hid hend
    clear hend HR HF
    have hr1 := hD1.1
    go_wp2_with fail
    refine (odd_any g q B (m + 10) _ (by omega) hq hq0 hr1).mono ?_
    rintro e W2 ⟨od, rfl, hd2⟩
    have hD2 := hD1.trans hd2
    have hb3 := block_keep hbne hb2 hd2.2
    cases od
    · obtain ⟨k0, k1, k2, k3, k4, k5, k6, k7, k8, k9, HX⟩ := HE.out W2 _ s t hD2 (by omega) hb3 hs ht
      clear hb2 hb3 hD1 hD2 hd2 hr1
      go_wp2
      exact bodyPost_ret (v := .agg #[.string s, .string t]) (by simp [results, Tryz.results95, go_sem, k8, k9]) rfl HX.out
    · have hr2 := hD2.1
      go_wp2_with fail
      refine (pick_lit g 2 2 rfl (by decide) B (m + 10 + 1) _ (by omega) (by decide) hr2).mono ?_
      rintro e W3 ⟨r3, rfl, hr3, -, hd3⟩
      have hD3 := hD2.trans hd3
      have hb4 := block_keep hbne hb3 hd3.2
      have hr3' : r3 = 0 ∨ r3 = 1 := by omega
      have hr4 := hD3.1
      clear hb2 hb3 hD1 hD2 hd2 hr1 hd3 hr2 hr3
      rcases hr3' with rfl | rfl
      · go_wp2_with fail
        refine (text_any g B (m + 10 + 1 + 1) _ (by omega) hr4).mono ?_
        rintro e W4 ⟨x, rfl, hx, hd4⟩
        have hD4 := hD3.trans hd4
        have hb5 := block_keep hbne hb4 hd4.2
        have q0 : W4.cell? ⟨b, 0, none⟩ = some (.string s) := by simp [World.cell?, hb5]
        have q2 : W4.frozen? ⟨b, 0, none⟩ = false := by simp [World.frozen?, hb5]
        have hb6 : (W4.setCell ⟨b, 0, none⟩ (.string x)).heap[b]? = some (.cells #[.string x, .string t] 50 (0, 0)) := by simpa using heap_setCell_same W4 b 0 _ _ (.string x) hb5
        obtain ⟨k0, k1, k2, k3, k4, k5, k6, k7, k8, k9, HX⟩ := HE.out (W4.setCell ⟨b, 0, none⟩ (.string x)) _ x t (drawn_set1 hD4 hgb hB 0 _) (by omega) hb6 (by omega) ht
        clear hb4 hb5 hb6 hD3 hD4 hd4 hr4
        go_wp2
        exact bodyPost_ret (v := .agg #[.string x, .string t]) (by simp [results, Tryz.results95, go_sem, k8, k9]) rfl HX.out
      · go_wp2_with fail
        refine (pick_lit g 6 6 rfl (by decide) B (m + 10 + 1 + 1) _ (by omega) (by decide) (hr4.alloc _)).mono ?_
        rintro e W4 ⟨r5, rfl, hr5, hr5', hd4⟩
        obtain ⟨x, hx, hx40⟩ := lit_str (K := 40) hd4 hr4.lt (by decide) r5 (by simp; omega)
        have hD4 := hD3.trans hd4.of_alloc
        have hb5 := block_keep hbne hb4 hd4.of_alloc.2
        have q0 : W4.cell? ⟨b, 1, none⟩ = some (.string t) := by simp [World.cell?, hb5]
        have q2 : W4.frozen? ⟨b, 1, none⟩ = false := by simp [World.frozen?, hb5]
        have hb6 : (W4.setCell ⟨b, 1, none⟩ (.string x)).heap[b]? = some (.cells #[.string s, .string x] 50 (0, 0)) := by simpa using heap_setCell_same W4 b 1 _ _ (.string x) hb5
        obtain ⟨k0, k1, k2, k3, k4, k5, k6, k7, k8, k9, HX⟩ := HE.out (W4.setCell ⟨b, 1, none⟩ (.string x)) _ s x (drawn_set1 hD4 hgb hB 1 _) (by omega) hb6 hs hx40
        clear hb4 hb5 hb6 hD3 hD4 hd4 hr4
        go_wp2
        exact bodyPost_ret (v := .agg #[.string s, .string x]) (by simp [results, Tryz.results95, go_sem, k8, k9]) rfl HX.out
end Go.Proofs.YtncegikmpapldaaGreatDoor
