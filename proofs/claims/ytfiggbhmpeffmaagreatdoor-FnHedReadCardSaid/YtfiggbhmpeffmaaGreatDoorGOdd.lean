import Derived.Test.YtfiggbhmpeffmaaGreatDoorGHdD
import Derived.Deep.CutBlock
-- from XOdd2
/- Walks: the drawing of a request's text in whatever form. -/
namespace Go.Proofs.YtfiggbhmpeffmaaGreatDoor
open Go.RowKit

/-- A slice of n short texts in a block that is none of the reader's. -/
def RStrs (g n K : Nat) (T : TypeId) : Value → World → Prop := fun v w => ∃ b cs, v = .slice (some ⟨b, 0, none⟩) n n ∧ b ≠ g ∧ w.heap[b]? = some (.cells cs T (0, 0)) ∧ cs.size = n ∧ strsOk cs K = true
theorem stay_strs (g n K : Nat) (T : TypeId) : Stay g (RStrs g n K T) := fun _ _ _ ⟨b, cs, h1, h2, h3, h4⟩ hg => ⟨b, cs, h1, h2, block_keep h2 h3 hg, h4⟩
theorem numT_len (n : Int) : (numT n).length ≤ 6 := by
  unfold numT
  split
  · rename_i h; exact dec_len_le 5 _ (by omega)
  · simp
theorem drawn_under {w w0 w1 w2 : World} {B g m : Nat} (h : Drawn w0 w1 B g m) (hb : Below w1.heap.size w1 w2) (hg : g < w.heap.size) (hs : w0.heap.size = w.heap.size + 1) : Drawn w0 w2 B g m :=
  drawn_grown (row := none) h ⟨hb.os, hb.tape, hb.output, hb.size, fun k hk _ => hb.block k hk⟩ (by omega) (fun _ e => by cases e)
def hosts3 : Array Value := #[.string ⟨#[104, 111, 115, 116, 58, 32]⟩, .string ⟨#[72, 111, 115, 116, 58]⟩, .string ⟨#[72, 79, 83, 84, 58, 32, 32]⟩]
def ports2 : Array Value := #[.string ⟨#[]⟩, .string ⟨#[58, 56, 48]⟩]
theorem strsOk3 {a b c : ByteArray} {K : Nat} (ha : a.size ≤ K) (hb : b.size ≤ K) (hc : c.size ≤ K) : strsOk #[.string a, .string b, .string c] K = true := by
  simp [strsOk, ha, hb, hc]

set_option maxRecDepth 100000 in
set_option maxHeartbeats 6400000 in
theorem oddtext_any (g B m : Nat) (h : Hd) (v : Value) (w : World) (hm : m ≤ 400000) (hR : RdAt w B g m) (hF : FRowA g w v h.fs) (hok : FOk h.fs 40) (hn : h.fs.length ≤ 12)
    (b1 : h.verb.size ≤ 50) (b2 : h.target.size ≤ 50) (b3 : h.host.size ≤ 50) (b4 : h.body.size ≤ 50) :
    Calls Tryz.prog 61 #[.pointer (some ⟨g, 0, none⟩), .agg #[.string h.verb, .string h.target, .string h.host, v, .string h.body]] w (DrawnStr 2000 w B g (m + 100)) := by
  have hg := hR.lt
  obtain ⟨a, c, rfl, hc1, hc2, hcs⟩ := hF
  unfold maxLen at hc2
  obtain ⟨w0, hw0⟩ : ∃ w0, w0 = w.alloc (.cells #[.string h.verb, .string h.target, .string h.host, .slice a h.fs.length c, .string h.body] 25) := ⟨_, rfl⟩
  have h0 : RdAt w0 B g m := by rw [hw0]; exact hR.alloc _
  have hs0 : w0.heap.size = w.heap.size + 1 := by rw [hw0]; simp
  have hbox : w0.heap[w.heap.size]? = some (.cells #[.string h.verb, .string h.target, .string h.host, .slice a h.fs.length c, .string h.body] 25 (0, 0)) := by rw [hw0]; exact heap_alloc_new w _
  have hall : ∀ W M, Drawn w0 W B g M → W.heap[w.heap.size]? = some (.cells #[.string h.verb, .string h.target, .string h.host, .slice a h.fs.length c, .string h.body] 25 (0, 0)) ∧
      ∀ j f, h.fs[j]? = some f → ∃ b o, a = some ⟨b, o, none⟩ ∧ W.cell? ⟨b, o + j * 2, none⟩ = some (.string f.1) ∧ W.cell? ⟨b, o + j * 2 + 1, none⟩ = some (.string f.2) := fun W M hD => by
    refine ⟨block_keep (by omega) hbox hD.2, fun j f hj => ?_⟩
    obtain ⟨b, o, e, hlt, hne, q1, q2⟩ := hcs j f hj
    have e1 : w0.heap[b]? = w.heap[b]? := by rw [hw0]; exact Below.heap_alloc w _ b hlt
    have e2 : W.heap[b]? = w0.heap[b]? := hD.2.block b (by omega) (fun e => hne (by injection e))
    exact ⟨b, o, e, (World.cell?_of_block (w := w) (e2.trans e1)).trans q1, (World.cell?_of_block (w := w) (e2.trans e1)).trans q2⟩
  have HA := Lib.hid hall
  have hfin : ∀ (W : World) (s : ByteArray) (M : Nat), Drawn w0 W B g M → M ≤ m + 100 → s.size ≤ 2000 → DrawnStr 2000 w B g (m + 100) (.returned (.string s)) W := fun W s M hD hM hs =>
    ⟨s, rfl, hs, Drawn.mono (by rw [hw0] at hD; exact hD.of_alloc) hM⟩
  have HFin := Lib.hid hfin
  have HW0 := Lib.hid hw0
  have hd0 := Drawn.refl h0
  obtain ⟨x0, x1, x2, x3, x4, _⟩ := five_facts hbox
  rw [hw0] at x0 x1 x2 x3 x4
  have HD0 := Lib.hid hd0
  clear hw0 hall hcs hfin hbox hd0 hR
  go_enter Tryz.func61, Tryz.ntmps61
  go_wp2_with fail
  rw [← HW0.out]
  refine (pick_any g 3 B m _ (by omega) (by omega) h0).mono ?_
  rintro e w1 ⟨r1, rfl, hr1, hd1⟩
  have HD1 := Lib.hid hd1
  have hrd1 := hd1.1
  obtain ⟨y0, y1, y2, y3, y4, _⟩ := five_facts (HA.out w1 _ hd1).1
  clear x0 x1 x2 x3 x4 hd1 HD0
  go_upto_if 13 with fail
  go_cut [5] (fun s5 wx => ∃ t : ByteArray, s5 = .string t ∧ t.size ≤ 120 ∧ Drawn w0 wx B g (m + 50))
  case first =>
    by_cases hr0 : r1 = 0
    · subst hr0
      go_upto_region 3 with fail
      refine wp_region_last (by kernel_rfl) 13 (by kernel_rfl) (by kernel_rfl) (by kernel_rfl)
        (fun u => { tmps := #[.pointer (some ⟨g, 0, none⟩), .agg #[.string h.verb, .string h.target, .string h.host, .slice a h.fs.length c, .string h.body], undef, .pointer (some ⟨w.heap.size, 0, none⟩), .string ⟨#[]⟩, .string h.target, undef, undef, undef, .pointer (some ⟨w.heap.size, 1, none⟩), .string h.target, .pointer (some ⟨g, 0, none⟩), .int .i64 ((0 : Nat) : Int), .bool (((0 : Nat) : Int) == 0), u 0, u 1, u 2, u 3, u 4, u 5, u 6, u 7, u 8, u 9, u 10, u 11, u 12, undef, undef, undef, undef, undef, undef, undef, undef, undef, undef, undef, undef, undef, undef, undef, undef, undef, undef, undef, undef, undef, undef, undef, undef, undef, undef, undef, undef, undef, undef, undef, undef, undef, undef, undef, undef, undef, undef, undef, undef, undef, undef, undef, undef, undef, undef, undef, undef, undef, undef, undef, undef, undef, undef, undef, undef, undef, undef, undef, undef, undef, undef, undef, undef, undef, undef, undef, undef, undef, undef, undef, undef, undef, undef, undef, undef, undef, undef, undef, undef, undef, undef, undef, undef, undef, undef, undef, undef, undef, undef, undef, undef, undef, undef, undef, undef, undef, undef, undef, undef, undef, undef], defers := [] })
        (CAtK w0 B g (m + 1) 1)
        (RAt [REq (.pointer (some ⟨w.heap.size, 2, none⟩)), REq (.string h.host), REq (.pointer (some ⟨w.heap.size, 2, none⟩)), REq (.string h.host), RStr 60, RStrs g 3 60 9, REq (.pointer (some ⟨g, 0, none⟩)), RNum 3, RCell g 60, RStr 60, RStr 70, REq (.string h.target), RStr 120])
        (fun w w' => w.grownBy w' (some g)) (fun _ => undef) ⟨HD1.out.drew, by omega⟩
        (fun i v w w' _ hR hle => stay_at (g := g) (by exact ⟨stay_eq _ _, stay_eq _ _, stay_eq _ _, stay_eq _ _, stay_str _ _, stay_strs _ _ _ _, stay_eq _ _, stay_num _ _, stay_cell _ _, stay_str _ _, stay_str _ _, stay_eq _ _, stay_str _ _, trivial⟩) v w w' hR hle) ?_ ?_
      · intro i hi u w1 k hk hC hd
        have hlt := catk_lt hC
        obtain ⟨y0, y1, y2, y3, y4, _⟩ := five_facts (HA.out w1 _ hC.1).1
        match i, hi with
        | 0, _ =>
          refine wpOp_step rfl (fun K hK => ?_)
          clear hd
          go_simp
          exact hK _ _ ⟨_, rfl, rfl, World.grownBy.refl _ _, catk_same hC⟩
        | 1, _ =>
          have e0 : u 0 = .pointer (some ⟨w.heap.size, 2, none⟩) := hd 0 (dep_of (by kernel_rfl))
          refine wpOp_step rfl (fun K hK => ?_)
          clear hd
          go_simp
          exact hK _ _ ⟨_, by simp [upd, e0], rfl, World.grownBy.refl _ _, catk_same hC⟩
        | 2, _ =>
          refine wpOp_step rfl (fun K hK => ?_)
          clear hd
          go_simp
          exact hK _ _ ⟨_, rfl, rfl, World.grownBy.refl _ _, catk_same hC⟩
        | 3, _ =>
          have e2 : u 2 = .pointer (some ⟨w.heap.size, 2, none⟩) := hd 2 (dep_of (by kernel_rfl))
          refine wpOp_step rfl (fun K hK => ?_)
          clear hd
          go_simp
          exact hK _ _ ⟨_, by simp [upd, e2], rfl, World.grownBy.refl _ _, catk_same hC⟩
        | 4, _ =>
          have e3 : u 3 = .string h.host := hd 3 (dep_of (by kernel_rfl))
          have hl1 : (ByteArray.mk #[58, 56, 48]).size = 3 := rfl
          have hz : ¬ (9223372036854775807 < (h.host : ByteArray).size + (⟨#[58, 56, 48]⟩ : ByteArray).size) := by omega
          have hz' : ¬ (9223372036854775807 < (h.host : ByteArray).size + 3) := by omega
          refine wpOp_step rfl (fun K hK => ?_)
          clear hd
          go_simp
          refine hK _ _ ⟨.string ((h.host : ByteArray) ++ ⟨#[58, 56, 48]⟩), by simp [upd, e3], ⟨(h.host : ByteArray) ++ ⟨#[58, 56, 48]⟩, rfl, ?_⟩, World.grownBy.refl _ _, catk_same hC⟩
          rw [ByteArray.size_append]; omega
        | 5, _ =>
          have e1 : u 1 = .string h.host := hd 1 (dep_of (by kernel_rfl))
          obtain ⟨s0, e4, hz0⟩ : RStr 60 (u 4) w1 := hd 4 (dep_of (by kernel_rfl))
          refine wpOp_step rfl (fun K hK => ?_)
          clear hd
          go_simp
          exact hK _ _ ⟨_, by simp [upd, e1, e4], ⟨_, _, rfl, by omega, heap_alloc_new w1 _, rfl, strsOk3 (by omega) hz0 (by decide)⟩, World.grownBy_alloc _ _ _, catk_alloc hC _⟩
        | 6, _ =>
          refine wpOp_step rfl (fun K hK => ?_)
          clear hd
          go_simp
          exact hK _ _ ⟨_, rfl, rfl, World.grownBy.refl _ _, catk_same hC⟩
        | 7, _ =>
          have e6 : u 6 = .pointer (some ⟨g, 0, none⟩) := hd 6 (dep_of (by kernel_rfl))
          refine wpOp_step rfl (fun K hK => ?_)
          clear hd
          go_simp
          refine (pick_lit g 3 3 rfl (by decide) B ((m + 1) + 1 * k) _ (by omega) (by decide) hC.1.1).mono ?_
          rintro e w2 ⟨r, rfl, hr, -, hd2⟩
          exact hK _ _ ⟨_, by simp [upd, e6], ⟨r, rfl, hr⟩, hd2.2, catk_drawn hC hd2 (by omega)⟩
        | 8, _ =>
          obtain ⟨b, cs, e5, hbg, hb, hcz, hcok⟩ : RStrs g 3 60 9 (u 5) w1 := hd 5 (dep_of (by kernel_rfl))
          obtain ⟨r, e7, hr⟩ : RNum 3 (u 7) w1 := hd 7 (dep_of (by kernel_rfl))
          obtain ⟨s, hs, hk40⟩ := lit_at (K := 60) hb hcok (r := r) (by omega)
          have hr6 : (r : Int) < 3 := by omega
          refine wpOp_step rfl (fun K hK => ?_)
          clear hd
          go_simp
          exact hK _ _ ⟨_, by simp [upd, e5, e7], ⟨b, r, s, rfl, hbg, hs, hk40⟩, World.grownBy.refl _ _, catk_same hC⟩
        | 9, _ =>
          obtain ⟨b, r, s, e8, hbg, hs, hk40⟩ : RCell g 60 (u 8) w1 := hd 8 (dep_of (by kernel_rfl))
          refine wpOp_step rfl (fun K hK => ?_)
          clear hd
          go_simp
          exact hK _ _ ⟨_, by simp [upd, e8], ⟨s, rfl, hk40⟩, World.grownBy.refl _ _, catk_same hC⟩
        | 10, _ =>
          have hl0 : (ByteArray.mk #[104, 116, 116, 112, 58, 47, 47]).size = 7 := rfl
          obtain ⟨s1, e9, hz1⟩ : RStr 60 (u 9) w1 := hd 9 (dep_of (by kernel_rfl))
          have hz : ¬ (9223372036854775807 < (⟨#[104, 116, 116, 112, 58, 47, 47]⟩ : ByteArray).size + (s1 : ByteArray).size) := by omega
          have hz' : ¬ (9223372036854775807 < 7 + (s1 : ByteArray).size) := by omega
          refine wpOp_step rfl (fun K hK => ?_)
          clear hd
          go_simp
          refine hK _ _ ⟨.string ((⟨#[104, 116, 116, 112, 58, 47, 47]⟩ : ByteArray) ++ s1), by simp [upd, e9], ⟨(⟨#[104, 116, 116, 112, 58, 47, 47]⟩ : ByteArray) ++ s1, rfl, ?_⟩, World.grownBy.refl _ _, catk_same hC⟩
          rw [ByteArray.size_append]; omega
        | 11, _ =>
          refine wpOp_step rfl (fun K hK => ?_)
          clear hd
          go_simp
          exact hK _ _ ⟨_, rfl, rfl, World.grownBy.refl _ _, catk_same hC⟩
        | 12, _ =>
          obtain ⟨s0, e10, hz0⟩ : RStr 70 (u 10) w1 := hd 10 (dep_of (by kernel_rfl))
          have e11 : u 11 = .string h.target := hd 11 (dep_of (by kernel_rfl))
          have hz : ¬ (9223372036854775807 < (s0 : ByteArray).size + (h.target : ByteArray).size) := by omega
          refine wpOp_step rfl (fun K hK => ?_)
          clear hd
          go_simp
          refine hK _ _ ⟨.string ((s0 : ByteArray) ++ h.target), by simp [upd, e10, e11], ⟨(s0 : ByteArray) ++ h.target, rfl, ?_⟩, World.grownBy.refl _ _, catk_same hC⟩
          rw [ByteArray.size_append]; omega
      · intro u w1 k hk hC hd
        obtain ⟨s0, e12, hz0⟩ : RStr 120 (u 12) w1 := hd 12 (by decide)
        have HC := Lib.hid hC
        refine wpOp_step rfl (fun K hK => ?_)
        clear hd
        go_simp
        refine hK _ _ ?_
        clear hK K hC
        go_wp2_with fail
        go_meet
        exact ⟨_, rfl, hz0, HC.out.1.mono (by omega)⟩
    · have n0 : ((r1 : Int) == 0) = false := by simp; omega
      go_wp2_with fail
      go_meet
      exact ⟨_, rfl, by omega, HD1.out.mono (by omega)⟩
  case rest =>
    obtain ⟨t, rfl, ht, hd2⟩ := hcut
    have HD2 := Lib.hid hd2
    have hrd2 := hd2.1
    clear y0 y1 y2 y3 y4
    obtain ⟨y0, y1, y2, y3, y4, _⟩ := five_facts (HA.out wc _ hd2).1
    clear hd2 HD1 hrd1 hr1
    go_upto_region 5 with fail
    obtain ⟨S, hS⟩ : ∃ S : ByteArray, S = h.verb ++ ⟨#[32]⟩ ++ t ++ ⟨#[10]⟩ := ⟨_, rfl⟩
    rw [← hS]
    have hSz : S.size ≤ 180 := by rw [hS]; simp only [ByteArray.size_append]; have : (ByteArray.mk #[32]).size = 1 := rfl; have : (ByteArray.mk #[10]).size = 1 := rfl; omega
    have HS := Lib.hid hS
    clear hS
    refine wp_region_last (by kernel_rfl) 15 (by kernel_rfl) (by kernel_rfl) (by kernel_rfl)
      (fun u => { tmps := #[.pointer (some ⟨g, 0, none⟩), .agg #[.string h.verb, .string h.target, .string h.host, .slice a h.fs.length c, .string h.body], undef, .pointer (some ⟨w.heap.size, 0, none⟩), .string ⟨#[]⟩, .string t, .string S, undef, undef, u9, u10, u11, u12, u13, u14, u15, u16, u17, u18, u19, u20, u21, u22, u23, u24, u25, u26, .pointer (some ⟨w.heap.size, 0, none⟩), .string h.verb, .string (h.verb ++ ⟨#[32]⟩), .string t, .string (h.verb ++ ⟨#[32]⟩ ++ t), .string S, u 0, u 1, u 2, u 3, u 4, u 5, u 6, u 7, u 8, u 9, u 10, u 11, u 12, u 13, u 14, u48, u49, u50, u51, u52, u53, u54, u55, u56, u57, u58, u59, u60, u61, u62, u63, u64, u65, u66, u67, u68, u69, u70, u71, u72, u73, u74, u75, u76, u77, u78, u79, u80, u81, u82, u83, u84, u85, u86, u87, u88, u89, u90, u91, u92, u93, u94, u95, u96, u97, u98, u99, u100, u101, u102, u103, undef, undef, u106, u107, u108, undef, u110, u111, u112, u113, u114, u115, u116, u117, u118, u119, undef, u121, u122, u123, u124, u125, u126, u127, u128], defers := [] })
      (CAtK w0 B g (m + 50) 1)
      (RAt [RLit g 3 hosts3 9, REq (.pointer (some ⟨g, 0, none⟩)), RNum 3, RCell g 10, RStr 10, REq (.pointer (some ⟨w.heap.size, 2, none⟩)), REq (.string h.host), RStr 60, RLit g 2 ports2 9, REq (.pointer (some ⟨g, 0, none⟩)), RNum 2, RCell g 10, RStr 10, RStr 70, RStr 71])
      (fun w w' => w.grownBy w' (some g)) (fun i => [u33, u34, u35, u36, u37, u38, u39, u40, u41, u42, u43, u44, u45, u46, u47].getD i undef) ⟨HD2.out.drew, by omega⟩
      (fun i v w w' _ hR hle => stay_at (g := g) (by exact ⟨stay_lit _ _ _ _, stay_eq _ _, stay_num _ _, stay_cell _ _, stay_str _ _, stay_eq _ _, stay_eq _ _, stay_str _ _, stay_lit _ _ _ _, stay_eq _ _, stay_num _ _, stay_cell _ _, stay_str _ _, stay_str _ _, stay_str _ _, trivial⟩) v w w' hR hle) ?_ ?_
    · intro i hi u w1 k hk hC hd
      have hlt := catk_lt hC
      obtain ⟨y0, y1, y2, y3, y4, _⟩ := five_facts (HA.out w1 _ hC.1).1
      match i, hi with
      | 0, _ =>
        refine wpOp_step rfl (fun K hK => ?_)
        clear hd
        go_simp
        exact hK _ _ ⟨_, rfl, ⟨_, rfl, by omega, heap_alloc_new w1 _⟩, World.grownBy_alloc _ _ _, catk_alloc hC _⟩
      | 1, _ =>
        refine wpOp_step rfl (fun K hK => ?_)
        clear hd
        go_simp
        exact hK _ _ ⟨_, rfl, rfl, World.grownBy.refl _ _, catk_same hC⟩
      | 2, _ =>
        have e1 : u 1 = .pointer (some ⟨g, 0, none⟩) := hd 1 (dep_of (by kernel_rfl))
        refine wpOp_step rfl (fun K hK => ?_)
        clear hd
        go_simp
        refine (pick_lit g 3 3 rfl (by decide) B ((m + 50) + 1 * k) _ (by omega) (by decide) hC.1.1).mono ?_
        rintro e w2 ⟨r, rfl, hr, -, hd2⟩
        exact hK _ _ ⟨_, by simp [upd, e1], ⟨r, rfl, hr⟩, hd2.2, catk_drawn hC hd2 (by omega)⟩
      | 3, _ =>
        obtain ⟨b, e0, hbg, hb⟩ : RLit g 3 hosts3 9 (u 0) w1 := hd 0 (dep_of (by kernel_rfl))
        obtain ⟨r, e2, hr⟩ : RNum 3 (u 2) w1 := hd 2 (dep_of (by kernel_rfl))
        obtain ⟨s, hs, hk40⟩ := lit_at (K := 10) hb (by decide) (r := r) hr
        have hr6 : (r : Int) < 3 := by omega
        refine wpOp_step rfl (fun K hK => ?_)
        clear hd
        go_simp
        exact hK _ _ ⟨_, by simp [upd, e0, e2], ⟨b, r, s, rfl, hbg, hs, hk40⟩, World.grownBy.refl _ _, catk_same hC⟩
      | 4, _ =>
        obtain ⟨b, r, s, e3, hbg, hs, hk40⟩ : RCell g 10 (u 3) w1 := hd 3 (dep_of (by kernel_rfl))
        refine wpOp_step rfl (fun K hK => ?_)
        clear hd
        go_simp
        exact hK _ _ ⟨_, by simp [upd, e3], ⟨s, rfl, hk40⟩, World.grownBy.refl _ _, catk_same hC⟩
      | 5, _ =>
        refine wpOp_step rfl (fun K hK => ?_)
        clear hd
        go_simp
        exact hK _ _ ⟨_, rfl, rfl, World.grownBy.refl _ _, catk_same hC⟩
      | 6, _ =>
        have e5 : u 5 = .pointer (some ⟨w.heap.size, 2, none⟩) := hd 5 (dep_of (by kernel_rfl))
        refine wpOp_step rfl (fun K hK => ?_)
        clear hd
        go_simp
        exact hK _ _ ⟨_, by simp [upd, e5], rfl, World.grownBy.refl _ _, catk_same hC⟩
      | 7, _ =>
        obtain ⟨s0, e4, hz0⟩ : RStr 10 (u 4) w1 := hd 4 (dep_of (by kernel_rfl))
        have e6 : u 6 = .string h.host := hd 6 (dep_of (by kernel_rfl))
        have hz : ¬ (9223372036854775807 < (s0 : ByteArray).size + (h.host : ByteArray).size) := by omega
        refine wpOp_step rfl (fun K hK => ?_)
        clear hd
        go_simp
        refine hK _ _ ⟨.string ((s0 : ByteArray) ++ h.host), by simp [upd, e4, e6], ⟨(s0 : ByteArray) ++ h.host, rfl, ?_⟩, World.grownBy.refl _ _, catk_same hC⟩
        rw [ByteArray.size_append]; omega
      | 8, _ =>
        refine wpOp_step rfl (fun K hK => ?_)
        clear hd
        go_simp
        exact hK _ _ ⟨_, rfl, ⟨_, rfl, by omega, heap_alloc_new w1 _⟩, World.grownBy_alloc _ _ _, catk_alloc hC _⟩
      | 9, _ =>
        refine wpOp_step rfl (fun K hK => ?_)
        clear hd
        go_simp
        exact hK _ _ ⟨_, rfl, rfl, World.grownBy.refl _ _, catk_same hC⟩
      | 10, _ =>
        have e9 : u 9 = .pointer (some ⟨g, 0, none⟩) := hd 9 (dep_of (by kernel_rfl))
        refine wpOp_step rfl (fun K hK => ?_)
        clear hd
        go_simp
        refine (pick_lit g 2 2 rfl (by decide) B ((m + 50) + 1 * k) _ (by omega) (by decide) hC.1.1).mono ?_
        rintro e w2 ⟨r, rfl, hr, -, hd2⟩
        exact hK _ _ ⟨_, by simp [upd, e9], ⟨r, rfl, hr⟩, hd2.2, catk_drawn hC hd2 (by omega)⟩
      | 11, _ =>
        obtain ⟨b, e8, hbg, hb⟩ : RLit g 2 ports2 9 (u 8) w1 := hd 8 (dep_of (by kernel_rfl))
        obtain ⟨r, e10, hr⟩ : RNum 2 (u 10) w1 := hd 10 (dep_of (by kernel_rfl))
        obtain ⟨s, hs, hk40⟩ := lit_at (K := 10) hb (by decide) (r := r) hr
        have hr6 : (r : Int) < 2 := by omega
        refine wpOp_step rfl (fun K hK => ?_)
        clear hd
        go_simp
        exact hK _ _ ⟨_, by simp [upd, e8, e10], ⟨b, r, s, rfl, hbg, hs, hk40⟩, World.grownBy.refl _ _, catk_same hC⟩
      | 12, _ =>
        obtain ⟨b, r, s, e11, hbg, hs, hk40⟩ : RCell g 10 (u 11) w1 := hd 11 (dep_of (by kernel_rfl))
        refine wpOp_step rfl (fun K hK => ?_)
        clear hd
        go_simp
        exact hK _ _ ⟨_, by simp [upd, e11], ⟨s, rfl, hk40⟩, World.grownBy.refl _ _, catk_same hC⟩
      | 13, _ =>
        obtain ⟨s0, e7, hz0⟩ : RStr 60 (u 7) w1 := hd 7 (dep_of (by kernel_rfl))
        obtain ⟨s1, e12, hz1⟩ : RStr 10 (u 12) w1 := hd 12 (dep_of (by kernel_rfl))
        have hz : ¬ (9223372036854775807 < (s0 : ByteArray).size + (s1 : ByteArray).size) := by omega
        refine wpOp_step rfl (fun K hK => ?_)
        clear hd
        go_simp
        refine hK _ _ ⟨.string ((s0 : ByteArray) ++ s1), by simp [upd, e7, e12], ⟨(s0 : ByteArray) ++ s1, rfl, ?_⟩, World.grownBy.refl _ _, catk_same hC⟩
        rw [ByteArray.size_append]; omega
      | 14, _ =>
        obtain ⟨s0, e13, hz0⟩ : RStr 70 (u 13) w1 := hd 13 (dep_of (by kernel_rfl))
        have hl1 : (ByteArray.mk #[10]).size = 1 := rfl
        have hz : ¬ (9223372036854775807 < (s0 : ByteArray).size + (⟨#[10]⟩ : ByteArray).size) := by omega
        have hz' : ¬ (9223372036854775807 < (s0 : ByteArray).size + 1) := by omega
        refine wpOp_step rfl (fun K hK => ?_)
        clear hd
        go_simp
        refine hK _ _ ⟨.string ((s0 : ByteArray) ++ ⟨#[10]⟩), by simp [upd, e13], ⟨(s0 : ByteArray) ++ ⟨#[10]⟩, rfl, ?_⟩, World.grownBy.refl _ _, catk_same hC⟩
        rw [ByteArray.size_append]; omega
    · intro u w1 k hk hC hd
      obtain ⟨H, e14, hz14⟩ : RStr 71 (u 14) w1 := hd 14 (by decide)
      have HC := Lib.hid hC
      have hrd3 := hC.1.1
      refine wpOp_step rfl (fun K hK => ?_)
      clear hd
      go_simp
      refine hK _ _ ?_
      clear hK K
      have hD3 := hC.1.mono (show m + 50 + 1 * k ≤ m + 65 by omega)
      have hrd3 := hD3.1
      clear hC HC e14 hk
      go_wp2_with fail
      refine (pick_any g 2 B (m + 65) _ (by omega) (by omega) hrd3).mono ?_
      rintro e w2 ⟨r2, rfl, hr2, hd4⟩
      have HD4 := Lib.hid (hD3.trans hd4)
      clear hD3 hrd3 hd4 hrd2 y0 y1 y2 y3 y4
      go_upto_if 50 with fail
      go_cut [6] (fun s6 wx => ∃ t6 : ByteArray, s6 = .string t6 ∧ t6.size ≤ 260 ∧ wx = w2)
      case first =>
        by_cases hr0 : r2 = 0
        · subst hr0
          have hz : ¬ (9223372036854775807 < S.size + H.size) := by omega
          go_wp2_with fail
          go_meet
          exact ⟨_, rfl, by rw [ByteArray.size_append]; omega, rfl⟩
        · have n0 : ((r2 : Int) == 0) = false := by simp; omega
          go_wp2_with fail
          go_meet
          exact ⟨_, rfl, by omega, rfl⟩
      case rest =>
        obtain ⟨t6, rfl, ht6, rfl⟩ := hcut
        clear hr2
        have hfs : h.fs.length ≤ 9223372036854775807 := by omega
        obtain ⟨y0, y1, y2, y3, y4, _⟩ := five_facts (HA.out wc _ HD4.out).1
        go_wp2_with fail
        go_loopw [6, 8] (fun s i wr => ∃ (k : Nat) (t7 : ByteArray), k ≤ h.fs.length ∧ i = .int .i64 k ∧ s = .string t7 ∧ t7.size ≤ 260 + 90 * k ∧ Drawn w0 wr B g (m + 65 + 1)) (fun _ i _ => h.fs.length - (intOf i).toNat)
        case atStart => exact ⟨0, t6, Nat.zero_le _, rfl, rfl, by omega, HD4.out⟩
        case round =>
          obtain ⟨k, t7, hk, rfl, rfl, ht7, hDr⟩ := hrel
          obtain ⟨q0, q1, q2, q3, q4, _⟩ := five_facts (HA.out wr _ hDr).1
          clear y0 y1 y2 y3 y4
          by_cases hlt : k < h.fs.length
          · obtain ⟨f, hg2⟩ : ∃ f, h.fs[k]? = some f := ⟨_, List.getElem?_eq_getElem hlt⟩
            obtain ⟨bf1, bf2⟩ := hok f (List.mem_of_getElem? hg2)
            obtain ⟨b, o, ea, c1, c2⟩ := (HA.out wr _ hDr).2 k f hg2
            subst ea
            have HDr := Lib.hid hDr
            clear hg2 hDr
            have hz1 : ¬ (9223372036854775807 < t7.size + f.1.size) := by omega
            have hz2 : ¬ (9223372036854775807 < t7.size + f.1.size + 1) := by omega
            have hz3 : ¬ (9223372036854775807 < t7.size + f.1.size + 1 + f.2.size) := by omega
            have hz4 : ¬ (9223372036854775807 < t7.size + f.1.size + 1 + f.2.size + 1) := by omega
            have hki : (k : Int) < (h.fs.length : Int) := by omega
            go_wp2_with fail
            go_quiet (fail)
            go_wp2
            go_roundw
            case rel => exact ⟨k + 1, _, by omega, by go_num, rfl, by simp only [ByteArray.size_append]; rw [show (ByteArray.mk #[58]).size = 1 from rfl, show (ByteArray.mk #[10]).size = 1 from rfl]; omega, HDr.out.drewN _⟩
            case measure => simp [intOf]; omega
          · have HDr := Lib.hid hDr
            have hz7 : t7.size ≤ 1340 := by omega
            clear hDr ht7
            go_wp2_with fail
            refine (l1_starts _ _ _ ?_ ?_).mono ?_
            · unfold maxLen; omega
            · unfold maxLen; simp only [ByteArray.size_append]; rw [show (ByteArray.mk #[32]).size = 1 from rfl, show (ByteArray.mk #[10]).size = 1 from rfl]; omega
            rintro e w3 ⟨rfl, rfl⟩
            obtain ⟨P, hP⟩ : ∃ P, P = preB (h.verb ++ ⟨#[32]⟩ ++ t ++ ⟨#[10]⟩ ++ H).data.toList t7.data.toList := ⟨_, rfl⟩
            rw [← hP]
            clear hP
            go_upto_if 88 with fail
            go_cut [6] (fun s6 wx => ∃ t8 : ByteArray, s6 = .string t8 ∧ t8.size ≤ 1440 ∧ wx = wr)
            case first =>
              have hz : ¬ (9223372036854775807 < t7.size + H.size) := by omega
              cases P
              · go_wp2_with fail
                go_meet
                exact ⟨_, rfl, by rw [ByteArray.size_append]; omega, rfl⟩
              · go_wp2_with fail
                go_meet
                exact ⟨_, rfl, by omega, rfl⟩
            case rest =>
              obtain ⟨t8, rfl, ht8, rfl⟩ := hcut
              clear hz7 P
              go_upto_if 94 with fail
              go_cut [6] (fun s6 wx => ∃ t9 : ByteArray, s6 = .string t9 ∧ t9.size ≤ 1480 ∧ Drawn w0 wx B g (m + 65 + 1))
              case first =>
                have hN := spec_numtext (h.body.size : Int)
                have hnl := numT_len (h.body.size : Int)
                have hz1 : ¬ (9223372036854775807 < t8.size + 8) := by omega
                go_wp2_with fail
                · refine (hN _).mono ?_
                  rintro e w4 ⟨rfl, hb4⟩
                  have HD5 := Lib.hid (drawn_under HDr.out hb4 hg hs0)
                  have hnl' : (⟨(numT (h.body.size : Int)).toArray⟩ : ByteArray).size ≤ 6 := by rw [size_len]; simpa using hnl
                  go_wp2_with fail
                  go_meet
                  exact ⟨_, rfl, by simp only [ByteArray.size_append]; rw [show (ByteArray.mk #[76, 101, 110, 103, 116, 104, 58, 32]).size = 8 from rfl, show (ByteArray.mk #[10]).size = 1 from rfl]; omega, HD5.out⟩
                · go_meet
                  exact ⟨_, rfl, by omega, HDr.out⟩
              case rest =>
                obtain ⟨t9, rfl, ht9, hD6⟩ := hcut
                have hrd6 := hD6.1
                obtain ⟨z0, z1, z2, z3, z4, _⟩ := five_facts (HA.out wc _ hD6).1
                clear q0 q1 q2 q3 q4 ht8
                go_wp2_with fail
                refine (pick_any g 12 B (m + 65 + 1) _ (by omega) (by omega) hrd6).mono ?_
                rintro e w5 ⟨r5, rfl, hr5, hd5⟩
                have HD7 := Lib.hid (hD6.trans hd5)
                clear z0 z1 z2 z3 z4 hd5 hD6 hrd6
                go_upto_block 2 with fail
                go_cut [6] (fun s6 wx => ∃ t10 : ByteArray, s6 = .string t10 ∧ t10.size ≤ 1580 ∧ Drawn w0 wx B g (m + 65 + 1 + 5))
                case first =>
                  have hz1 : ¬ (9223372036854775807 < t9.size + 18) := by omega
                  have hz2 : ¬ (9223372036854775807 < t9.size + 14) := by omega
                  have hrd7 := HD7.out.1
                  by_cases e0 : r5 = 0
                  · subst e0
                    go_wp2_with fail
                    go_meet
                    exact ⟨_, rfl, by simp only [ByteArray.size_append]; rw [show (ByteArray.mk #[116, 114, 97, 110, 115, 102, 101, 114, 58, 32, 99, 104, 117, 110, 107, 101, 100, 10]).size = 18 from rfl]; omega, HD7.out.mono (by omega)⟩
                  · by_cases e1 : r5 = 1
                    · subst e1
                      have hz8 : ¬ (9223372036854775807 < t9.size + 8) := by omega
                      go_wp2_with fail
                      refine (pick_any g 4 B (m + 65 + 1 + 1) _ (by omega) (by omega) (hrd7.alloc _)).mono ?_
                      rintro e w6 ⟨r6, rfl, hr6, hd6⟩
                      obtain ⟨s6, hs6, hk6⟩ := lit_str (K := 10) hd6 hrd7.lt (by decide) r6 (by simp; omega)
                      have hr64 : (r6 : Int) < 4 := by omega
                      have HD9 := Lib.hid (HD7.out.trans hd6.of_alloc)
                      have hy1 : ¬ (9223372036854775807 < t9.size + 8 + s6.size) := by omega
                      have hy2 : ¬ (9223372036854775807 < t9.size + 8 + s6.size + 1) := by omega
                      clear hd6 hrd7
                      go_wp2_with fail
                      go_meet
                      exact ⟨_, rfl, by simp only [ByteArray.size_append]; rw [show (ByteArray.mk #[108, 101, 110, 103, 116, 104, 58, 32]).size = 8 from rfl, show (ByteArray.mk #[10]).size = 1 from rfl]; omega, HD9.out.mono (by omega)⟩
                    · have n0 : ((r5 : Int) == 0) = false := by simp; omega
                      have n1 : ((r5 : Int) == 1) = false := by simp; omega
                      by_cases e2 : r5 = 2
                      · subst e2
                        go_wp2_with fail
                        go_meet
                        exact ⟨_, rfl, by simp only [ByteArray.size_append]; rw [show (ByteArray.mk #[104, 111, 115, 116, 58, 32, 111, 116, 104, 101, 114, 46, 120, 10]).size = 14 from rfl]; omega, HD7.out.mono (by omega)⟩
                      · have n2 : ((r5 : Int) == 2) = false := by simp; omega
                        go_wp2_with fail
                        go_meet
                        exact ⟨_, rfl, by omega, HD7.out.mono (by omega)⟩
                case rest =>
                  obtain ⟨t10, rfl, ht10, hD8⟩ := hcut
                  obtain ⟨z0, z1, z2, z3, z4, _⟩ := five_facts (HA.out wc _ hD8).1
                  have HD8 := Lib.hid hD8
                  clear hD8
                  go_wp2_with fail
                  go_ret
                  exact HFin.out _ _ _ HD8.out (by omega) (by simp only [ByteArray.size_append]; rw [show (ByteArray.mk #[10]).size = 1 from rfl]; omega)
end Go.Proofs.YtfiggbhmpeffmaaGreatDoor

