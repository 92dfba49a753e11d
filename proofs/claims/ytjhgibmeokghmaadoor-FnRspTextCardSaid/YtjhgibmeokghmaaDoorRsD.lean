/- Walks: the drawing of answers. -/
import Derived.Test.YtjhgibmeokghmaaDoorRsW
import Derived.Test.YtjhgibmeokghmaaDoorRegR
import Derived.Test.YtjhgibmeokghmaaDoorDrawD
import Derived.Deep.DeepCutAuto
namespace Go.Proofs.YtjhgibmeokghmaaDoor
open Go.RowKit

def codes7 : Array Value := #[.int .i64 200, .int .i64 200, .int .i64 200, .int .i64 404, .int .i64 304, .int .i64 500, .int .i64 204]
def maxs8 : Array Value := #[.int .i64 (-1), .int .i64 0, .int .i64 1, .int .i64 2, .int .i64 3, .int .i64 5, .int .i64 60, .int .i64 999999]
def cods4 : Array Value := #[.int .i64 0, .int .i64 0, .int .i64 1, .int .i64 2]
def bodies5 : Array Value := #[.string ⟨#[]⟩, .string ⟨#[104, 101, 108, 108, 111]⟩, .string ⟨#[116, 119, 101, 110, 116, 121, 45, 98, 121, 116, 101, 115, 45, 101, 120, 97, 99, 116, 108, 121]⟩, .string ⟨#[98, 49]⟩, .string ⟨#[98, 50]⟩]

def intsOk (cs : Array Value) : Bool := cs.toList.all fun v => match v with | .int .i64 _ => true | _ => false
theorem ints_any {cs : Array Value} {r : Nat} (h : intsOk cs = true) (hr : r < cs.size) : ∃ x : Int, cs[r]? = some (.int .i64 x) := by
  have hm : cs[r] ∈ cs.toList := by simp
  unfold intsOk at h
  rw [List.all_eq_true] at h
  have := h _ hm
  rw [Array.getElem?_eq_getElem hr]
  revert this
  generalize cs[r] = v
  intro this
  split at this
  · exact ⟨_, rfl⟩
  · cases this
theorem liti_at {w : World} {b r : Nat} {cs : Array Value} {T : TypeId} (h : w.heap[b]? = some (.cells cs T (0, 0))) (hok : intsOk cs = true) (hr : r < cs.size) : ∃ x : Int, w.cell? ⟨b, r, none⟩ = some (.int .i64 x) := by
  obtain ⟨x, hx⟩ := ints_any hok hr
  exact ⟨x, by rw [cell_of_row w b r cs T (0, 0) h, hx]⟩
/-- An element of a literal of numbers that was built ahead of a draw. -/
theorem lit_num {w w1 : World} {B g m : Nat} {cs : Array Value} {T : TypeId} (hd : Drawn (w.alloc (.cells cs T)) w1 B g m) (hg : g < w.heap.size) (hok : intsOk cs = true) (r : Nat) (hr : r < cs.size) :
    ∃ x : Int, w1.cell? ⟨w.heap.size, r, none⟩ = some (.int .i64 x) :=
  liti_at ((hd.2.block w.heap.size (by simp) (by simp; omega)).trans (heap_alloc_new w _)) hok hr
def RCellI (g : Nat) : Value → World → Prop := fun v w => ∃ b r x, v = .pointer (some ⟨b, r, none⟩) ∧ b ≠ g ∧ w.cell? ⟨b, r, none⟩ = some (.int .i64 x)
def RIntA : Value → World → Prop := fun v _ => ∃ x : Int, v = .int .i64 x
def RRspA : Value → World → Prop := fun v _ => ∃ r : Rp, v = rspV r ∧ r.tag.size ≤ 32 ∧ r.body.size ≤ 32
def RBox6 (g B : Nat) (zs : Array Value) (T : TypeId) : Value → World → Prop := fun v w => ∃ b, v = .pointer (some ⟨b, 0, none⟩) ∧ g < b ∧ B ≤ b ∧ w.heap[b]? = some (.cells zs T (0, 0))
theorem stay_celli (g : Nat) : Stay g (RCellI g) := fun _ _ _ ⟨b, r, x, h1, h2, h3⟩ hg => ⟨b, r, x, h1, h2, hg.cell h3 (fun e => h2 (by injection e))⟩
theorem stay_inta (g : Nat) : Stay g RIntA := fun _ _ _ h _ => h
theorem stay_rspa (g : Nat) : Stay g RRspA := fun _ _ _ h _ => h
theorem stay_box6 (g B : Nat) (zs : Array Value) (T : TypeId) : Stay g (RBox6 g B zs T) := fun _ _ _ ⟨b, h1, h2, h3, h4⟩ hg => ⟨b, h1, h2, h3, block_keep (by omega) h4 hg⟩

/-- The box b holds the answer r, the result's box nothing yet, and the reader has gone on. -/
structure RIn (w W : World) (B g m b : Nat) (r : Rp) : Prop where
  dr : Drawn w W B g m
  res : W.heap[w.heap.size]? = some (.cells #[.int .i64 0, .int .i64 0, .bool false, .string ⟨#[]⟩, .int .i64 0, .string ⟨#[]⟩] 24 (0, 0))
  box : W.heap[b]? = some (.cells #[.int .i64 r.code, .int .i64 r.mx, .bool r.hide, .string r.tag, .int .i64 r.cod, .string r.body] 24 (0, 0))
  lt : w.heap.size < b
  gl : g < w.heap.size
  tag : r.tag.size ≤ 32
  body : r.body.size ≤ 32
theorem RIn.keep {w W W' : World} {B g m m' b : Nat} {r : Rp} (h : RIn w W B g m b r) (hd : Drawn W W' B g m') : RIn w W' B g m' b r := by
  have h1 := h.gl; have h2 := h.lt
  have hb := (Array.getElem?_eq_some_iff.1 h.box).1
  have hr := (Array.getElem?_eq_some_iff.1 h.res).1
  exact ⟨h.dr.trans hd, (hd.2.block _ hr (fun e => by cases e; omega)).trans h.res, (hd.2.block _ hb (fun e => by cases e; omega)).trans h.box, h.lt, h.gl, h.tag, h.body⟩
theorem RIn.mono {w W : World} {B g m m' b : Nat} {r : Rp} (h : RIn w W B g m b r) (hm : m ≤ m') : RIn w W B g m' b r := ⟨h.dr.mono hm, h.res, h.box, h.lt, h.gl, h.tag, h.body⟩
theorem RIn.rd {w W : World} {B g m b : Nat} {r : Rp} (h : RIn w W B g m b r) : RdAt W B g m := h.dr.1
theorem drawn_set {w W : World} {B g m b k : Nat} {v : Value} (h : Drawn w W B g m) (hb : w.heap.size ≤ b) (hg : g < b) : Drawn w (W.setCell ⟨b, k, none⟩ v) B g m :=
  ⟨h.1.keep (fun j hj => heap_setCell_other W ⟨b, k, none⟩ j _ (by simp; omega)),
   ⟨h.2.os, h.2.tape, h.2.output, by simpa using h.2.size, fun j hj hn => (heap_setCell_other W ⟨b, k, none⟩ j _ (by simp; omega)).trans (h.2.block j hj hn)⟩⟩
theorem RIn.set {w W : World} {B g m b k : Nat} {r r' : Rp} {v : Value} (h : RIn w W B g m b r)
    (hc : (#[.int .i64 r.code, .int .i64 r.mx, .bool r.hide, .string r.tag, .int .i64 r.cod, .string r.body] : Array Value).setIfInBounds k v = #[.int .i64 r'.code, .int .i64 r'.mx, .bool r'.hide, .string r'.tag, .int .i64 r'.cod, .string r'.body]) (ht : r'.tag.size ≤ 32) (hb : r'.body.size ≤ 32) :
    RIn w (W.setCell ⟨b, k, none⟩ v) B g m b r' := by
  have h1 := h.gl; have h2 := h.lt
  refine ⟨drawn_set h.dr (by omega) (by omega), (heap_setCell_other W ⟨b, k, none⟩ _ _ (by simp; omega)).trans h.res, ?_, h.lt, h.gl, ht, hb⟩
  rw [← hc]
  exact heap_setCell_same W b k _ _ v h.box
def DrawnRsp (w : World) (B g m : Nat) (e : Ending) (w' : World) : Prop := ∃ r : Rp, e = .returned (rspV r) ∧ r.tag.size ≤ 32 ∧ r.body.size ≤ 32 ∧ Drawn w w' B g m
theorem RIn.fin {w W : World} {B g m b : Nat} {r : Rp} (h : RIn w W B g m b r) (a c d e f x : Value) :
    Drawn w (set6 W w.heap.size a c d e f x) B g m ∧ (set6 W w.heap.size a c d e f x).heap[w.heap.size]? = some (.cells #[a, c, d, e, f, x] 24 (0, 0)) := by
  have h1 := h.gl
  refine ⟨?_, six_set h.res _ _ _ _ _ _⟩
  unfold set6
  exact drawn_set (drawn_set (drawn_set (drawn_set (drawn_set (drawn_set h.dr (Nat.le_refl _) h1) (Nat.le_refl _) h1) (Nat.le_refl _) h1) (Nat.le_refl _) h1) (Nat.le_refl _) h1) (Nat.le_refl _) h1

set_option maxRecDepth 100000 in
set_option maxHeartbeats 6400000 in
theorem rsp_any (g B m : Nat) (q : Int) (w : World) (hm : m ≤ 500000) (hq : q ≤ 1000000) (hq0 : 0 ≤ q) (h : RdAt w B g m) :
    Calls Tryd.prog 41 #[.pointer (some ⟨g, 0, none⟩), .int .i64 q] w (DrawnRsp w B g (m + 60)) := by
  have hg := h.lt
  have HFin : Hid (∀ W b (r : Rp), RIn w W B g (m + 60) b r → ∃ z0 z1 z2 z3 z4 z5 : Value, True) := Lib.hid fun _ _ _ _ => ⟨undef, undef, undef, undef, undef, undef, trivial⟩
  clear HFin
  go_enter Tryd.func41, Tryd.ntmps41
  go_wp2_with fail
  obtain ⟨w0, hw0⟩ : ∃ w0, w0 = w.alloc (.cells #[.int .i64 0, .int .i64 0, .bool false, .string ⟨#[]⟩, .int .i64 0, .string ⟨#[]⟩] 24) := ⟨_, rfl⟩
  have hr0 : w0.heap[w.heap.size]? = some (.cells #[.int .i64 0, .int .i64 0, .bool false, .string ⟨#[]⟩, .int .i64 0, .string ⟨#[]⟩] 24 (0, 0)) := by rw [hw0]; exact heap_alloc_new w _
  have hd0 : Drawn w w0 B g m := by rw [hw0]; exact (Drawn.refl h).alloc _
  have hs0 : w0.heap.size = w.heap.size + 1 := by rw [hw0]; simp
  rw [← hw0]
  refine wp_region_last (by kernel_rfl) 22 (by kernel_rfl) (by kernel_rfl) (by kernel_rfl)
    (fun u => { tmps := #[.pointer (some ⟨g, 0, none⟩), .int .i64 q, undef, undef, .pointer (some ⟨w.heap.size, 0, none⟩), u 21, u 0, u 1, u 2, u 3, u 4, u 5, u 6, u 7, u 8, u 9, u 10, u 11, u 12, u 13, u 14, u 15, u 16, u 17, u 18, u 19, u 20, undef, undef, undef, undef, undef, undef, undef, undef, undef, undef, undef, undef, undef, undef, undef, undef, undef, undef, undef, undef, undef, undef, undef, undef, undef, undef, undef, undef, undef, undef, undef, undef, undef, undef, undef, undef, undef, undef, undef, undef, undef, undef, undef, undef, undef, undef, undef, undef, undef, undef, undef], defers := [] })
    (CAtK w0 B g m 1)
    (RAt [RLit g 7 codes7 3, REq (.pointer (some ⟨g, 0, none⟩)), RNum 7, RCellI g, RIntA, RLit g 8 maxs8 3, REq (.pointer (some ⟨g, 0, none⟩)), RNum 8, RCellI g, RIntA, RLit g 4 cods4 3, REq (.pointer (some ⟨g, 0, none⟩)), RNum 4, RCellI g, RIntA, RLit g 5 bodies5 9, REq (.pointer (some ⟨g, 0, none⟩)), RNum 5, RCell g 32, RStr 32, RRspA, RBox6 g (w.heap.size + 1) #[.int .i64 0, .int .i64 0, .bool false, .string ⟨#[]⟩, .int .i64 0, .string ⟨#[]⟩] 24])
    (fun w w' => w.grownBy w' (some g)) (fun _ => undef) ⟨(Drawn.refl hd0.1).drew, hd0.1.lt⟩
    (fun i v w w' _ hR hle => stay_at (g := g) (by exact ⟨stay_lit _ _ _ _, stay_eq _ _, stay_num _ _, stay_celli _, stay_inta _, stay_lit _ _ _ _, stay_eq _ _, stay_num _ _, stay_celli _, stay_inta _, stay_lit _ _ _ _, stay_eq _ _, stay_num _ _, stay_celli _, stay_inta _, stay_lit _ _ _ _, stay_eq _ _, stay_num _ _, stay_cell _ _, stay_str _ _, stay_rspa _, stay_box6 _ _ _ _, trivial⟩) v w w' hR hle) ?_ ?_
  · intro i hi u w1 k hk hC hd
    have hlt := catk_lt hC
    have hsz : w0.heap.size ≤ w1.heap.size := hC.1.2.size
    match i, hi with
    | 0, _ =>
      refine wpOp_step rfl (fun K hK => ?_)
      clear hd
      go_simp
      exact hK _ _ ⟨_, rfl, ⟨_, rfl, by omega, heap_alloc_new w1 _⟩, World.grownBy_alloc _ _ _, catk_alloc hC _⟩
    | 1, _ =>
      refine wpOp_step rfl (fun K hK => ?_)
      clear hd
      go_simp
      exact hK _ _ ⟨_, rfl, rfl, World.grownBy.refl _ _, catk_same hC⟩
    | 2, _ =>
      have e1 : u 1 = .pointer (some ⟨g, 0, none⟩) := hd 1 (dep_of (by kernel_rfl))
      refine wpOp_step rfl (fun K hK => ?_)
      clear hd
      go_simp
      refine (pick_lit g 7 7 rfl (by decide) B (m + 1 * k) _ (by omega) (by decide) hC.1.1).mono ?_
      rintro e w2 ⟨r, rfl, hr, -, hd2⟩
      exact hK _ _ ⟨_, by simp [upd, e1], ⟨r, rfl, hr⟩, hd2.2, catk_drawn hC hd2 (by omega)⟩
    | 3, _ =>
      obtain ⟨b, e0, hbg, hb⟩ : RLit g 7 codes7 3 (u 0) w1 := hd 0 (dep_of (by kernel_rfl))
      obtain ⟨r, e2, hr⟩ : RNum 7 (u 2) w1 := hd 2 (dep_of (by kernel_rfl))
      obtain ⟨x, hx⟩ := liti_at hb (by decide) (r := r) hr
      have hr6 : (r : Int) < 7 := by omega
      refine wpOp_step rfl (fun K hK => ?_)
      clear hd
      go_simp
      exact hK _ _ ⟨_, by simp [upd, e0, e2], ⟨b, r, x, rfl, hbg, hx⟩, World.grownBy.refl _ _, catk_same hC⟩
    | 4, _ =>
      obtain ⟨b, r, x, e3, hbg, hx⟩ : RCellI g (u 3) w1 := hd 3 (dep_of (by kernel_rfl))
      refine wpOp_step rfl (fun K hK => ?_)
      clear hd
      go_simp
      exact hK _ _ ⟨_, by simp [upd, e3], ⟨x, rfl⟩, World.grownBy.refl _ _, catk_same hC⟩
    | 5, _ =>
      refine wpOp_step rfl (fun K hK => ?_)
      clear hd
      go_simp
      exact hK _ _ ⟨_, rfl, ⟨_, rfl, by omega, heap_alloc_new w1 _⟩, World.grownBy_alloc _ _ _, catk_alloc hC _⟩
    | 6, _ =>
      refine wpOp_step rfl (fun K hK => ?_)
      clear hd
      go_simp
      exact hK _ _ ⟨_, rfl, rfl, World.grownBy.refl _ _, catk_same hC⟩
    | 7, _ =>
      have e1 : u 6 = .pointer (some ⟨g, 0, none⟩) := hd 6 (dep_of (by kernel_rfl))
      refine wpOp_step rfl (fun K hK => ?_)
      clear hd
      go_simp
      refine (pick_lit g 8 8 rfl (by decide) B (m + 1 * k) _ (by omega) (by decide) hC.1.1).mono ?_
      rintro e w2 ⟨r, rfl, hr, -, hd2⟩
      exact hK _ _ ⟨_, by simp [upd, e1], ⟨r, rfl, hr⟩, hd2.2, catk_drawn hC hd2 (by omega)⟩
    | 8, _ =>
      obtain ⟨b, e0, hbg, hb⟩ : RLit g 8 maxs8 3 (u 5) w1 := hd 5 (dep_of (by kernel_rfl))
      obtain ⟨r, e2, hr⟩ : RNum 8 (u 7) w1 := hd 7 (dep_of (by kernel_rfl))
      obtain ⟨x, hx⟩ := liti_at hb (by decide) (r := r) hr
      have hr6 : (r : Int) < 8 := by omega
      refine wpOp_step rfl (fun K hK => ?_)
      clear hd
      go_simp
      exact hK _ _ ⟨_, by simp [upd, e0, e2], ⟨b, r, x, rfl, hbg, hx⟩, World.grownBy.refl _ _, catk_same hC⟩
    | 9, _ =>
      obtain ⟨b, r, x, e3, hbg, hx⟩ : RCellI g (u 8) w1 := hd 8 (dep_of (by kernel_rfl))
      refine wpOp_step rfl (fun K hK => ?_)
      clear hd
      go_simp
      exact hK _ _ ⟨_, by simp [upd, e3], ⟨x, rfl⟩, World.grownBy.refl _ _, catk_same hC⟩
    | 10, _ =>
      refine wpOp_step rfl (fun K hK => ?_)
      clear hd
      go_simp
      exact hK _ _ ⟨_, rfl, ⟨_, rfl, by omega, heap_alloc_new w1 _⟩, World.grownBy_alloc _ _ _, catk_alloc hC _⟩
    | 11, _ =>
      refine wpOp_step rfl (fun K hK => ?_)
      clear hd
      go_simp
      exact hK _ _ ⟨_, rfl, rfl, World.grownBy.refl _ _, catk_same hC⟩
    | 12, _ =>
      have e1 : u 11 = .pointer (some ⟨g, 0, none⟩) := hd 11 (dep_of (by kernel_rfl))
      refine wpOp_step rfl (fun K hK => ?_)
      clear hd
      go_simp
      refine (pick_lit g 4 4 rfl (by decide) B (m + 1 * k) _ (by omega) (by decide) hC.1.1).mono ?_
      rintro e w2 ⟨r, rfl, hr, -, hd2⟩
      exact hK _ _ ⟨_, by simp [upd, e1], ⟨r, rfl, hr⟩, hd2.2, catk_drawn hC hd2 (by omega)⟩
    | 13, _ =>
      obtain ⟨b, e0, hbg, hb⟩ : RLit g 4 cods4 3 (u 10) w1 := hd 10 (dep_of (by kernel_rfl))
      obtain ⟨r, e2, hr⟩ : RNum 4 (u 12) w1 := hd 12 (dep_of (by kernel_rfl))
      obtain ⟨x, hx⟩ := liti_at hb (by decide) (r := r) hr
      have hr6 : (r : Int) < 4 := by omega
      refine wpOp_step rfl (fun K hK => ?_)
      clear hd
      go_simp
      exact hK _ _ ⟨_, by simp [upd, e0, e2], ⟨b, r, x, rfl, hbg, hx⟩, World.grownBy.refl _ _, catk_same hC⟩
    | 14, _ =>
      obtain ⟨b, r, x, e3, hbg, hx⟩ : RCellI g (u 13) w1 := hd 13 (dep_of (by kernel_rfl))
      refine wpOp_step rfl (fun K hK => ?_)
      clear hd
      go_simp
      exact hK _ _ ⟨_, by simp [upd, e3], ⟨x, rfl⟩, World.grownBy.refl _ _, catk_same hC⟩
    | 15, _ =>
      refine wpOp_step rfl (fun K hK => ?_)
      clear hd
      go_simp
      exact hK _ _ ⟨_, rfl, ⟨_, rfl, by omega, heap_alloc_new w1 _⟩, World.grownBy_alloc _ _ _, catk_alloc hC _⟩
    | 16, _ =>
      refine wpOp_step rfl (fun K hK => ?_)
      clear hd
      go_simp
      exact hK _ _ ⟨_, rfl, rfl, World.grownBy.refl _ _, catk_same hC⟩
    | 17, _ =>
      have e1 : u 16 = .pointer (some ⟨g, 0, none⟩) := hd 16 (dep_of (by kernel_rfl))
      refine wpOp_step rfl (fun K hK => ?_)
      clear hd
      go_simp
      refine (pick_lit g 5 5 rfl (by decide) B (m + 1 * k) _ (by omega) (by decide) hC.1.1).mono ?_
      rintro e w2 ⟨r, rfl, hr, -, hd2⟩
      exact hK _ _ ⟨_, by simp [upd, e1], ⟨r, rfl, hr⟩, hd2.2, catk_drawn hC hd2 (by omega)⟩
    | 18, _ =>
      obtain ⟨b, e0, hbg, hb⟩ : RLit g 5 bodies5 9 (u 15) w1 := hd 15 (dep_of (by kernel_rfl))
      obtain ⟨r, e2, hr⟩ : RNum 5 (u 17) w1 := hd 17 (dep_of (by kernel_rfl))
      obtain ⟨x, hx, hk3⟩ := lit_at (K := 32) hb (by decide) (r := r) hr
      have hr6 : (r : Int) < 5 := by omega
      refine wpOp_step rfl (fun K hK => ?_)
      clear hd
      go_simp
      exact hK _ _ ⟨_, by simp [upd, e0, e2], ⟨b, r, x, rfl, hbg, hx, hk3⟩, World.grownBy.refl _ _, catk_same hC⟩
    | 19, _ =>
      obtain ⟨b, r, x, e3, hbg, hx, hk3⟩ : RCell g 32 (u 18) w1 := hd 18 (dep_of (by kernel_rfl))
      refine wpOp_step rfl (fun K hK => ?_)
      clear hd
      go_simp
      exact hK _ _ ⟨_, by simp [upd, e3], ⟨x, rfl, hk3⟩, World.grownBy.refl _ _, catk_same hC⟩
    | 20, _ =>
      obtain ⟨c, e4⟩ : RIntA (u 4) w1 := hd 4 (dep_of (by kernel_rfl))
      obtain ⟨mx, e9⟩ : RIntA (u 9) w1 := hd 9 (dep_of (by kernel_rfl))
      obtain ⟨cd, e14⟩ : RIntA (u 14) w1 := hd 14 (dep_of (by kernel_rfl))
      obtain ⟨bd, e19, hbd⟩ : RStr 32 (u 19) w1 := hd 19 (dep_of (by kernel_rfl))
      refine wpOp_step rfl (fun K hK => ?_)
      clear hd
      go_simp
      refine hK _ _ ⟨rspV ⟨c, mx, false, ⟨#[]⟩, cd, bd⟩, ?_, ⟨⟨c, mx, false, ⟨#[]⟩, cd, bd⟩, rfl, (show (ByteArray.mk #[]).size ≤ 32 from by decide), hbd⟩, World.grownBy.refl _ _, catk_same hC⟩
      simp [upd, e4, e9, e14, e19, rspV]
    | 21, _ =>
      refine wpOp_step rfl (fun K hK => ?_)
      clear hd
      go_simp
      exact hK _ _ ⟨_, rfl, ⟨_, rfl, by omega, by omega, heap_alloc_new w1 _⟩, World.grownBy_alloc _ _ _, catk_alloc hC _⟩
    | n + 22, hn => exact absurd hn (by omega)
  · intro u w1 k hk hC hd
    obtain ⟨r0, e20, ht0, hb0⟩ : RRspA (u 20) w1 := hd 20 (by decide)
    obtain ⟨bx, e21, hgb, hBb, hbx⟩ : RBox6 g (w.heap.size + 1) #[.int .i64 0, .int .i64 0, .bool false, .string ⟨#[]⟩, .int .i64 0, .string ⟨#[]⟩] 24 (u 21) w1 := hd 21 (by decide)
    have hD1 := (hd0.trans hC.1).mono (show m + 1 * k ≤ m + 22 by omega)
    have hres : w1.heap[w.heap.size]? = some (.cells #[.int .i64 0, .int .i64 0, .bool false, .string ⟨#[]⟩, .int .i64 0, .string ⟨#[]⟩] 24 (0, 0)) := (hC.1.2.block _ (by omega) (fun e => by cases e; omega)).trans hr0
    obtain ⟨c, mx, hd', t, cd, bd⟩ := r0
    unfold rspV at e20
    dsimp only at e20 ht0 hb0
    have hI : RIn w (set6 w1 bx (.int .i64 c) (.int .i64 mx) (.bool hd') (.string t) (.int .i64 cd) (.string bd)) B g (m + 22) bx ⟨c, mx, hd', t, cd, bd⟩ := by
      have k1 := six_set hbx (.int .i64 c) (.int .i64 mx) (.bool hd') (.string t) (.int .i64 cd) (.string bd)
      refine ⟨?_, ?_, k1, by omega, hg, ht0, hb0⟩
      · unfold set6
        exact drawn_set (drawn_set (drawn_set (drawn_set (drawn_set (drawn_set hD1 (by omega) hgb) (by omega) hgb) (by omega) hgb) (by omega) hgb) (by omega) hgb) (by omega) hgb
      · exact ((grown_set6 w1 bx _ _ _ _ _ _).block _ (by have := (Array.getElem?_eq_some_iff.1 hres).1; exact this) (fun e => by cases e; omega)).trans hres
    obtain ⟨y0, y1, y2, y3, y4, y5⟩ := six_facts hbx
    obtain ⟨f0, f1, f2, f3, f4, f5⟩ := six_frozen hbx
    refine wpOp_step rfl (fun K hK => ?_)
    clear hd
    go_simp
    refine hK _ _ ?_
    unfold set6 at hI
    obtain ⟨W, hW⟩ : ∃ x, x = (((((w1.setCell ⟨bx, 0, none⟩ (.int .i64 c)).setCell ⟨bx, 1, none⟩ (.int .i64 mx)).setCell ⟨bx, 2, none⟩ (.bool hd')).setCell ⟨bx, 3, none⟩ (.string t)).setCell ⟨bx, 4, none⟩ (.int .i64 cd)).setCell ⟨bx, 5, none⟩ (.string bd) := ⟨_, rfl⟩
    rw [← hW] at hI ⊢
    have hrd := hI.rd
    have HI := Lib.hid hI
    clear hK K y0 y1 y2 y3 y4 y5 f0 f1 f2 f3 f4 f5 hW hbx hres hD1 hd0 hr0 hC e20 e21 ht0 hb0 hI
    go_wp2_with fail
    refine (pick_lit g 2 2 rfl (by decide) B (m + 22) _ (by omega) (by decide) hrd).mono ?_
    rintro e w3 ⟨r3, rfl, hr3, -, hd3⟩
    have hI3 := HI.out.keep hd3
    clear HI hd3 hrd
    have hrd := hI3.rd
    obtain ⟨_, _, _, x3, _, _⟩ := six_facts hI3.box
    obtain ⟨_, _, _, f3, _, _⟩ := six_frozen hI3.box
    have HI3 := Lib.hid hI3
    clear hI3
    go_upto_if 29 with fail
    go_cut [] (fun wx => ∃ r : Rp, RIn w wx B g (m + 30) bx r)
    case first =>
      have h3 : r3 = 0 ∨ r3 = 1 := by omega
      rcases h3 with rfl | rfl
      · go_wp2_with fail
        refine (pick_lit g 3 3 rfl (by decide) B (m + 22 + 1) _ (by omega) (by decide) (hrd.alloc _)).mono ?_
        rintro e w4 ⟨r4, rfl, hr4, hr4', hd4⟩
        obtain ⟨x, hx, hxk⟩ := lit_str (K := 32) hd4 hrd.lt (by decide) r4 (by simp; omega)
        have hI4 := HI3.out.keep hd4.of_alloc
        clear x3 f3
        obtain ⟨_, _, _, x3, _, _⟩ := six_facts hI4.box
        obtain ⟨_, _, _, f3, _, _⟩ := six_frozen hI4.box
        have HI4 := Lib.hid ((hI4.set (k := 3) (v := .string x) (r' := ⟨c, mx, hd', x, cd, bd⟩) (by rfl) hxk hI4.body).mono (show _ ≤ m + 30 by omega))
        clear hI4 hd4
        go_wp2_with fail
        go_meet
        exact ⟨_, HI4.out⟩
      · go_wp2_with fail
        go_meet
        exact ⟨_, HI3.out.mono (by omega)⟩
    case rest =>
      clear x3 f3 hrd HI3
      obtain ⟨r, hI⟩ := hcut
      obtain ⟨c, mx, hd', t, cd, bd⟩ := r
      have hrd := hI.rd
      have HI := Lib.hid hI
      clear hI
      go_wp2_with fail
      refine (odd_any g 8 B (m + 30) _ (by omega) (by decide) (by decide) hrd).mono ?_
      rintro e w4 ⟨o4, rfl, hd4⟩
      have hI4 := HI.out.keep hd4
      obtain ⟨_, _, x2, _, _, _⟩ := six_facts hI4.box
      obtain ⟨_, _, f2, _, _, _⟩ := six_frozen hI4.box
      have hI5 := hI4.set (k := 2) (v := .bool o4) (r' := ⟨c, mx, o4, t, cd, bd⟩) (by rfl) hI4.tag hI4.body
      have hrd5 := hI5.rd
      have HI5 := Lib.hid hI5
      clear hI4 hI5 hd4 HI hrd
      go_wp2_with fail
      refine (odd_any g q B (m + 30 + 1) _ (by omega) hq hq0 hrd5).mono ?_
      rintro e w6 ⟨o6, rfl, hd6⟩
      have hI6 := HI5.out.keep hd6
      clear HI5 hd6 hrd5 x2 f2
      cases o6
      · obtain ⟨q0, q1, q2, q3, q4, q5⟩ := six_facts hI6.box
        obtain ⟨p0, p1, p2, p3, p4, p5⟩ := six_facts hI6.res
        obtain ⟨d0, d1, d2, d3, d4, d5⟩ := six_frozen hI6.res
        obtain ⟨hF, hz⟩ := hI6.fin (.int .i64 c) (.int .i64 mx) (.bool o4) (.string t) (.int .i64 cd) (.string bd)
        have HF := Lib.hid (And.intro hI6.tag (And.intro hI6.body (hF.mono (show _ ≤ m + 60 by omega))))
        clear hI6 hF
        unfold set6 at hz HF
        obtain ⟨z0, z1, z2, z3, z4, z5⟩ := six_facts hz
        have HZ := Lib.hid (And.intro z0 (And.intro z1 (And.intro z2 (And.intro z3 (And.intro z4 z5)))))
        clear hz z0 z1 z2 z3 z4 z5
        go_wp2_with fail
        obtain ⟨z0, z1, z2, z3, z4, z5⟩ := HZ.out
        refine bodyPost_ret (v := .agg #[.int .i64 c, .int .i64 mx, .bool o4, .string t, .int .i64 cd, .string bd]) (by simp [results, Tryd.results41, go_sem, z0, z1, z2, z3, z4, z5]) rfl ?_
        exact ⟨⟨c, mx, o4, t, cd, bd⟩, rfl, HF.out⟩
      · have hrd := hI6.rd
        have HI6 := Lib.hid hI6
        clear hI6
        go_wp2_with fail
        refine (pick_lit g 5 5 rfl (by decide) B (m + 30 + 1 + 1) _ (by omega) (by decide) hrd).mono ?_
        rintro e w7 ⟨r7, rfl, hr7, -, hd7⟩
        have hI7 := HI6.out.keep hd7
        clear HI6 hd7 hrd
        have hrd := hI7.rd
        have HI7 := Lib.hid hI7
        obtain ⟨x0, x1, _, x3, x4, x5⟩ := six_facts hI7.box
        obtain ⟨f0, f1, _, f3, f4, f5⟩ := six_frozen hI7.box
        clear hI7
        have h7 : r7 = 0 ∨ r7 = 1 ∨ r7 = 2 ∨ r7 = 3 ∨ r7 = 4 := by omega
        rcases h7 with rfl | rfl | rfl | rfl | rfl

        · go_wp2_with fail
          refine (pick_lit g 3 3 rfl (by decide) B (m + 30 + 1 + 1 + 1) _ (by omega) (by decide) (hrd.alloc _)).mono ?_
          rintro e w8 ⟨r8, rfl, hr8, hr8', hd8⟩
          obtain ⟨x, hx⟩ := lit_num hd8 hrd.lt (by decide) r8 (by simp; omega)
          have hI8 := HI7.out.keep hd8.of_alloc
          clear x0 x1 x3 x4 x5 f0 f1 f3 f4 f5 HI7 hd8
          obtain ⟨x0, x1, _, x3, x4, x5⟩ := six_facts hI8.box
          obtain ⟨f0, f1, _, f3, f4, f5⟩ := six_frozen hI8.box
          have hI9 := hI8.set (k := 0) (v := .int .i64 x) (r' := ⟨x, mx, o4, t, cd, bd⟩) (by rfl) hI8.tag hI8.body
          clear hI8
          obtain ⟨q0, q1, q2, q3, q4, q5⟩ := six_facts hI9.box
          obtain ⟨p0, p1, p2, p3, p4, p5⟩ := six_facts hI9.res
          obtain ⟨d0, d1, d2, d3, d4, d5⟩ := six_frozen hI9.res
          obtain ⟨hF, hz⟩ := hI9.fin (.int .i64 x) (.int .i64 mx) (.bool o4) (.string t) (.int .i64 cd) (.string bd)
          have HF := Lib.hid (And.intro hI9.tag (And.intro hI9.body (hF.mono (show _ ≤ m + 60 by omega))))
          clear hI9 hF
          unfold set6 at hz HF
          obtain ⟨z0, z1, z2, z3, z4, z5⟩ := six_facts hz
          have HZ := Lib.hid (And.intro z0 (And.intro z1 (And.intro z2 (And.intro z3 (And.intro z4 z5)))))
          clear hz z0 z1 z2 z3 z4 z5
          go_wp2_with fail
          obtain ⟨z0, z1, z2, z3, z4, z5⟩ := HZ.out
          refine bodyPost_ret (v := .agg #[.int .i64 x, .int .i64 mx, .bool o4, .string t, .int .i64 cd, .string bd]) (by simp [results, Tryd.results41, go_sem, z0, z1, z2, z3, z4, z5]) rfl ?_
          exact ⟨⟨x, mx, o4, t, cd, bd⟩, rfl, HF.out⟩
        · go_wp2_with fail
          refine (pick_lit g 2 2 rfl (by decide) B (m + 30 + 1 + 1 + 1) _ (by omega) (by decide) (hrd.alloc _)).mono ?_
          rintro e w8 ⟨r8, rfl, hr8, hr8', hd8⟩
          obtain ⟨x, hx⟩ := lit_num hd8 hrd.lt (by decide) r8 (by simp; omega)
          have hI8 := HI7.out.keep hd8.of_alloc
          clear x0 x1 x3 x4 x5 f0 f1 f3 f4 f5 HI7 hd8
          obtain ⟨x0, x1, _, x3, x4, x5⟩ := six_facts hI8.box
          obtain ⟨f0, f1, _, f3, f4, f5⟩ := six_frozen hI8.box
          have hI9 := hI8.set (k := 1) (v := .int .i64 x) (r' := ⟨c, x, o4, t, cd, bd⟩) (by rfl) hI8.tag hI8.body
          clear hI8
          obtain ⟨q0, q1, q2, q3, q4, q5⟩ := six_facts hI9.box
          obtain ⟨p0, p1, p2, p3, p4, p5⟩ := six_facts hI9.res
          obtain ⟨d0, d1, d2, d3, d4, d5⟩ := six_frozen hI9.res
          obtain ⟨hF, hz⟩ := hI9.fin (.int .i64 c) (.int .i64 x) (.bool o4) (.string t) (.int .i64 cd) (.string bd)
          have HF := Lib.hid (And.intro hI9.tag (And.intro hI9.body (hF.mono (show _ ≤ m + 60 by omega))))
          clear hI9 hF
          unfold set6 at hz HF
          obtain ⟨z0, z1, z2, z3, z4, z5⟩ := six_facts hz
          have HZ := Lib.hid (And.intro z0 (And.intro z1 (And.intro z2 (And.intro z3 (And.intro z4 z5)))))
          clear hz z0 z1 z2 z3 z4 z5
          go_wp2_with fail
          obtain ⟨z0, z1, z2, z3, z4, z5⟩ := HZ.out
          refine bodyPost_ret (v := .agg #[.int .i64 c, .int .i64 x, .bool o4, .string t, .int .i64 cd, .string bd]) (by simp [results, Tryd.results41, go_sem, z0, z1, z2, z3, z4, z5]) rfl ?_
          exact ⟨⟨c, x, o4, t, cd, bd⟩, rfl, HF.out⟩
        · have hI8 := HI7.out
          clear HI7
          have hI9 := hI8.set (k := 3) (v := .string ⟨#[66, 97, 100, 32, 116, 97, 103]⟩) (r' := ⟨c, mx, o4, ⟨#[66, 97, 100, 32, 116, 97, 103]⟩, cd, bd⟩) (by rfl) (show (ByteArray.mk #[66, 97, 100, 32, 116, 97, 103]).size ≤ 32 from by decide) hI8.body
          clear hI8
          obtain ⟨q0, q1, q2, q3, q4, q5⟩ := six_facts hI9.box
          obtain ⟨p0, p1, p2, p3, p4, p5⟩ := six_facts hI9.res
          obtain ⟨d0, d1, d2, d3, d4, d5⟩ := six_frozen hI9.res
          obtain ⟨hF, hz⟩ := hI9.fin (.int .i64 c) (.int .i64 mx) (.bool o4) (.string ⟨#[66, 97, 100, 32, 116, 97, 103]⟩) (.int .i64 cd) (.string bd)
          have HF := Lib.hid (And.intro hI9.tag (And.intro hI9.body (hF.mono (show _ ≤ m + 60 by omega))))
          clear hI9 hF
          unfold set6 at hz HF
          obtain ⟨z0, z1, z2, z3, z4, z5⟩ := six_facts hz
          have HZ := Lib.hid (And.intro z0 (And.intro z1 (And.intro z2 (And.intro z3 (And.intro z4 z5)))))
          clear hz z0 z1 z2 z3 z4 z5
          go_wp2_with fail
          obtain ⟨z0, z1, z2, z3, z4, z5⟩ := HZ.out
          refine bodyPost_ret (v := .agg #[.int .i64 c, .int .i64 mx, .bool o4, .string ⟨#[66, 97, 100, 32, 116, 97, 103]⟩, .int .i64 cd, .string bd]) (by simp [results, Tryd.results41, go_sem, z0, z1, z2, z3, z4, z5]) rfl ?_
          exact ⟨⟨c, mx, o4, ⟨#[66, 97, 100, 32, 116, 97, 103]⟩, cd, bd⟩, rfl, HF.out⟩
        · go_wp2_with fail
          refine (pick_lit g 2 2 rfl (by decide) B (m + 30 + 1 + 1 + 1) _ (by omega) (by decide) (hrd.alloc _)).mono ?_
          rintro e w8 ⟨r8, rfl, hr8, hr8', hd8⟩
          obtain ⟨x, hx⟩ := lit_num hd8 hrd.lt (by decide) r8 (by simp; omega)
          have hI8 := HI7.out.keep hd8.of_alloc
          clear x0 x1 x3 x4 x5 f0 f1 f3 f4 f5 HI7 hd8
          obtain ⟨x0, x1, _, x3, x4, x5⟩ := six_facts hI8.box
          obtain ⟨f0, f1, _, f3, f4, f5⟩ := six_frozen hI8.box
          have hI9 := hI8.set (k := 4) (v := .int .i64 x) (r' := ⟨c, mx, o4, t, x, bd⟩) (by rfl) hI8.tag hI8.body
          clear hI8
          obtain ⟨q0, q1, q2, q3, q4, q5⟩ := six_facts hI9.box
          obtain ⟨p0, p1, p2, p3, p4, p5⟩ := six_facts hI9.res
          obtain ⟨d0, d1, d2, d3, d4, d5⟩ := six_frozen hI9.res
          obtain ⟨hF, hz⟩ := hI9.fin (.int .i64 c) (.int .i64 mx) (.bool o4) (.string t) (.int .i64 x) (.string bd)
          have HF := Lib.hid (And.intro hI9.tag (And.intro hI9.body (hF.mono (show _ ≤ m + 60 by omega))))
          clear hI9 hF
          unfold set6 at hz HF
          obtain ⟨z0, z1, z2, z3, z4, z5⟩ := six_facts hz
          have HZ := Lib.hid (And.intro z0 (And.intro z1 (And.intro z2 (And.intro z3 (And.intro z4 z5)))))
          clear hz z0 z1 z2 z3 z4 z5
          go_wp2_with fail
          obtain ⟨z0, z1, z2, z3, z4, z5⟩ := HZ.out
          refine bodyPost_ret (v := .agg #[.int .i64 c, .int .i64 mx, .bool o4, .string t, .int .i64 x, .string bd]) (by simp [results, Tryd.results41, go_sem, z0, z1, z2, z3, z4, z5]) rfl ?_
          exact ⟨⟨c, mx, o4, t, x, bd⟩, rfl, HF.out⟩
        · go_wp2_with fail
          refine (pick_lit g 2 2 rfl (by decide) B (m + 30 + 1 + 1 + 1) _ (by omega) (by decide) (hrd.alloc _)).mono ?_
          rintro e w8 ⟨r8, rfl, hr8, hr8', hd8⟩
          obtain ⟨x, hx, hxk⟩ := lit_str (K := 32) hd8 hrd.lt (by decide) r8 (by simp; omega)
          have hI8 := HI7.out.keep hd8.of_alloc
          clear x0 x1 x3 x4 x5 f0 f1 f3 f4 f5 HI7 hd8
          obtain ⟨x0, x1, _, x3, x4, x5⟩ := six_facts hI8.box
          obtain ⟨f0, f1, _, f3, f4, f5⟩ := six_frozen hI8.box
          have hI9 := hI8.set (k := 5) (v := .string x) (r' := ⟨c, mx, o4, t, cd, x⟩) (by rfl) hI8.tag hxk
          clear hI8
          obtain ⟨q0, q1, q2, q3, q4, q5⟩ := six_facts hI9.box
          obtain ⟨p0, p1, p2, p3, p4, p5⟩ := six_facts hI9.res
          obtain ⟨d0, d1, d2, d3, d4, d5⟩ := six_frozen hI9.res
          obtain ⟨hF, hz⟩ := hI9.fin (.int .i64 c) (.int .i64 mx) (.bool o4) (.string t) (.int .i64 cd) (.string x)
          have HF := Lib.hid (And.intro hI9.tag (And.intro hI9.body (hF.mono (show _ ≤ m + 60 by omega))))
          clear hI9 hF
          unfold set6 at hz HF
          obtain ⟨z0, z1, z2, z3, z4, z5⟩ := six_facts hz
          have HZ := Lib.hid (And.intro z0 (And.intro z1 (And.intro z2 (And.intro z3 (And.intro z4 z5)))))
          clear hz z0 z1 z2 z3 z4 z5
          go_wp2_with fail
          obtain ⟨z0, z1, z2, z3, z4, z5⟩ := HZ.out
          refine bodyPost_ret (v := .agg #[.int .i64 c, .int .i64 mx, .bool o4, .string t, .int .i64 cd, .string x]) (by simp [results, Tryd.results41, go_sem, z0, z1, z2, z3, z4, z5]) rfl ?_
          exact ⟨⟨c, mx, o4, t, cd, x⟩, rfl, HF.out⟩
end Go.Proofs.YtjhgibmeokghmaaDoor
