/- Walks: the drawing of seals. -/
import Derived.Test.YtbhnjnoblkfckabDoorSlL
import Derived.Test.YtbhnjnoblkfckabDoorDrawU
import Derived.Test.YtbhnjnoblkfckabDoorDraw3
import Derived.Deep.DeepCutAuto
namespace Go.Proofs.YtbhnjnoblkfckabDoor
open Go.RowKit

/-- Small numbers. -/
def SmS (x : Int) : Prop := -2 ≤ x ∧ x ≤ 1000002
structure SlSz (s : Sl) : Prop where
  path : s.path.size ≤ 120
  til : SmS s.til
  nonce : SmS s.nonce
  code : SmS s.code
def noSlV : Array Value := #[.string ⟨#[]⟩, .bool false, .int .i64 0, .int .i64 0, .int .i64 0]
/-- The box b holds the seal s, the result's box nothing yet, and the reader has gone on. -/
structure SIn (w W : World) (B g m b : Nat) (s : Sl) : Prop where
  dr : Drawn w W B g m
  res : W.heap[w.heap.size]? = some (.cells noSlV 29 (0, 0))
  box : W.heap[b]? = some (.cells #[.string s.path, .bool s.under, .int .i64 s.til, .int .i64 s.nonce, .int .i64 s.code] 29 (0, 0))
  lt : w.heap.size < b
  gl : g < w.heap.size
  sz : SlSz s
theorem SIn.keep {w W W' : World} {B g m m' b : Nat} {s : Sl} (h : SIn w W B g m b s) (hd : Drawn W W' B g m') : SIn w W' B g m' b s := by
  have h1 := h.gl; have h2 := h.lt
  have hb := (Array.getElem?_eq_some_iff.1 h.box).1
  have hr := (Array.getElem?_eq_some_iff.1 h.res).1
  exact ⟨h.dr.trans hd, (hd.2.block _ hr (fun e => by cases e; omega)).trans h.res, (hd.2.block _ hb (fun e => by cases e; omega)).trans h.box, h.lt, h.gl, h.sz⟩
theorem SIn.rd {w W : World} {B g m b : Nat} {s : Sl} (h : SIn w W B g m b s) : RdAt W B g m := h.dr.1
theorem drawn_sets {w W : World} {B g m b j : Nat} {v : Value} (h : Drawn w W B g m) (hb : w.heap.size ≤ b) (hg : g < b) : Drawn w (W.setCell ⟨b, j, none⟩ v) B g m :=
  ⟨h.1.keep (fun i hi => heap_setCell_other W ⟨b, j, none⟩ i _ (by simp; omega)),
   ⟨h.2.os, h.2.tape, h.2.output, by simpa using h.2.size, fun i hi hn => (heap_setCell_other W ⟨b, j, none⟩ i _ (by simp; omega)).trans (h.2.block i hi hn)⟩⟩
theorem SIn.set {w W : World} {B g m b j : Nat} {s s' : Sl} {v : Value} (h : SIn w W B g m b s)
    (hc : (#[.string s.path, .bool s.under, .int .i64 s.til, .int .i64 s.nonce, .int .i64 s.code] : Array Value).setIfInBounds j v = #[.string s'.path, .bool s'.under, .int .i64 s'.til, .int .i64 s'.nonce, .int .i64 s'.code]) (hz : SlSz s') : SIn w (W.setCell ⟨b, j, none⟩ v) B g m b s' := by
  have h1 := h.gl; have h2 := h.lt
  refine ⟨drawn_sets h.dr (by omega) (by omega), (heap_setCell_other W ⟨b, j, none⟩ _ _ (by simp; omega)).trans h.res, ?_, h.lt, h.gl, hz⟩
  rw [← hc]
  exact heap_setCell_same W b j _ _ v h.box
theorem sl_set {W : World} {b : Nat} {a0 a1 a2 a3 a4 : Value} {T : TypeId} (h : W.heap[b]? = some (.cells #[a0, a1, a2, a3, a4] T (0, 0))) (x0 x1 x2 x3 x4 : Value) :
    (((((W.setCell ⟨b, 0, none⟩ x0).setCell ⟨b, 1, none⟩ x1).setCell ⟨b, 2, none⟩ x2).setCell ⟨b, 3, none⟩ x3).setCell ⟨b, 4, none⟩ x4).heap[b]? = some (.cells #[x0, x1, x2, x3, x4] T (0, 0)) :=
  heap_setCell_same _ b 4 _ _ _ (heap_setCell_same _ b 3 _ _ _ (heap_setCell_same _ b 2 _ _ _ (heap_setCell_same _ b 1 _ _ _ (heap_setCell_same _ b 0 _ _ _ h))))
theorem sl_frozen {W : World} {b : Nat} {a0 a1 a2 a3 a4 : Value} {T : TypeId} (h : W.heap[b]? = some (.cells #[a0, a1, a2, a3, a4] T (0, 0))) :
    W.frozen? ⟨b, 0, none⟩ = false ∧ W.frozen? ⟨b, 1, none⟩ = false ∧ W.frozen? ⟨b, 2, none⟩ = false ∧ W.frozen? ⟨b, 3, none⟩ = false ∧ W.frozen? ⟨b, 4, none⟩ = false := by
  refine ⟨?_, ?_, ?_, ?_, ?_⟩ <;> simp [World.frozen?, h]
def set5s (W : World) (b : Nat) (x0 x1 x2 x3 x4 : Value) : World := ((((W.setCell ⟨b, 0, none⟩ x0).setCell ⟨b, 1, none⟩ x1).setCell ⟨b, 2, none⟩ x2).setCell ⟨b, 3, none⟩ x3).setCell ⟨b, 4, none⟩ x4
theorem SIn.fin {w W : World} {B g m b : Nat} {s : Sl} (h : SIn w W B g m b s) (x0 x1 x2 x3 x4 : Value) :
    Drawn w (set5s W w.heap.size x0 x1 x2 x3 x4) B g m ∧ (set5s W w.heap.size x0 x1 x2 x3 x4).heap[w.heap.size]? = some (.cells #[x0, x1, x2, x3, x4] 29 (0, 0)) := by
  have h1 := h.gl
  refine ⟨?_, sl_set h.res _ _ _ _ _⟩
  unfold set5s
  exact drawn_sets (drawn_sets (drawn_sets (drawn_sets (drawn_sets h.dr (by omega) (by omega)) (by omega) (by omega)) (by omega) (by omega)) (by omega) (by omega)) (by omega) (by omega)
/-- The seal as first drawn: short. -/
structure SlTi (s : Sl) : Prop where
  path : s.path.size ≤ 30
  til : 0 ≤ s.til ∧ s.til ≤ 3000
  nonce : 0 ≤ s.nonce ∧ s.nonce ≤ 3000
  code : 0 ≤ s.code ∧ s.code ≤ 70000
theorem SlTi.sz {s : Sl} (h : SlTi s) : SlSz s := ⟨by have := h.path; omega, by have := h.til; unfold SmS; omega, by have := h.nonce; unfold SmS; omega, by have := h.code; unfold SmS; omega⟩
def DrawnSeal (w : World) (B g m : Nat) (e : Ending) (w' : World) : Prop := ∃ s : Sl, e = .returned (slV s) ∧ SlTi s ∧ Drawn w w' B g m
theorem path_le (p : ByteArray) : (ByteArray.mk (pathL p.data.toList).toArray).size ≤ p.size := by
  have := cutL_len p.data.toList 63
  rw [size_len, size_len]; simp only [pathL]; exact this.1

set_option maxRecDepth 100000 in
set_option maxHeartbeats 6400000 in
theorem seal_any (g B m : Nat) (key now last : Int) (w : World) (hm : m ≤ 500000) (hn : 0 ≤ now ∧ now ≤ 1000) (hl : 0 ≤ last ∧ last ≤ 1000) (h : RdAt w B g m) :
    Calls Tryd.prog 22 #[.pointer (some ⟨g, 0, none⟩), .int .i64 key, .int .i64 now, .int .i64 last] w (DrawnSeal w B g (m + 10)) := by
  have hg := h.lt
  obtain ⟨hn0, hn1⟩ := hn
  obtain ⟨hl0, hl1⟩ := hl
  obtain ⟨w0, hw0⟩ : ∃ x, x = w.alloc (.cells #[.string ⟨#[]⟩, .bool false, .int .i64 0, .int .i64 0, .int .i64 0] 29) := ⟨_, rfl⟩
  have hd0 : Drawn w w0 B g m := by rw [hw0]; exact (Drawn.refl h).alloc _
  have g0 : w0.heap[w.heap.size]? = some (.cells noSlV 29 (0, 0)) := by rw [hw0]; exact heap_alloc_new w _
  have hz0 : w0.heap.size = w.heap.size + 1 := by rw [hw0]; simp
  have HW0 := Lib.hid hw0
  clear hw0 h
  go_enter Tryd.func22, Tryd.ntmps22
  go_wp2_with fail
  rw [← HW0.out]
  refine (place_any g B m w0 (by omega) hd0.1).mono ?_
  rintro e w1 ⟨pl, rfl, hpl, hd1⟩
  have hd01 := hd0.trans hd1
  have g1 := (hd1.2.block _ (Array.getElem?_eq_some_iff.1 g0).1 (fun e => by cases e; omega)).trans g0
  have hsz1 := hd1.2.size
  have hP := spec_path pl w1 (by unfold maxLen; omega)
  have hple := path_le pl
  unfold strV at hP
  generalize (ByteArray.mk (pathL pl.data.toList).toArray) = P at *
  clear hd0 hd1 g0 HW0
  go_wp2_with fail
  refine hP.mono ?_
  rintro e w1' ⟨rfl, n1, hn1'⟩
  have hd01' : Drawn w w1' B g (m + 3) := by rw [hn1']; exact hd01.drewN n1
  have g1' : w1'.heap[w.heap.size]? = some (.cells noSlV 29 (0, 0)) := by rw [hn1']; exact g1
  have hsz1' : w0.heap.size ≤ w1'.heap.size := by rw [hn1']; exact hsz1
  clear hP hn1' hd01 g1
  go_wp2_with fail
  refine (pick_lit g 2 2 rfl (by decide) B (m + 3) w1' (by omega) (by decide) hd01'.1).mono ?_
  rintro e w2 ⟨k2, rfl, hk2, -, hd2⟩
  have hd02 := hd01'.trans hd2
  have g2 := (hd2.2.block _ (Array.getElem?_eq_some_iff.1 g1').1 (fun e => by cases e; omega)).trans g1'
  have hsz2 := hd2.2.size
  clear hd01' hd2 g1'
  go_wp2_with fail
  refine (pick_lit g 5 5 rfl (by decide) B (m + 3 + 1) w2 (by omega) (by decide) hd02.1).mono ?_
  rintro e w3 ⟨k3, rfl, hk3, -, hd3⟩
  have hd03 := hd02.trans hd3
  have g3 := (hd3.2.block _ (Array.getElem?_eq_some_iff.1 g2).1 (fun e => by cases e; omega)).trans g2
  have hsz3 := hd3.2.size
  clear hd02 hd3 g2
  go_wp2_with fail
  refine (pick_lit g 3 3 rfl (by decide) B (m + 3 + 1 + 1) w3 (by omega) (by decide) hd03.1).mono ?_
  rintro e w4 ⟨k4, rfl, hk4, -, hd4⟩
  have hd04 := hd03.trans hd4
  have g4 := (hd4.2.block _ (Array.getElem?_eq_some_iff.1 g3).1 (fun e => by cases e; omega)).trans g3
  have hsz4 := hd4.2.size
  clear hd03 hd4 g3
  go_wp2_with fail
  have hPz : P.size ≤ 30 := by omega
  generalize ((k2 : Int) == 0) = U
  obtain ⟨ti, hti⟩ : ∃ x, x = now + 1 + (k3 : Int) := ⟨_, rfl⟩
  obtain ⟨no, hno⟩ : ∃ x, x = last + 1 + (k4 : Int) := ⟨_, rfl⟩
  rw [← hti, ← hno]
  have ht1 : SmS ti := by unfold SmS; omega
  have hn1 : SmS no := by unfold SmS; omega
  have ht2 : 0 ≤ ti ∧ ti ≤ 3000 := by omega
  have hn2 : 0 ≤ no ∧ no ≤ 3000 := by omega
  obtain ⟨w5, hw5⟩ : ∃ x, x = w4.alloc (.cells #[.string P, .bool U, .int .i64 ti, .int .i64 no, .int .i64 0] 29) := ⟨_, rfl⟩
  have hdA : Drawn w4 w5 B g (m + 3 + 1 + 1 + 1) := by rw [hw5]; exact (Drawn.refl hd04.1).alloc _
  have g5 : w5.heap[w.heap.size]? = some (.cells noSlV 29 (0, 0)) := (hdA.2.block _ (Array.getElem?_eq_some_iff.1 g4).1 (fun e => by cases e; omega)).trans g4
  have b5 : w5.heap[w4.heap.size]? = some (.cells #[.string P, .bool U, .int .i64 ti, .int .i64 no, .int .i64 0] 29 (0, 0)) := by rw [hw5]; exact heap_alloc_new w4 _
  have hS : SIn w w5 B g (m + 3 + 1 + 1 + 1) w4.heap.size ⟨P, U, ti, no, 0⟩ := ⟨hd04.trans hdA, g5, b5, by omega, hg, ⟨by simp only; omega, ht1, hn1, by unfold SmS; simp⟩⟩
  have hSo := spec_selof key P U ti no w5 (by unfold maxLen; omega)
  have hcr := selS_lt key P U ti no
  rw [← hw5]
  generalize selS key P U ti no = C at *
  generalize w4.heap.size = b at *
  clear hdA g5 b5 hw5 hd04 g4 hti hno ht1 hn1 hsz4 hsz3 hsz2 hsz1' hz0 hk2 hk3 hk4
  refine hSo.mono ?_
  rintro e w6 ⟨rfl, rfl⟩
  clear hSo
  obtain ⟨f0, f1, f2, f3, f4⟩ := sl_frozen hS.box
  obtain ⟨q0, q1, q2, q3, q4⟩ := sl_facts hS.box
  obtain ⟨s0, s1, s2, s3, s4⟩ := sl_facts hS.res
  have hS2 : SIn w (w5.setCell ⟨b, 4, none⟩ (.int .i64 C)) B g (m + 3 + 1 + 1 + 1) b ⟨P, U, ti, no, C⟩ := hS.set rfl ⟨hS.sz.path, hS.sz.til, hS.sz.nonce, by unfold SmS; simp only; omega⟩
  obtain ⟨wS, hwS⟩ : ∃ x, x = w5.setCell ⟨b, 4, none⟩ (.int .i64 C) := ⟨_, rfl⟩
  rw [← hwS] at hS2
  have HWS := Lib.hid hwS
  clear hwS
  obtain ⟨p0, p1, p2, p3, p4⟩ := sl_facts hS2.box
  obtain ⟨r0, r1, r2, r3, r4⟩ := sl_frozen hS2.res
  obtain ⟨t0, t1, t2, t3, t4⟩ := sl_facts hS2.res
  rw [HWS.out] at p0 p1 p2 p3 p4 r0 r1 r2 r3 r4 t0 t1 t2 t3 t4
  have HF := Lib.hid (hS2.fin (.string P) (.bool U) (.int .i64 ti) (.int .i64 no) (.int .i64 C))
  rw [HWS.out] at HF
  have HZ : Hid (SlTi ⟨P, U, ti, no, C⟩) := Lib.hid ⟨hPz, ht2, hn2, by simp only; omega⟩
  clear hS hS2 HWS wS
  unfold set5s at HF
  go_wp2
  obtain ⟨z0, z1, z2, z3, z4⟩ := sl_facts HF.out.2
  exact bodyPost_ret (v := .agg #[.string P, .bool U, .int .i64 ti, .int .i64 no, .int .i64 C]) (by simp [results, Tryd.results22, go_sem, z0, z1, z2, z3, z4]) rfl ⟨⟨P, U, ti, no, C⟩, rfl, HZ.out, HF.out.1.mono (by omega)⟩
end Go.Proofs.YtbhnjnoblkfckabDoor
