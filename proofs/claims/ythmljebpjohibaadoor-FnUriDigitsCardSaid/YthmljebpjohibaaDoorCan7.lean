/- Places: the machine that writes a place in its plainest form: a code's end, written as a code. -/
import Derived.Test.YthmljebpjohibaaDoorCan6
namespace Go.Proofs.YthmljebpjohibaaDoor
open Go.RowKit

theorem three_cells (W : World) (p q r : Value) (T : TypeId) (B : Nat) (hB : B = W.heap.size) : ∀ (j : Nat) u, [p, q, r][j]? = some u → (W.alloc (.cells #[p, q, r] T)).cell? ((⟨B, 0, none⟩ : Addr).add j) = some u := by
  intro j u hu
  subst hB
  match j, hu with
  | 0, hu => exact (World.cell?_alloc_at _ _ _ _ rfl).trans (by simpa using hu)
  | 1, hu => exact (World.cell?_alloc_at _ _ _ _ rfl).trans (by simpa using hu)
  | 2, hu => exact (World.cell?_alloc_at _ _ _ _ rfl).trans (by simpa using hu)
  | j + 3, hu => simp at hu

set_option maxRecDepth 100000 in
set_option maxHeartbeats 6400000 in
theorem s_d2_code (b : Nat) (q : Bool) (R : Option (List UInt8)) (ys l : List UInt8) (a c : UInt8) (seg x y : Nat) (w : World) (h : CAt w b ys seg (bkV b q) x) (hcls : Cls w) (hg : 0 < b) (hn : ys.length ≤ 900) (ha : hexV a = some x) (hR : CBase q R ys seg (37 :: a :: c :: l)) (hc : hexV c = some y) (hd : doubtB (x * 16 + y) = false) (hf : freeB (UInt8.ofNat (x * 16 + y)) = false) :
    Calls Tryd.prog 92 #[.pointer (some ⟨b, 0, none⟩), .int .u8 c.toNat] w (CNext b R ys.length l w) := by
  have hb := cbase_code hR ha hc hd
  have hx16 := hexV_lt ha
  have hy16 := hexV_lt hc
  have hdv : (x * 16 + y) / 16 = x := by omega
  have hmd : (x * 16 + y) % 16 = y := by omega
  rw [show putC (x * 16 + y) = [37, hexU x, hexU y] from by unfold putC; rw [if_neg (by rw [hf]; decide)]; unfold upperL; rw [hdv, hmd]] at hb
  have hfin : Hid (CInv R (bkS q) (ys ++ [37, hexU x, hexU y]) seg x l) := Lib.hid (cinv_bk hb)
  have c1 := fun W => hex_value_some c y hc W
  have hnib := nib x y hx16 hy16
  have hnn : (UInt8.ofNat (x * 16 + y)).toNat = x * 16 + y := by simp; omega
  have c2 := fun W => idx ⟨#[46, 47, 63, 37, 38, 61]⟩ (UInt8.ofNat (x * 16 + y)) W
  rw [hnn] at c2
  have hI := doubt_idx (x * 16 + y) (by omega)
  rw [hd, decide_eq_false_iff_not] at hI
  have e0 : (ByteArray.mk #[46, 47, 63, 37, 38, 61]).data.toList = [46, 47, 63, 37, 38, 61] := rfl
  rw [e0] at c2
  generalize Lib.indexByte [46, 47, 63, 37, 38, 61] (UInt8.ofNat (x * 16 + y)) = I at *
  have c3 := impl_free (UInt8.ofNat (x * 16 + y)) (w.setCell ⟨b, 2, none⟩ .nilFunc) (hcls.belowB (below_set (Below.refl b w)) hg)
  rw [hnn, hf] at c3
  have hI' : I < 0 := by omega
  have h2 := h.set2 .nilFunc
  obtain ⟨v0, hh0, ho0⟩ := h
  have k2 : w.cell? ⟨b, 2, none⟩ = some (bkV b q) := by simp [World.cell?, hh0]
  have f2 : w.frozen? ⟨b, 2, none⟩ = false := by simp [World.frozen?, hh0]
  have k3 : w.cell? ⟨b, 3, none⟩ = some (.int .u8 (x : Int)) := by simp [World.cell?, hh0]
  have hn256 : x * 16 + y < 256 := by omega
  have hq1 := digs_at x hx16 (by simp [digs, ByteArray.size]; omega)
  have hq2 := digs_at y hy16 (by simp [digs, ByteArray.size]; omega)
  have hblt : b < w.heap.size := (Array.getElem?_eq_some_iff.1 hh0).1
  have hbs : Below b w (w.setCell ⟨b, 2, none⟩ .nilFunc) := below_set (Below.refl b w)
  obtain ⟨W, hW⟩ : ∃ W, W = w.setCell ⟨b, 2, none⟩ .nilFunc := ⟨_, rfl⟩
  have hWs : W.heap.size = w.heap.size := by rw [hW]; simp
  rw [← hW] at h2 c3 hbs
  obtain ⟨v, hh, ho⟩ := h2
  have m0 : W.cell? ⟨b, 0, none⟩ = some v := by simp [World.cell?, hh]
  have m3 : W.cell? ⟨b, 3, none⟩ = some (.int .u8 (x : Int)) := by simp [World.cell?, hh]
  obtain ⟨i0, hi, hz0, hz1, hz2⟩ := info_parts Tryd.info5
  have hownA : ∀ o : Obj, (W.drew.alloc o).ownsRow (b + 1) 5 1 v ys.length (u8s ys) := fun o => (own_drewN ho 1).alloc o
  have hvb : v.ownBlock ≠ some b := fun e => by have := (ho.lt b e).1; omega
  have hlen : (ys ++ [37, hexU x, hexU y]).length ≤ ys.length + 3 := by simp
  have hkeep : ∀ (o : Obj) (w3 : World), (W.drew.alloc o).grownBy w3 v.ownBlock → w3.heap[b]? = W.heap[b]? ∧ Below b w w3 := by
    intro o w3 hg3
    have hbW : b < W.heap.size := by omega
    have e1 : (W.drew.alloc o).heap[b]? = W.heap[b]? := Below.heap_alloc W o b hbW
    refine ⟨(hg3.block b (by simp; omega) (fun e => hvb e.symm)).trans e1, hbs.trans ?_⟩
    refine ⟨hg3.os, hg3.tape, hg3.output, ?_, fun k hk => ?_⟩
    · have := hg3.size; simp at this; omega
    · refine (hg3.block k (by simp; omega) (fun e => ?_)).trans (Below.heap_alloc W o k (by omega))
      have := (ho.lt k e.symm).1; omega
  have hlast : ∀ (w3 : World) (v' : Value), w3.ownsRow (b + 1) 5 1 v' (ys.length + 3) (u8s ys ++ [.int .u8 37, .int .u8 ((hexU x).toNat : Int), .int .u8 ((hexU y).toNat : Int)]) → w3.heap[b]? = W.heap[b]? → Below b w w3 → CNext b R ys.length l w (.returned (bkV b q)) (w3.setCell ⟨b, 0, none⟩ v') := by
    intro w3 v' ho3 hh3 hb3
    have hu : u8s ys ++ [.int .u8 37, .int .u8 ((hexU x).toNat : Int), .int .u8 ((hexU y).toNat : Int)] = u8s (ys ++ [37, hexU x, hexU y]) := by simp [u8s]
    rw [hu] at ho3
    rw [← cV_bk]
    refine next_of (by rw [res_bk]; exact CAt.set0 (hh3.trans hh) ho3 (by simp)) hfin hlen (below_set hb3) (bk_ne q)
  rw [← hq1, ← hq2] at hlast
  have HL := Lib.hid hlast
  have HK := Lib.hid hkeep
  have HO := Lib.hid hownA
  have hbW1 : b + 1 ≤ W.heap.size := by omega
  have HW := Lib.hid hW
  have ML : Hid (W.heap[b]? = some (.cells #[v, .int .i64 (seg : Int), .nilFunc, .int .u8 (x : Int)] 47 (0, 0))) := Lib.hid hh
  clear hR hc ha hh0 ho0 hnn hd e0 hcls hb hfin hf hI hlen hlast hkeep hownA hvb hh ho hdv hmd hbs hq1 hq2
  generalize UInt8.ofNat (x * 16 + y) = z at *
  generalize x * 16 + y = n at *
  generalize bkV b q = nx at *
  go_enter Tryd.func92, Tryd.ntmps92
  go_wp2_with fail
  refine (c1 _).mono ?_
  rintro e w' ⟨rfl, rfl⟩
  go_wp2_with fail
  refine (c2 _).mono ?_
  rintro e w' ⟨rfl, rfl⟩
  go_wp2_with fail
  rw [← HW.out]
  refine c3.mono ?_
  rintro e w' ⟨rfl, rfl⟩
  clear c1 c2 c3 k2 k3 f2 hW
  have hxi : (x : Int) < 16 := by omega
  have hyi : (y : Int) < 16 := by omega
  go_wp2_with fail
  go_region_law (refine step_append_own rfl _ _ 22 rfl (b + 1) 5 i0 _ 1 1 Tryd.underlying22 hi hz0 hz1 hz2 rfl (by decide) _ _ _ rfl (HO.out _) ⟨w.heap.size, 0, none⟩ 3 3 [_, _, _] rfl rfl (three_cells _ _ _ _ _ _ (by simp [hWs])) (by intro u hu; simp at hu; rcases hu with rfl | rfl | rfl <;> rfl) (by unfold maxLen; omega) (by omega) (by simp; omega) ?_; intro v' w3 ho3 hg3; obtain ⟨g', cap', rfl⟩ := own_form ho3 (by omega); obtain ⟨hh3, hb3⟩ := HK.out _ w3 hg3; have n0 : w3.cell? ⟨b, 0, none⟩ = some v := ((World.cell?_of_block (a := ⟨b, 0, none⟩) hh3).trans m0); have g0 : w3.frozen? ⟨b, 0, none⟩ = false := (by simp [World.frozen?, hh3, ML.out]))
  all_goals go_wp2
  all_goals go_ret
  all_goals exact HL.out w3 _ ho3 hh3 hb3
end Go.Proofs.YthmljebpjohibaaDoor
