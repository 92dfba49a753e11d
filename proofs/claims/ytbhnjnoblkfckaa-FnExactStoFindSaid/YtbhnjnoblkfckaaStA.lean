/- Walks: links, by the program: a key; a link more ahead of all. -/
import Derived.Test.YtbhnjnoblkfckaaStB
import Derived.Test.YtbhnjnoblkfckaaReg
import Derived.RegionTactic
import Derived.ChangeAlike
namespace Go.Proofs.Ytbhnjnoblkfckaa
open Go.RowKit Go.Maps

set_option maxHeartbeats 800000 in
theorem key_of (e : En) (w : World) :
    Calls Try.prog 17 #[enV e] w fun e' w' => e' = .returned (keV e) ∧ Below w.heap.size w w' := by
  obtain ⟨p, m, ⟨c, x, hd, t, k, b⟩, a⟩ := e
  unfold enV keV
  dsimp only
  go_enter Try.func17, Try.ntmps17
  go_wp2
  exact bodyPost_ret (v := .agg #[.string p, .int .i64 m]) (by simp [results, Try.results17, go_sem]) rfl ⟨rfl, ((Below.refl _ _).alloc (Nat.le_refl _) _).alloc (by simp) _⟩

def PushPost (c mb B N : Nat) (L : List (Nat × En)) (e : En) (w : World) (e' : Ending) (w' : World) : Prop := e' = .returned (.tuple #[]) ∧ ∃ b, w.heap.size ≤ b ∧ Chn w' c mb B (N + 1) ((b, e) :: L) ∧ Only (Cs c mb L) w w'

set_option maxRecDepth 100000 in
set_option maxHeartbeats 1600000 in
theorem push_any (c mb B N : Nat) (L : List (Nat × En)) (e : En) (w : World) (h : Chn w c mb B N L) (he : EnOk 1048576 e) (hN : N < maxLen) :
    Calls Try.prog 16 #[.pointer (some ⟨c, 0, none⟩), keV e, enV e] w (PushPost c mb B N L e w) := by
  have hkey := keyOf_ke (p := e.place) (m := e.mask) (Nat.le_trans he.place (by decide)) he.wf
  have hput := fun (w : World) (D : DataW Unit) (hK : MapK D L) (h : Chn w c mb B N L) w2 => chn_push (w2 := w2) h he hK
  have heV : enV e = .agg #[.string e.place, .int .i64 e.mask, .int .i64 e.rsp.code, .int .i64 e.rsp.mx, .bool e.rsp.hide, .string e.rsp.tag, .int .i64 e.rsp.cod, .string e.rsp.body, .int .i64 e.tm] := rfl
  have hlC : ∀ x y z, lkC e x y z = #[.string e.place, .int .i64 e.mask, .string e.place, .int .i64 e.mask, .int .i64 e.rsp.code, .int .i64 e.rsp.mx, .bool e.rsp.hide, .string e.rsp.tag, .int .i64 e.rsp.cod, .string e.rsp.body, .int .i64 e.tm, ptrO x, ptrO y, ptrO z] := fun _ _ _ => rfl
  obtain ⟨wA, hwA⟩ : ∃ wA, wA = (w.alloc (.cells #[.string e.place, .int .i64 e.mask] 46)).alloc (.cells #[.string e.place, .int .i64 e.mask, .int .i64 e.rsp.code, .int .i64 e.rsp.mx, .bool e.rsp.hide, .string e.rsp.tag, .int .i64 e.rsp.cod, .string e.rsp.body, .int .i64 e.tm] 37) := ⟨_, rfl⟩
  have hbA : Below w.heap.size w wA := by rw [hwA]; exact ((Below.refl _ _).alloc (Nat.le_refl _) _).alloc (by simp) _
  have hsA : wA.heap.size = w.heap.size + 1 + 1 := by rw [hwA]; simp
  have hA : Chn wA c mb B N L := h.below hbA
  have hk4 : wA.cell? ⟨w.heap.size, 0, none⟩ = some (.string e.place) ∧ wA.cell? ⟨w.heap.size, 1, none⟩ = some (.int .i64 e.mask) := by
    have hh : wA.heap[w.heap.size]? = some (.cells #[.string e.place, .int .i64 e.mask] 46 (0, 0)) := by rw [hwA]; exact (Below.heap_alloc _ _ _ (by simp)).trans (heap_alloc_new w _)
    constructor <;> simp [World.cell?, hh]
  obtain ⟨q0, q1, f0⟩ := ch_facts hA.head
  obtain ⟨D, hD, hK⟩ := hA.map
  obtain ⟨v, ps, hrun, hR⟩ := hD.drew.lookup lawKe (t := 42) Try.underlying42 (z := .pointer none) (by kernel_rfl) (zd := .nil) (zp := []) rfl hkey
  rw [(hK.2 e.place e.mask (Nat.le_trans he.place (by decide)) he.wf).2] at hR
  obtain rfl := lkElem_inv hR
  have hcl : c < wA.heap.size := (hA.cs (.inl rfl)).2
  have hml : mb < wA.heap.size := (hA.cs (.inr (.inl rfl))).2
  have hcm := hA.low.2.2
  have hPut := hput wA D hK hA
  clear hR hK h hput
  unfold ptrO at hrun q0
  generalize hz : adO (firstK e.place e.mask L) = z at hrun
  generalize hf : adO (hdB L) = zf at q0
  obtain ⟨wB, hwB⟩ : ∃ wB, wB = wA.alloc (.cells (lkC e none (hdB L) (firstK e.place e.mask L)) 60) := ⟨_, rfl⟩
  rw [← hwB] at hPut
  have HP := Lib.hid hPut
  have HL := Lib.hid hlC
  have hkey' := Lib.hid hkey
  have HA := Lib.hid hA
  have HD := Lib.hid hD
  have HwA := Lib.hid hwA
  have HwB := Lib.hid hwB
  have Hz := Lib.hid hz
  have Hf := Lib.hid hf
  have HbA := Lib.hid hbA
  rw [hwA] at q0 q1 f0 hrun
  rw [heV]
  unfold keV
  obtain ⟨bl, hbl⟩ : ∃ bl, bl = wA.heap.size := ⟨_, rfl⟩
  have hsB : wB.heap.size = wA.heap.size + 1 := by rw [hwB]; simp
  have hbB : Below wA.heap.size wA wB := by rw [hwB]; exact (Below.refl _ _).alloc (Nat.le_refl _) _
  have hnB : wB.heap[wA.heap.size]? = some (lkO e none (hdB L) (firstK e.place e.mask L)) := by rw [hwB]; exact heap_alloc_new wA _
  have hEq : ((w.alloc (.cells #[.string e.place, .int .i64 e.mask] 46)).alloc (.cells #[.string e.place, .int .i64 e.mask, .int .i64 e.rsp.code, .int .i64 e.rsp.mx, .bool e.rsp.hide, .string e.rsp.tag, .int .i64 e.rsp.cod, .string e.rsp.body, .int .i64 e.tm] 37)).alloc
      (.cells #[.string e.place, .int .i64 e.mask, .string e.place, .int .i64 e.mask, .int .i64 e.rsp.code, .int .i64 e.rsp.mx, .bool e.rsp.hide, .string e.rsp.tag, .int .i64 e.rsp.cod, .string e.rsp.body, .int .i64 e.tm, .pointer none, .pointer zf, .pointer z] 60) = wB := by
    rw [hwB, hwA, hlC]; unfold ptrO; rw [hz, hf]; rfl
  have HEq := Lib.hid hEq
  have hBl : bl = w.heap.size + 1 + 1 := hbl.trans hsA
  have HBl := Lib.hid hBl
  have HbB := Lib.hid hbB
  have HsB := Lib.hid hsB
  have HnB := Lib.hid hnB
  have HhA := Lib.hid hA.head
  have Hcm := Lib.hid hcm
  have Hlt := Lib.hid (And.intro hcl hml)
  have Hk4 := Lib.hid hk4
  have HsA := Lib.hid hsA
  have Hbl := Lib.hid hbl
  have HhN := Lib.hid (fun b (hb : hdB L = some b) => show b < wA.heap.size ∧ b ≠ c ∧ b ≠ mb from by
    obtain ⟨x, hx, rfl⟩ := List.mem_map.1 (hdB_mem hb)
    exact ⟨(hA.cs (.inr (.inr (List.mem_map.2 ⟨x, hx, rfl⟩)))).2, (hA.far x hx).2⟩)
  have HhL := Lib.hid (fun b (hb : hdB L = some b) => show ∃ f n t, wA.heap[b]? = some (lkO f none n t) from by
    cases L with
    | nil => cases hb
    | cons x r =>
      obtain ⟨x1, x2⟩ := x
      cases hb
      exact ⟨_, _, _, hA.link (A := [])⟩)
  clear hPut hkey hA hD hwA hwB hlC hz hf heV hbA hk4 hsA hcl hml hbl hsB hbB hnB hEq hcm hBl
  go_enter Try.func16, Try.ntmps16
  go_wp2
  go_region
  rw [HEq.out, ← HBl.out]
  clear q0 q1 f0 hrun
  obtain ⟨k0, k1⟩ := Hk4.out
  obtain ⟨hcl, hml⟩ := Hlt.out
  have p0 := (HbB.out.cell (p := ⟨w.heap.size, 0, none⟩) (by have := HsA.out; simp; omega)).trans k0
  have p1 := (HbB.out.cell (p := ⟨w.heap.size, 1, none⟩) (by have := HsA.out; simp; omega)).trans k1
  obtain ⟨q0, q1, f0⟩ := ch_facts ((HbB.out.block c hcl).trans HhA.out)
  have hnB := HnB.out
  rw [← Hbl.out] at hnB
  obtain ⟨_, _, r1, r2, r3⟩ := lk_facts hnB
  have hcb : c ≠ bl := by rw [Hbl.out]; omega
  have hPc : w.heap.size ≠ c ∧ w.heap.size ≠ bl := by
    refine ⟨fun ec => ?_, by rw [HBl.out]; omega⟩
    obtain ⟨_, _, _⟩ := ch_facts HhA.out
    have := HhA.out
    rw [← ec] at this
    have k0' := k0
    simp [World.cell?, this, chO, ptrO] at k0'
  have HD2 := Lib.hid (HD.out.kept (grown_of_below HbB.out none) (fun e => by cases e))
  have HP2 : Hid (∀ w2, ((told wB L bl).setCell ⟨c, 0, none⟩ (ptrO (some bl))).grownBy w2 (some mb) → w2.ownsMap Try.prog 46 lkElem mb (N + 1) (D.put (keL e.place e.mask) (lkD (some bl))) → PushPost c mb B N L e w (.returned (.tuple #[])) w2) := Lib.hid fun w2 g1 g2 => by
    rw [Hbl.out] at g1 g2
    obtain ⟨h1, h2⟩ := HP.out w2 g1 g2
    exact ⟨rfl, wA.heap.size, HbA.out.size, h1, (only_of_below HbA.out).trans h2⟩
  have hz := Hz.out
  have hf := Hf.out
  cases hh : hdB L with
  | none =>
    rw [hh] at hf r2 q0
    obtain rfl : zf = none := hf.symm
    replace r2 : _ = some (Value.pointer none) := r2
    replace q0 : _ = some (Value.pointer none) := q0
    have htd : told wB L bl = wB := by unfold told; rw [hh]
    rw [htd] at HP2
    obtain ⟨v0, st, w1, w2, e1, e2, o2, g1, g2⟩ := owns_entry (w := (wB.setCell ⟨c, 0, none⟩ (.pointer (some ⟨bl, 0, none⟩))).drew.drew) ((HD2.out.setCell (a := ⟨c, 0, none⟩) (Ne.symm Hcm.out) _).drew.drew) lawKe0 (t := 42) Try.underlying42 hN (z := .pointer none) (fun _ => by kernel_rfl) hkey'.out (lkElem_mk (some bl))
    have HF : Hid (PushPost c mb B N L e w (.returned (.tuple #[])) w2) := Lib.hid (HP2.out w2 ⟨g2.os, g2.tape, g2.output, g2.size, g2.block⟩ o2)
    replace e2 : (Instr.entryStore 42 (.map (some mb)) (.int .i64 (st : Int)) (.pointer (some ⟨bl, 0, none⟩))).run Try.prog w1 = .ok () w2 := e2
    replace e1 : (Instr.mapEntry 42 (.map (some mb)) (.agg #[.string e.place, .int .i64 e.mask])).run Try.prog (wB.setCell ⟨c, 0, none⟩ (.pointer (some ⟨bl, 0, none⟩))).drew.drew = .ok (.tuple #[v0, .int .i64 (st : Int)]) w1 := e1
    clear HP HP2 hh hf hz r1 r3 hnB htd g1 g2 o2 k0 k1 hcl hml
    go_wp2
    go_region
    go_end0
    exact HF.out
  | some b1 =>
    rw [hh] at hf r2 q0
    obtain rfl : zf = some ⟨b1, 0, none⟩ := hf.symm
    replace r2 : _ = some (Value.pointer (some ⟨b1, 0, none⟩)) := r2
    replace q0 : _ = some (Value.pointer (some ⟨b1, 0, none⟩)) := q0
    have htd : told wB L bl = wB.setCell ⟨b1, 11, none⟩ (.pointer (some ⟨bl, 0, none⟩)) := by unfold told; rw [hh]; rfl
    rw [htd] at HP2
    obtain ⟨hb1, hb2, hb3⟩ := HhN.out b1 hh
    obtain ⟨fe, fn, ft, hfe⟩ := HhL.out b1 hh
    have hfB := (HbB.out.block b1 hb1).trans hfe
    obtain ⟨_, _, s1, _, _⟩ := lk_facts hfB
    have s2 := lk_frozen hfB 11
    replace s1 : _ = some (Value.pointer none) := s1
    have hb4 : b1 ≠ bl := by rw [Hbl.out]; omega
    have hb5 : b1 ≠ w.heap.size := fun ec => by
      have hfe' := hfe
      rw [ec] at hfe'
      have := (lk_facts hfe').1.1
      have k1' := (lk_facts hfe').1.2
      rw [k0] at this
      have h3 := (lk_facts hfe').2.1.1
      have hx := HwA.out
      have h2 : wA.heap[w.heap.size]? = some (.cells #[.string e.place, .int .i64 e.mask] 46 (0, 0)) := by rw [hx]; exact (Below.heap_alloc _ _ _ (by simp)).trans (heap_alloc_new w _)
      rw [h2] at hfe'
      simp [lkO, lkC] at hfe'
    obtain ⟨v0, st, w1, w2, e1, e2, o2, g1, g2⟩ := owns_entry (w := ((wB.setCell ⟨b1, 11, none⟩ (.pointer (some ⟨bl, 0, none⟩))).setCell ⟨c, 0, none⟩ (.pointer (some ⟨bl, 0, none⟩))).drew.drew) (((HD2.out.setCell (a := ⟨b1, 11, none⟩) (Ne.symm hb3) _).setCell (a := ⟨c, 0, none⟩) (Ne.symm Hcm.out) _).drew.drew) lawKe0 (t := 42) Try.underlying42 hN (z := .pointer none) (fun _ => by kernel_rfl) hkey'.out (lkElem_mk (some bl))
    have HF : Hid (PushPost c mb B N L e w (.returned (.tuple #[])) w2) := Lib.hid (HP2.out w2 ⟨g2.os, g2.tape, g2.output, g2.size, g2.block⟩ o2)
    replace e2 : (Instr.entryStore 42 (.map (some mb)) (.int .i64 (st : Int)) (.pointer (some ⟨bl, 0, none⟩))).run Try.prog w1 = .ok () w2 := e2
    replace e1 : (Instr.mapEntry 42 (.map (some mb)) (.agg #[.string e.place, .int .i64 e.mask])).run Try.prog ((wB.setCell ⟨b1, 11, none⟩ (.pointer (some ⟨bl, 0, none⟩))).setCell ⟨c, 0, none⟩ (.pointer (some ⟨bl, 0, none⟩))).drew.drew = .ok (.tuple #[v0, .int .i64 (st : Int)]) w1 := e1
    have hb2' := Ne.symm hb2
    have hb5' := Ne.symm hb5
    clear HP HP2 hh hf hz r1 r3 hnB htd g1 g2 o2 k0 k1 hcl hml hfe hfB HhN HhL HwA HwB
    go_wp2
    go_region
    go_end0
    exact HF.out
end Go.Proofs.Ytbhnjnoblkfckaa
