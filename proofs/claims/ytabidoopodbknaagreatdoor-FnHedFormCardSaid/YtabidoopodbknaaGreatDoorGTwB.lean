/- Walks: two requests under the drawing, one behind the other: what stands of each. -/
import Derived.Test.YtabidoopodbknaaGreatDoorGRegM
import Derived.Test.YtabidoopodbknaaGreatDoorFOpen
namespace Go.Proofs.YtabidoopodbknaaGreatDoor
open Go.RowKit

/-- All blocks below b, but g, are as they were. -/
def Kept (b g : Nat) (w w' : World) : Prop := w.heap.size ≤ w'.heap.size ∧ ∀ k, k < b → k ≠ g → w'.heap[k]? = w.heap[k]?
theorem Kept.refl (b g : Nat) (w : World) : Kept b g w w := ⟨Nat.le_refl _, fun _ _ _ => rfl⟩
theorem Kept.trans {b g : Nat} {w1 w2 w3 : World} (h : Kept b g w1 w2) (k : Kept b g w2 w3) : Kept b g w1 w3 := ⟨Nat.le_trans h.1 k.1, fun j hj hn => (k.2 j hj hn).trans (h.2 j hj hn)⟩
theorem Kept.of_drawn {b g B m : Nat} {w w' : World} (h : Drawn w w' B g m) (hb : b ≤ w.heap.size) : Kept b g w w' := ⟨h.2.size, fun k hk hn => h.2.block k (by omega) (fun e => hn (by injection e))⟩
theorem Kept.of_grown {b g : Nat} {w w' : World} {row : Option Nat} (h : w.grownBy w' row) (hb : b ≤ w.heap.size) (hr : ∀ r, row = some r → b ≤ r ∨ r = g) : Kept b g w w' := ⟨h.size, fun k hk hn => h.block k (by omega) (fun e => by rcases hr k e.symm with h | h <;> omega)⟩
theorem Kept.alloc (b g : Nat) (w : World) (o : Obj) (hb : b ≤ w.heap.size) : Kept b g w (w.alloc o) := ⟨by simp, fun k hk _ => Below.heap_alloc w o k (by omega)⟩
theorem Kept.set {b g : Nat} {w w' : World} (h : Kept b g w w') (c j : Nat) (x : Value) (hc : b ≤ c) : Kept b g w (w'.setCell ⟨c, j, none⟩ x) := ⟨by simpa using h.1, fun k hk hn => (heap_setCell_other w' ⟨c, j, none⟩ k _ (by simp; omega)).trans (h.2 k hk hn)⟩

/-- The box b holds the request h, whose fields lie in the row v, a block from bo on. -/
structure TB (w0 W : World) (B g m b bo : Nat) (h : Hd) (v : Value) : Prop where
  box : W.heap[b]? = some (.cells #[.string h.verb, .string h.target, .string h.host, v, .string h.body] 27 (0, 0))
  own : W.ownsRow bo 39 2 v h.fs.length (fcells h.fs)
  drawn : Drawn w0 W B g m
  gw : g < w0.heap.size
  gb : g < b
  wb : w0.heap.size ≤ b
  bb : b < bo
theorem TB.lt {w0 W : World} {B g m b bo : Nat} {h : Hd} {v : Value} (hh : TB w0 W B g m b bo h v) : b < W.heap.size := (Array.getElem?_eq_some_iff.1 hh.box).1
theorem TB.keep {w0 W W' : World} {B g m m' b bo : Nat} {h : Hd} {v : Value} (hh : TB w0 W B g m b bo h v) (hd : Drawn W W' B g m') : TB w0 W' B g m' b bo h v :=
  ⟨(hd.2.block b hh.lt (fun e => by have := hh.gb; cases e; omega)).trans hh.box, own_drawn hh.own (by have := hh.gb; have := hh.bb; omega) hd.2, hh.drawn.trans hd, hh.gw, hh.gb, hh.wb, hh.bb⟩
theorem TB.mono {w0 W : World} {B g m m' b bo : Nat} {h : Hd} {v : Value} (hh : TB w0 W B g m b bo h v) (hm : m ≤ m') : TB w0 W B g m' b bo h v := ⟨hh.box, hh.own, hh.drawn.mono hm, hh.gw, hh.gb, hh.wb, hh.bb⟩
theorem TB.alloc {w0 W : World} {B g m b bo : Nat} {h : Hd} {v : Value} (hh : TB w0 W B g m b bo h v) (o : Obj) : TB w0 (W.alloc o) B g m b bo h v := hh.keep ((Drawn.refl hh.drawn.1).alloc o)
theorem TB.rowbox {w0 W W' : World} {B g m b bo : Nat} {h : Hd} {v : Value} (hh : TB w0 W B g m b bo h v) (hg : W.grownBy W' v.ownBlock) : W'.cell? ⟨b, 3, none⟩ = some v ∧ W'.frozen? ⟨b, 3, none⟩ = false := by
  have hne : some b ≠ v.ownBlock := fun e => by have := (hh.own.lt b e.symm).1; have := hh.bb; omega
  have hb := (hg.block b hh.lt hne).trans hh.box
  exact ⟨by simp [World.cell?, hb], by simp [World.frozen?, hb]⟩
/-- A field more: the row has grown in W', and the box is told. -/
theorem TB.setRow {w0 W W' : World} {B g m b bo : Nat} {h : Hd} {v v' : Value} (hh : TB w0 W B g m b bo h v) (s t : ByteArray) (hg : W.grownBy W' v.ownBlock)
    (ho : W'.ownsRow bo 39 2 v' (h.fs.length + 1) (fcells h.fs ++ [.string s, .string t])) : TB w0 (W'.setCell ⟨b, 3, none⟩ v') B g m b bo { h with fs := h.fs ++ [(s, t)] } v' := by
  have hbb := hh.bb
  have hne : some b ≠ v.ownBlock := fun e => by have := (hh.own.lt b e.symm).1; omega
  have hb := (hg.block b hh.lt hne).trans hh.box
  refine ⟨heap_setCell_same W' b 3 _ _ v' hb, ?_, ?_, hh.gw, hh.gb, hh.wb, hbb⟩
  · dsimp only
    rw [fcells_app, List.length_append]
    exact own_setk ho hbb _
  · refine drawn_set1 ?_ hh.gb hh.wb 3 _
    exact drawn_grown hh.drawn hg hh.gw (fun r hr => by have := (hh.own.lt r hr).1; have := hh.wb; omega)
/-- Another block below the row stays, when the row grows and the box is told. -/
theorem TB.other {w0 W W' : World} {B g m b bo k : Nat} {h : Hd} {v v' : Value} {o : Obj} (hh : TB w0 W B g m b bo h v) (hg : W.grownBy W' v.ownBlock) (hk : W.heap[k]? = some o) (hkb : k < bo) (hne : k ≠ b) : (W'.setCell ⟨b, 3, none⟩ v').heap[k]? = some o := by
  have hn : some k ≠ v.ownBlock := fun e => by have := (hh.own.lt k e.symm).1; omega
  exact (heap_setCell_other W' ⟨b, 3, none⟩ k _ (by simpa using hne)).trans ((hg.block k (Array.getElem?_eq_some_iff.1 hk).1 hn).trans hk)
end Go.Proofs.YtabidoopodbknaaGreatDoor
