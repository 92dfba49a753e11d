import Derived.Test.YtabidoopodbknaaGreatDoorGhed
import Derived.Test.YtabidoopodbknaaGreatDoorGDrU
import Derived.Test.YtabidoopodbknaaGreatDoorBln
import Derived.Deep.DeepCutAuto
-- from XHdI
/- Walks: a request under the drawing: its box, and what it holds. -/
namespace Go.Proofs.YtabidoopodbknaaGreatDoor
open Go.RowKit

/-- The box b holds the request h, whose fields lie in the row v, and the reader has gone on. -/
structure HIn (w0 W : World) (B g m b n : Nat) (h : Hd) (v : Value) : Prop where
  box : W.heap[b]? = some (.cells #[.string h.verb, .string h.target, .string h.host, v, .string h.body] 27 (0, 0))
  own : W.ownsRow (b + 1) 39 2 v h.fs.length (fcells h.fs)
  ok : FOk h.fs 40
  verb : h.verb.size ≤ 50
  target : h.target.size ≤ 50
  host : h.host.size ≤ 50
  body : h.body.size ≤ 50
  many : h.fs.length ≤ n
  drawn : Drawn w0 W B g m
  gb : g < b
  wb : w0.heap.size ≤ b
theorem HIn.keep {w0 W W' : World} {B g m m' b n : Nat} {h : Hd} {v : Value} (hh : HIn w0 W B g m b n h v) (hd : Drawn W W' B g m') : HIn w0 W' B g m' b n h v :=
  ⟨(hd.2.block b (Array.getElem?_eq_some_iff.1 hh.box).1 (fun e => by have := hh.gb; cases e; omega)).trans hh.box, own_drawn hh.own (by have := hh.gb; omega) hd.2, hh.ok, hh.verb, hh.target, hh.host, hh.body, hh.many, hh.drawn.trans hd, hh.gb, hh.wb⟩
theorem HIn.mono {w0 W : World} {B g m m' b n n' : Nat} {h : Hd} {v : Value} (hh : HIn w0 W B g m b n h v) (hm : m ≤ m') (hn : n ≤ n') : HIn w0 W B g m' b n' h v :=
  ⟨hh.box, hh.own, hh.ok, hh.verb, hh.target, hh.host, hh.body, Nat.le_trans hh.many hn, hh.drawn.mono hm, hh.gb, hh.wb⟩
theorem HIn.alloc {w0 W : World} {B g m b n : Nat} {h : Hd} {v : Value} (hh : HIn w0 W B g m b n h v) (o : Obj) : HIn w0 (W.alloc o) B g m b n h v :=
  hh.keep ((Drawn.refl hh.drawn.1).alloc o)
theorem HIn.lt {w0 W : World} {B g m b n : Nat} {h : Hd} {v : Value} (hh : HIn w0 W B g m b n h v) : b < W.heap.size := (Array.getElem?_eq_some_iff.1 hh.box).1
theorem HIn.setVerb {w0 W : World} {B g m b n : Nat} {h : Hd} {v : Value} (hh : HIn w0 W B g m b n h v) {s : ByteArray} (hs : s.size ≤ 50) : HIn w0 (W.setCell ⟨b, 0, none⟩ (.string s)) B g m b n { h with verb := s } v :=
  ⟨heap_setCell_same W b 0 _ _ (.string s) hh.box, own_setk hh.own (Nat.lt_succ_self b) _, hh.ok, hs, hh.target, hh.host, hh.body, hh.many, drawn_set1 hh.drawn hh.gb hh.wb 0 _, hh.gb, hh.wb⟩
theorem HIn.setTarget {w0 W : World} {B g m b n : Nat} {h : Hd} {v : Value} (hh : HIn w0 W B g m b n h v) {s : ByteArray} (hs : s.size ≤ 50) : HIn w0 (W.setCell ⟨b, 1, none⟩ (.string s)) B g m b n { h with target := s } v :=
  ⟨heap_setCell_same W b 1 _ _ (.string s) hh.box, own_setk hh.own (Nat.lt_succ_self b) _, hh.ok, hh.verb, hs, hh.host, hh.body, hh.many, drawn_set1 hh.drawn hh.gb hh.wb 1 _, hh.gb, hh.wb⟩
theorem HIn.setHost {w0 W : World} {B g m b n : Nat} {h : Hd} {v : Value} (hh : HIn w0 W B g m b n h v) {s : ByteArray} (hs : s.size ≤ 50) : HIn w0 (W.setCell ⟨b, 2, none⟩ (.string s)) B g m b n { h with host := s } v :=
  ⟨heap_setCell_same W b 2 _ _ (.string s) hh.box, own_setk hh.own (Nat.lt_succ_self b) _, hh.ok, hh.verb, hh.target, hs, hh.body, hh.many, drawn_set1 hh.drawn hh.gb hh.wb 2 _, hh.gb, hh.wb⟩
theorem HIn.setBody {w0 W : World} {B g m b n : Nat} {h : Hd} {v : Value} (hh : HIn w0 W B g m b n h v) {s : ByteArray} (hs : s.size ≤ 50) : HIn w0 (W.setCell ⟨b, 4, none⟩ (.string s)) B g m b n { h with body := s } v :=
  ⟨heap_setCell_same W b 4 _ _ (.string s) hh.box, own_setk hh.own (Nat.lt_succ_self b) _, hh.ok, hh.verb, hh.target, hh.host, hs, hh.many, drawn_set1 hh.drawn hh.gb hh.wb 4 _, hh.gb, hh.wb⟩
theorem HIn.rowbox {w0 W W' : World} {B g m b n : Nat} {h : Hd} {v : Value} (hh : HIn w0 W B g m b n h v) (hg : W.grownBy W' v.ownBlock) :
    W'.cell? ⟨b, 3, none⟩ = some v ∧ W'.frozen? ⟨b, 3, none⟩ = false := by
  have hne : some b ≠ v.ownBlock := fun e => by have := (hh.own.lt b e.symm).1; omega
  have hb := (hg.block b hh.lt hne).trans hh.box
  exact ⟨by simp [World.cell?, hb], by simp [World.frozen?, hb]⟩
/-- A field more: the row has grown in W', and the box is told. -/
theorem HIn.setRow {w0 W W' : World} {B g m b n : Nat} {h : Hd} {v v' : Value} (hh : HIn w0 W B g m b n h v) {s t : ByteArray} (hs : s.size ≤ 40) (ht : t.size ≤ 40)
    (hg : W.grownBy W' v.ownBlock) (ho : W'.ownsRow (b + 1) 39 2 v' (h.fs.length + 1) (fcells h.fs ++ [.string s, .string t])) :
    HIn w0 (W'.setCell ⟨b, 3, none⟩ v') B g m b (n + 1) { h with fs := h.fs ++ [(s, t)] } v' := by
  have hne : some b ≠ v.ownBlock := fun e => by have := (hh.own.lt b e.symm).1; omega
  have hb := (hg.block b hh.lt hne).trans hh.box
  refine ⟨heap_setCell_same W' b 3 _ _ v' hb, ?_, ?_, hh.verb, hh.target, hh.host, hh.body, ?_, ?_, hh.gb, hh.wb⟩
  · dsimp only
    rw [fcells_app, List.length_append]
    exact own_setk ho (Nat.lt_succ_self b) _
  · intro f hf
    rcases List.mem_append.1 hf with hf | hf
    · exact hh.ok f hf
    · have : f = (s, t) := by simpa using hf
      subst this; exact ⟨hs, ht⟩
  · have := hh.many; simp; omega
  · refine drawn_set1 ?_ hh.gb hh.wb 3 _
    have h1 := hh.drawn
    have hne2 : ∀ k, k < w0.heap.size → some k ≠ v.ownBlock := fun k hk e => by have := (hh.own.lt k e.symm).1; have := hh.wb; omega
    refine ⟨h1.1.keep fun k hk => hg.block k (by have := h1.1.lt; omega) (fun e => by have := (hh.own.lt k e.symm).1; have := hh.gb; omega), ⟨hg.os.trans h1.2.os, hg.tape.trans h1.2.tape, hg.output.trans h1.2.output, Nat.le_trans h1.2.size hg.size, fun k hk hn => (hg.block k (Nat.lt_of_lt_of_le hk h1.2.size) (hne2 k hk)).trans (h1.2.block k hk hn)⟩⟩
end Go.Proofs.YtabidoopodbknaaGreatDoor

