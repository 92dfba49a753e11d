/- What the exact laws on requests that go on have in common: rows marked, and what stays. -/
import Derived.Test.YtiepobifbkleaaaGreatDoorGKyL
import Derived.Test.YtiepobifbkleaaaGreatDoorGhx
namespace Go.Proofs.YtiepobifbkleaaaGreatDoor
open Go.RowKit Go.Maps

/-- Blocks may be turned where X says so. -/
def Kp (X : Nat → Prop) (w w' : World) : Prop := w'.os = w.os ∧ w'.tape = w.tape ∧ w'.output = w.output ∧ w.heap.size ≤ w'.heap.size ∧ ∀ b, b < w.heap.size → ¬ X b → w'.heap[b]? = w.heap[b]?
theorem Kp.size {X : Nat → Prop} {w w' : World} (h : Kp X w w') : w.heap.size ≤ w'.heap.size := h.2.2.2.1
theorem Kp.block {X : Nat → Prop} {w w' : World} (h : Kp X w w') {b : Nat} (hb : b < w.heap.size) (hx : ¬ X b) : w'.heap[b]? = w.heap[b]? := h.2.2.2.2 b hb hx
theorem Kp.trans {X : Nat → Prop} {w w' w'' : World} (h : Kp X w w') (k : Kp X w' w'') : Kp X w w'' :=
  ⟨k.1.trans h.1, k.2.1.trans h.2.1, k.2.2.1.trans h.2.2.1, Nat.le_trans h.size k.size, fun _ hb hx => (k.block (Nat.lt_of_lt_of_le hb h.size) hx).trans (h.block hb hx)⟩
theorem Kp.wide {X Y : Nat → Prop} {w w' : World} (h : Kp X w w') (hy : ∀ b, X b → Y b) : Kp Y w w' := ⟨h.1, h.2.1, h.2.2.1, h.size, fun b hb hx => h.block hb (fun hh => hx (hy b hh))⟩
theorem kp_below {X : Nat → Prop} {w w' : World} (h : Below w.heap.size w w') : Kp X w w' := ⟨h.os, h.tape, h.output, h.size, fun b hb _ => h.block b hb⟩
theorem kp_grown {w w' : World} {r : Option Nat} (h : w.grownBy w' r) : Kp (fun b => some b = r) w w' := ⟨h.os, h.tape, h.output, h.size, fun b hb hx => h.block b hb hx⟩
theorem kp_frm {w w' : World} {g n B C : Nat} {F : Nat → Hs} {us : Nat → Value} (h : Frm w w' g n us) (hf : HF w B g n F us) (hg : g < C) (hu : ∀ i b, i < n → (us i).ownBlock = some b → b < C) : Kp (fun b => B ≤ b ∧ b < C) w w' :=
  ⟨h.1, h.2.1, h.2.2.1, h.2.2.2.1, fun b hb hout => h.2.2.2.2 b hb (fun e => hout ⟨by have := hf.1; omega, by omega⟩) (fun i hi e => hout ⟨((hf.2.2.1 i hi).1.lt b e).1, hu i b hi e⟩)⟩
theorem Kp.below {X : Nat → Prop} {w w' : World} (h : Kp X w w') {B : Nat} (hB : B ≤ w.heap.size) (hx : ∀ b, X b → B ≤ b) : Below B w w' := ⟨h.1, h.2.1, h.2.2.1, h.size, fun b hb => h.block (by omega) (fun hh => by have := hx b hh; omega)⟩
theorem Kp.own {X : Nat → Prop} {w w' : World} (h : Kp X w w') {B : Nat} {T : TypeId} {s n : Nat} {v : Value} {xs : List Value} (ho : w.ownsRow B T s v n xs) (hx : ∀ b, v.ownBlock = some b → ¬ X b) : w'.ownsRow B T s v n xs := by
  refine ⟨ho.1, ?_⟩
  rcases ho.2 with h0 | ⟨g, cap, cur, hv, hB, hh, rest⟩
  · exact .inl h0
  · have hg : g < w.heap.size := (Array.getElem?_eq_some_iff.1 hh).1
    exact .inr ⟨g, cap, cur, hv, hB, (h.block hg (hx g (by rw [hv]; rfl))).trans hh, rest⟩
/-- A row stays when a box of another type is told. -/
theorem own_set5 {w : World} {B c : Nat} {T T' : TypeId} {s n : Nat} {v : Value} {xs : List Value} {zs : Array Value} (h : w.ownsRow B T s v n xs) (hc : w.heap[c]? = some (.cells zs T' (0, 0))) (hT : T ≠ T') (x0 x1 x2 x3 x4 : Value) : (set5 w c x0 x1 x2 x3 x4).ownsRow B T s v n xs := by
  refine ⟨h.1, ?_⟩
  rcases h.2 with h0 | ⟨g, cap, cur, hv, hB, hh, rest⟩
  · exact .inl h0
  · have hne : g ≠ c := fun e => by
      rw [e, hc] at hh
      injection hh with e1
      injection e1 with _ e2
      exact hT e2.symm
    exact .inr ⟨g, cap, cur, hv, hB, (set5_other hne).trans hh, rest⟩
/-- A request that a call has made, its fields in a row of its own. -/
def RHp (B0 : Nat) (qv qt qh : ByteArray) (qf : List Fd) (qb : ByteArray) : Value → World → Prop := fun v W => ∃ vr, v = .agg #[.string qv, .string qt, .string qh, vr, .string qb] ∧ W.ownsRow B0 50 2 vr qf.length (fcells qf)
theorem steady_hp {B0 : Nat} {qv qt qh : ByteArray} {qf : List Fd} {qb : ByteArray} : Steady (RHp B0 qv qt qh qf qb) := fun _ _ _ ⟨vr, h1, h2⟩ hb => ⟨vr, h1, own_below h2 hb⟩
/-- The box and the row in it, once told. -/
theorem told_box {w0 w : World} {B c : Nat} {vr : Value} {zs : Array Value} {qv qt qh qb : ByteArray} {qf : List Fd} (hb : Below w0.heap.size w0 w) (hc : w.heap[c]? = some (.cells zs 40 (0, 0))) (hcw : w0.heap.size ≤ c) (ho : w.ownsRow B 50 2 vr qf.length (fcells qf)) (hz : ∃ x0 x1 x2 x3 x4, zs = #[x0, x1, x2, x3, x4]) :
    Below w0.heap.size w0 (set5 w c (.string qv) (.string qt) (.string qh) vr (.string qb)) ∧ (set5 w c (.string qv) (.string qt) (.string qh) vr (.string qb)).heap[c]? = some (.cells #[.string qv, .string qt, .string qh, vr, .string qb] 40 (0, 0)) ∧ (set5 w c (.string qv) (.string qt) (.string qh) vr (.string qb)).ownsRow B 50 2 vr qf.length (fcells qf) ∧ vr.ownBlock ≠ some c ∧ c < (set5 w c (.string qv) (.string qt) (.string qh) vr (.string qb)).heap.size := by
  obtain ⟨x0, x1, x2, x3, x4, rfl⟩ := hz
  have h2 := five_set hc (.string qv) (.string qt) (.string qh) vr (.string qb)
  refine ⟨hb.grown (grown_set5 _ _ _ _ _ _ _) hb.size (fun k hk => by cases hk; omega), h2, own_set5 ho hc (by decide) _ _ _ _ _, fun e => ?_, (Array.getElem?_eq_some_iff.1 h2).1⟩
  rcases ho.2 with ⟨h0, _⟩ | ⟨g, cap, cur, hv, hB, hh, rest⟩
  · rw [h0] at e; cases e
  · rw [hv] at e
    have e2 : g = c := Option.some.inj e
    rw [e2, hc] at hh
    injection hh with e1
    injection e1 with _ e3
    exact absurd e3 (by decide)
end Go.Proofs.YtiepobifbkleaaaGreatDoor
