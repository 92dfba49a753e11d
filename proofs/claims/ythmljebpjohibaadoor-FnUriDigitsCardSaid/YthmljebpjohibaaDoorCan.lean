/- Places: the machine that writes a place in its plainest form: its steps. -/
import Derived.Test.YthmljebpjohibaaDoorCanL
import Derived.Test.YthmljebpjohibaaDoorSCan
import Derived.Test.YthmljebpjohibaaDoorMach
import Derived.Laws.EntriesVeiled
import Derived.Deep.RegionWith
namespace Go.Proofs.YthmljebpjohibaaDoor
open Go.RowKit

/-- The form so far lies in the block b, its bytes in a row of the call's own behind it. -/
def CAt (w : World) (b : Nat) (ys : List UInt8) (seg : Nat) (res : Value) (high : Nat) : Prop :=
  ∃ v, w.heap[b]? = some (.cells #[v, .int .i64 (seg : Int), res, .int .u8 (high : Int)] 47 (0, 0)) ∧ w.ownsRow (b + 1) 5 1 v ys.length (u8s ys)

theorem CAt.lt {w : World} {b : Nat} {ys : List UInt8} {seg : Nat} {res : Value} {high : Nat} (h : CAt w b ys seg res high) : b < w.heap.size := by
  obtain ⟨v, hh, _⟩ := h; exact (Array.getElem?_eq_some_iff.1 hh).1

def pathV (b : Nat) : Value := .func (.func 69) #[.pointer (some ⟨b, 0, none⟩)] #[]
def queryV (b : Nat) : Value := .func (.func 80) #[.pointer (some ⟨b, 0, none⟩)] #[]

theorem grown_set (w : World) (b k : Nat) (x : Value) : w.grownBy (w.setCell ⟨b, k, none⟩ x) (some b) := ⟨rfl, rfl, rfl, by simp, fun j _ hj => heap_setCell_other w ⟨b, k, none⟩ j _ (fun e => hj (by simp [e]))⟩
theorem below_set {w w3 : World} {b k : Nat} {x : Value} (h : Below b w w3) : Below b w (w3.setCell ⟨b, k, none⟩ x) :=
  ⟨h.os, h.tape, h.output, by simpa using h.size, fun j hj => (heap_setCell_other w3 ⟨b, k, none⟩ j _ (by simp; omega)).trans (h.block j hj)⟩
theorem own_set {w : World} {b k n : Nat} {v x : Value} {e : TypeId} {xs : List Value} (h : w.ownsRow (b + 1) e 1 v n xs) : (w.setCell ⟨b, k, none⟩ x).ownsRow (b + 1) e 1 v n xs :=
  h.kept (grown_set w b k x) (.inr fun e => by have := (h.lt b e).1; omega)

theorem CAt.set0 {w : World} {b n seg high : Nat} {v v' res : Value} {ys : List UInt8} (hh : w.heap[b]? = some (.cells #[v, .int .i64 (seg : Int), res, .int .u8 (high : Int)] 47 (0, 0))) (ho : w.ownsRow (b + 1) 5 1 v' n (u8s ys)) (hn : n = ys.length) : CAt (w.setCell ⟨b, 0, none⟩ v') b ys seg res high := by
  refine ⟨v', ?_, hn ▸ own_set ho⟩
  rw [heap_setCell_same w b 0 _ _ _ hh]; simp
theorem CAt.set1 {w : World} {b seg high : Nat} {res : Value} {ys : List UInt8} (h : CAt w b ys seg res high) (n : Nat) : CAt (w.setCell ⟨b, 1, none⟩ (.int .i64 (n : Int))) b ys n res high := by
  obtain ⟨v, hh, ho⟩ := h
  refine ⟨v, ?_, own_set ho⟩
  rw [heap_setCell_same w b 1 _ _ _ hh]; simp
theorem CAt.set2 {w : World} {b seg high : Nat} {res : Value} {ys : List UInt8} (h : CAt w b ys seg res high) (r : Value) : CAt (w.setCell ⟨b, 2, none⟩ r) b ys seg r high := by
  obtain ⟨v, hh, ho⟩ := h
  refine ⟨v, ?_, own_set ho⟩
  rw [heap_setCell_same w b 2 _ _ _ hh]; simp
theorem CAt.set3 {w : World} {b seg high : Nat} {res : Value} {ys : List UInt8} (h : CAt w b ys seg res high) (n : Nat) : CAt (w.setCell ⟨b, 3, none⟩ (.int .u8 (n : Int))) b ys seg res n := by
  obtain ⟨v, hh, ho⟩ := h
  refine ⟨v, ?_, own_set ho⟩
  rw [heap_setCell_same w b 3 _ _ _ hh]; simp

set_option maxHeartbeats 800000 in
theorem c_put (b : Nat) (ys : List UInt8) (seg high : Nat) (res next : Value) (c : UInt8) (w : World) (h : CAt w b ys seg res high) (hn : ys.length ≤ 1000) :
    Calls Tryd.prog 68 #[.pointer (some ⟨b, 0, none⟩), .int .u8 c.toNat, next] w fun e w' => e = .returned next ∧ CAt w' b (ys ++ [c]) seg res high ∧ Below b w w' := by
  obtain ⟨i0, hi, hz0, hz1, hz2⟩ := info_parts Tryd.info5
  have hlt := h.lt
  obtain ⟨v, hh, hown⟩ := h
  have c0 : w.cell? ⟨b, 0, none⟩ = some v := by simp [World.cell?, hh]
  have fin : ∀ (w3 : World) (v' : Value), w3.ownsRow (b + 1) 5 1 v' (ys.length + 1) (u8s ys ++ [.int .u8 (c.toNat : Int)]) → w3.heap[b]? = w.heap[b]? → Below b w w3 → CAt (w3.setCell ⟨b, 0, none⟩ v') b (ys ++ [c]) seg res high ∧ Below b w (w3.setCell ⟨b, 0, none⟩ v') := by
    intro w3 v' ho hh3 hb3
    rw [← u8s_app] at ho
    exact ⟨CAt.set0 (hh3.trans hh) ho (by simp), below_set hb3⟩
  have hfz : w.frozen? ⟨b, 0, none⟩ = false := by simp [World.frozen?, hh]
  have HH := Lib.hid hh; clear hh
  go_enter Tryd.func68, Tryd.ntmps68
  go_wp2_with (at_builtin; go_must (refine wpList_append1 w rfl _ _ 22 rfl (b + 1) 5 i0 _ 1 Tryd.underlying22 hi hz0 hz1 hz2 rfl _ _ _ (by rfl) hown _ rfl _ (by rfl) (by unfold maxLen; omega) (by omega) hlt ?_); intro v' w3 ho3 hb3 hlt3; obtain ⟨g', cap', rfl⟩ := own_form ho3 (by omega); have hh3 := hb3.block b (by omega); have c3 : w3.cell? ⟨b, 0, none⟩ = some v := ((World.cell?_of_block (a := ⟨b, 0, none⟩) hh3).trans c0); have f3 : w3.frozen? ⟨b, 0, none⟩ = false := ((World.frozen?_of_block (a := ⟨b, 0, none⟩) hh3).trans hfz))
  go_ret
  obtain ⟨q1, q2⟩ := fin w3 _ ho3 hh3 (hb3.mono (by omega))
  exact ⟨rfl, q1, q2⟩

set_option maxHeartbeats 800000 in
theorem c_slash (b : Nat) (ys : List UInt8) (seg high : Nat) (res : Value) (w : World) (h : CAt w b ys seg res high) (hn : ys.length ≤ 1000) :
    Calls Tryd.prog 51 #[.pointer (some ⟨b, 0, none⟩)] w fun e w' => e = .returned (pathV b) ∧ CAt w' b (ys ++ [47]) (ys.length + 1) res high ∧ Below b w w' := by
  have c1 := c_put b ys seg high res (pathV b) 47 w h hn
  have hmf : ∀ (fn : Fn) (first cap : Array Value) (w : World), (Instr.makeFunc fn first cap).run Tryd.prog w = .ok (.func fn first cap) w := fun _ _ _ _ => rfl
  unfold pathV at *
  clear h
  go_enter Tryd.func51, Tryd.ntmps51
  go_wp2_with fail
  refine c1.mono ?_
  rintro e w1 ⟨rfl, hc, hb⟩
  clear c1
  have hc2 := hc
  obtain ⟨v, hh, ho⟩ := hc2
  have hlen : (ys ++ [47]).length = ys.length + 1 := by simp
  rw [hlen] at ho
  obtain ⟨g', cap', rfl⟩ := own_form ho (by omega)
  have k0 : w1.cell? ⟨b, 0, none⟩ = some (.slice (some ⟨g', 0, none⟩) (ys.length + 1) cap') := by simp [World.cell?, hh]
  have k1 : w1.cell? ⟨b, 1, none⟩ = some (.int .i64 (seg : Int)) := by simp [World.cell?, hh]
  have f1 : w1.frozen? ⟨b, 1, none⟩ = false := by simp [World.frozen?, hh]
  clear hh ho
  go_wp2
  go_ret
  exact ⟨rfl, hc.set1 (ys.length + 1), below_set hb⟩

theorem c_escape (b : Nat) (ys : List UInt8) (seg high : Nat) (res : Value) (q : Bool) (w : World) (h : CAt w b ys seg res high) :
    Calls Tryd.prog 81 #[.pointer (some ⟨b, 0, none⟩), (if q then queryV b else pathV b)] w fun e w' => e = .returned (.func (.func 88) #[.pointer (some ⟨b, 0, none⟩)] #[]) ∧ CAt w' b ys seg (if q then queryV b else pathV b) high ∧ Below b w w' := by
  have hfin := fun r => h.set2 r
  obtain ⟨v, hh, ho⟩ := h
  have k2 : w.cell? ⟨b, 2, none⟩ = some res := by simp [World.cell?, hh]
  have f2 : w.frozen? ⟨b, 2, none⟩ = false := by simp [World.frozen?, hh]
  have hmf : ∀ (fn : Fn) (first cap : Array Value) (w : World), (Instr.makeFunc fn first cap).run Tryd.prog w = .ok (.func fn first cap) w := fun _ _ _ _ => rfl
  clear hh ho
  unfold pathV queryV at *
  cases q
  · simp only [Bool.false_eq_true, if_false]
    go_enter Tryd.func81, Tryd.ntmps81
    go_wp2
    go_ret
    exact ⟨rfl, hfin _, below_set (Below.refl _ _)⟩
  · simp only [if_true]
    go_enter Tryd.func81, Tryd.ntmps81
    go_wp2
    go_ret
    exact ⟨rfl, hfin _, below_set (Below.refl _ _)⟩
end Go.Proofs.YthmljebpjohibaaDoor
