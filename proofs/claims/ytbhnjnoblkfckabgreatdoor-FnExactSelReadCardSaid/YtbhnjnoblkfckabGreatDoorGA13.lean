import Derived.Test.YtbhnjnoblkfckabGreatDoorGA12
import Derived.Deep.RegionHeld3
-- from XHedQ
/- Walks: a request of its lines, by the specification. -/
namespace Go.Proofs.YtbhnjnoblkfckabGreatDoor
open Go.RowKit

/-- What a request's value is. -/
def hedV (a b c : ByteArray) (v : Value) : Value := .agg #[.string a, .string b, .string c, v, .string ⟨#[]⟩]
theorem whole_cons (l : List UInt8) (ls : List (List UInt8)) : wholeL (l :: ls) = match firstL l, fieldsL ls with
    | some (verb, place, named), some fs => match oneOf (allTo fs ⟨bHost.toArray⟩ fs.length) with
      | (value, true) =>
        if hostB (hostC value.data.toList) = true ∧ (named = [] ∨ named = hostC value.data.toList) ∧ (othersL fs).length ≤ 6 then
          (sizeL verb fs).map fun n => (⟨⟨verb.toArray⟩, ⟨place.toArray⟩, ⟨(hostC value.data.toList).toArray⟩, othersL fs, ⟨#[]⟩⟩, n)
        else none
      | _ => none
    | _, _ => none := rfl

def WholePost (w : World) (o : Option (Hd × Nat)) (e : Ending) (w' : World) : Prop :=
  (∃ a b c sa sn sc, e = .returned (.tuple #[hedV a b c (.slice sa sn sc), sizeV (o.map (·.2))]) ∧ (∀ h n, o = some (h, n) → a = h.verb ∧ b = h.target ∧ c = h.host ∧ w'.ownsRow w.heap.size 88 2 (.slice sa sn sc) h.fs.length (fcells h.fs))) ∧ Below w.heap.size w w'

theorem fields_ok {ls : List (List UInt8)} {fs : List Fd} (h : fieldsL ls = some fs) : fs.length ≤ 8 ∧ FOk fs 30 := by
  unfold fieldsL at h
  split at h
  · rename_i hc
    have := Option.some.inj h
    subst this
    refine ⟨by rw [List.length_map]; exact hc.1, fun f hf => ?_⟩
    obtain ⟨l, hl, rfl⟩ := List.mem_map.1 hf
    have hr := (List.all_eq_true.1 hc.2) l hl
    unfold rdB at hr
    rw [Bool.and_eq_true] at hr
    have := fdB_len (a := (rdF l).1) (b := (rdF l).2) hr.2
    omega
  · cases h

theorem oneOf_size {fs : List Fd} {s : ByteArray} {K : Nat} (h : FOk fs K) : (oneOf (allTo fs s fs.length)).1.size ≤ K := by
  have hall : ∀ x ∈ allTo fs s fs.length, x.size ≤ K := fun x hx => by
    rw [all_filter] at hx
    obtain ⟨f, hf, rfl⟩ := List.mem_map.1 hx
    exact (h f (List.mem_filter.1 hf).1).2
  generalize allTo fs s fs.length = l at *
  match l with
  | [] => exact Nat.zero_le _
  | [x] => exact hall x (List.mem_cons_self ..)
  | x :: y :: l => exact Nat.zero_le _
theorem whole_no1 {l : List UInt8} {ls : List (List UInt8)} {fs : List Fd} (hfs : fieldsL ls = some fs) (h : (oneOf (allTo fs ⟨bHost.toArray⟩ fs.length)).2 = false) : wholeL (l :: ls) = none := by
  rw [whole_cons, hfs]
  cases firstL l with
  | none => rfl
  | some t =>
    dsimp only
    rcases hq : oneOf (allTo fs ⟨bHost.toArray⟩ fs.length) with ⟨a, b⟩
    rw [hq] at h
    dsimp only at h
    subst h
    rfl
theorem whole_cond {l : List UInt8} {ls : List (List UInt8)} {fs : List Fd} {t : List UInt8 × List UInt8 × List UInt8} {value : ByteArray} (hfi : firstL l = some t) (hfs : fieldsL ls = some fs) (h : oneOf (allTo fs ⟨bHost.toArray⟩ fs.length) = (value, true)) :
    wholeL (l :: ls) = if hostB (hostC value.data.toList) = true ∧ (t.2.2 = [] ∨ t.2.2 = hostC value.data.toList) ∧ (othersL fs).length ≤ 6 then
          (sizeL t.1 fs).map fun n => (⟨⟨t.1.toArray⟩, ⟨t.2.1.toArray⟩, ⟨(hostC value.data.toList).toArray⟩, othersL fs, ⟨#[]⟩⟩, n)
        else none := by
  rw [whole_cons, hfs, hfi]
  dsimp only
  rw [h]

/-- What stays of the two requests' cells while the body's length is reckoned. -/
def WhG (w __W0 : World) (bh : Nat) (a b c : ByteArray) (v u : Value) (n : Nat) (xs : List Value) (fs : List Fd) (W : World) : Prop :=
  W.heap[w.heap.size]? = some (.cells #[.string ⟨#[]⟩, .string ⟨#[]⟩, .string ⟨#[]⟩, .slice none 0 0, .string ⟨#[]⟩] 32 (0, 0)) ∧
  W.heap[bh]? = some (.cells #[.string a, .string b, .string c, v, .string ⟨#[]⟩] 32 (0, 0)) ∧
  W.ownsRow (w.heap.size + 1) 88 2 v n xs ∧ FRow W u fs ∧ BelowH w.heap.size w W ∧ w.heap.size < bh ∧ bh < W.heap.size
theorem WhG.next {w W0 W W' : World} {bh : Nat} {a b c : ByteArray} {v u : Value} {n : Nat} {xs : List Value} {fs : List Fd} (h : WhG w W0 bh a b c v u n xs fs W) (hb : Below W.heap.size W W') : WhG w W0 bh a b c v u n xs fs W' := by
  obtain ⟨h1, h2, h3, h4, h5, h6, h7⟩ := h
  exact ⟨(hb.block _ (by omega)).trans h1, (hb.block _ h7).trans h2, own_below h3 hb, h4.below (Nat.le_refl _) hb, below_toH (h5.out.trans (hb.mono h5.out.size)), h6, Nat.lt_of_lt_of_le h7 hb.size⟩
def WhC (bh : Nat) (a b c : ByteArray) (v : Value) (W : World) : Prop :=
  W.cell? ⟨bh, 0, none⟩ = some (.string a) ∧ W.cell? ⟨bh, 1, none⟩ = some (.string b) ∧ W.cell? ⟨bh, 2, none⟩ = some (.string c) ∧ W.cell? ⟨bh, 3, none⟩ = some v ∧ W.cell? ⟨bh, 4, none⟩ = some (.string ⟨#[]⟩)
theorem WhG.cells {w W0 W : World} {bh : Nat} {a b c : ByteArray} {v u : Value} {n : Nat} {xs : List Value} {fs : List Fd} (h : WhG w W0 bh a b c v u n xs fs W) : WhC bh a b c v W := by
  obtain ⟨q0, q1, q2, q3, q4, _⟩ := five_facts h.2.1
  exact ⟨q0, q1, q2, q3, q4⟩
theorem set5_other {w : World} {g k : Nat} {a b c d e : Value} (hk : k ≠ g) : (set5 w g a b c d e).heap[k]? = w.heap[k]? := by
  unfold set5
  rw [heap_setCell_other _ ⟨g, 4, none⟩ k _ (by simpa using hk), heap_setCell_other _ ⟨g, 3, none⟩ k _ (by simpa using hk), heap_setCell_other _ ⟨g, 2, none⟩ k _ (by simpa using hk), heap_setCell_other _ ⟨g, 1, none⟩ k _ (by simpa using hk), heap_setCell_other _ ⟨g, 0, none⟩ k _ (by simpa using hk)]
/-- What is known once the length is reckoned. -/
def WhE (w : World) (bh : Nat) (a b c : ByteArray) (v : Value) (n : Nat) (xs : List Value) (W : World) : Prop :=
  (W.cell? ⟨w.heap.size, 0, none⟩ = some (.string ⟨#[]⟩) ∧ W.cell? ⟨w.heap.size, 1, none⟩ = some (.string ⟨#[]⟩) ∧ W.cell? ⟨w.heap.size, 2, none⟩ = some (.string ⟨#[]⟩) ∧ W.cell? ⟨w.heap.size, 3, none⟩ = some (.slice none 0 0) ∧ W.cell? ⟨w.heap.size, 4, none⟩ = some (.string ⟨#[]⟩) ∧
   W.frozen? ⟨w.heap.size, 0, none⟩ = false ∧ W.frozen? ⟨w.heap.size, 1, none⟩ = false ∧ W.frozen? ⟨w.heap.size, 2, none⟩ = false ∧ W.frozen? ⟨w.heap.size, 3, none⟩ = false ∧ W.frozen? ⟨w.heap.size, 4, none⟩ = false) ∧
  WhC bh a b c v (set5 W w.heap.size (.string a) (.string b) (.string c) v (.string ⟨#[]⟩)) ∧
  (set5 W w.heap.size (.string a) (.string b) (.string c) v (.string ⟨#[]⟩)).heap[w.heap.size]? = some (.cells #[.string a, .string b, .string c, v, .string ⟨#[]⟩] 32 (0, 0)) ∧
  (set5 W w.heap.size (.string a) (.string b) (.string c) v (.string ⟨#[]⟩)).ownsRow w.heap.size 88 2 v n xs ∧
  Below w.heap.size w (set5 W w.heap.size (.string a) (.string b) (.string c) v (.string ⟨#[]⟩))
theorem WhG.finish {w W0 W : World} {bh : Nat} {a b c : ByteArray} {v u : Value} {n : Nat} {xs : List Value} {fs : List Fd} (h : WhG w W0 bh a b c v u n xs fs W) : WhE w bh a b c v n xs W := by
  obtain ⟨h1, h2, h3, h4, h5, h6, h7⟩ := h
  refine ⟨five_facts h1, ?_, five_set h1 _ _ _ _ _, ?_, below_set5 h5.out⟩
  · obtain ⟨q0, q1, q2, q3, q4, _⟩ := five_facts ((set5_other (g := w.heap.size) (a := .string a) (b := .string b) (c := .string c) (d := v) (e := .string ⟨#[]⟩) (Nat.ne_of_gt h6)).trans h2)
    exact ⟨q0, q1, q2, q3, q4⟩
  · refine ⟨h3.1, ?_⟩
    rcases h3.2 with hh | ⟨g, cap, cur, hv, hB, hh, rest⟩
    · exact .inl hh
    · exact .inr ⟨g, cap, cur, hv, by omega, (set5_other (by omega)).trans hh, rest⟩

theorem own_len2 {w : World} {B : Nat} {e : TypeId} {size : Nat} {v : Value} {n : Nat} {xs : List Value} (h : w.ownsRow B e size v n xs) : ∃ a c, v = .slice a n c := by
  rcases h.2 with ⟨h, h0⟩ | ⟨g, cap, cur, h, _⟩
  · exact ⟨none, 0, by rw [h, h0]⟩
  · exact ⟨_, _, h⟩
theorem own_setk {w : World} {B : Nat} {e : TypeId} {size : Nat} {v : Value} {n : Nat} {xs : List Value} (h : w.ownsRow B e size v n xs) {b k : Nat} (hb : b < B) (x : Value) : (w.setCell ⟨b, k, none⟩ x).ownsRow B e size v n xs := by
  refine ⟨h.1, ?_⟩
  rcases h.2 with h | ⟨g, cap, cur, hv, hB, hh, rest⟩
  · exact .inl h
  · exact .inr ⟨g, cap, cur, hv, hB, (heap_setCell_other w ⟨b, k, none⟩ g _ (by simp; omega)).trans hh, rest⟩
theorem below_setB {w w3 : World} {B b k : Nat} {x : Value} (h : Below B w w3) (hb : B ≤ b) : Below B w (w3.setCell ⟨b, k, none⟩ x) :=
  ⟨h.os, h.tape, h.output, by simpa using h.size, fun j hj => (heap_setCell_other w3 ⟨b, k, none⟩ j _ (by simp; omega)).trans (h.block j hj)⟩

end Go.Proofs.YtbhnjnoblkfckabGreatDoor

