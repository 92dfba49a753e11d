/- Walks: houses under the drawing, and one of them in a variable. -/
import Derived.Test.YtojmfcpkmknleaaDoorCfD
import Derived.Test.YtojmfcpkmknleaaDoorRegN
namespace Go.Proofs.YtojmfcpkmknleaaDoor
open Go.RowKit

def HSm3 (h : Hs) : Prop := NOk h.names 40 ∧ 1 ≤ h.names.length ∧ h.names.length ≤ 3
theorem HSm.up {h : Hs} (k : HSm h) : HSm3 h := ⟨k.1, k.2.1, by have := k.2.2; omega⟩
theorem NOwn.below {g : Nat} {w w' : World} {u : Value} {ns : List ByteArray} (h : NOwn g w u ns) (hb : Below w.heap.size w w') : NOwn g w' u ns := by
  obtain ⟨b, c, cs, rfl, h1, h2, h3, h4, h5⟩ := h
  exact ⟨b, c, cs, rfl, h1, h2, h3, (hb.block b (Array.getElem?_eq_some_iff.1 h4).1).trans h4, h5⟩
theorem drawn_belowC {w0 w w' : World} {B g m : Nat} (h : Drawn w0 w B g m) (hb : Below w.heap.size w w') (hg : g < w0.heap.size) : Drawn w0 w' B g m :=
  drawn_grownC (row := none) h ⟨hb.os, hb.tape, hb.output, hb.size, fun k hk _ => hb.block k hk⟩ hg (fun _ e => by cases e)
theorem CIn.below {w0 W W' : World} {B g m b : Nat} {its : List (Value × Hs)} {v : Value} (h : CIn w0 W B g m b its v) (hb : Below W.heap.size W W') : CIn w0 W' B g m b its v :=
  h.keep (m' := m) ⟨h.drawn.1.keep fun k hk => hb.block k (by have := h.drawn.1.lt; omega), hb.os, hb.tape, hb.output, hb.size, fun k hk _ => hb.block k hk⟩

/-- One of the houses lies in a variable c, with texts u. -/
structure VIn (w0 W : World) (B g m b : Nat) (its : List (Value × Hs)) (v : Value) (c : Nat) (u : Value) (h : Hs) : Prop where
  cin : CIn w0 W B g m b its v
  var : W.heap[c]? = some (.cells #[u, .int .i64 h.key, .int .i64 h.maxN, .int .i64 h.maxB] 33 (0, 0))
  un : NOwn g W u h.names
  us : HSm3 h
  ne : v.ownBlock ≠ some c
  wc : w0.heap.size ≤ c
theorem VIn.lt {w0 W : World} {B g m b c : Nat} {its : List (Value × Hs)} {v u : Value} {h : Hs} (k : VIn w0 W B g m b its v c u h) : c < W.heap.size := (Array.getElem?_eq_some_iff.1 k.var).1
theorem VIn.bc {w0 W : World} {B g m b c : Nat} {its : List (Value × Hs)} {v u : Value} {h : Hs} (k : VIn w0 W B g m b its v c u h) : b ≠ c := other_block k.cin.box k.var (by decide)
theorem VIn.keep {w0 W W' : World} {B g m m' b c : Nat} {its : List (Value × Hs)} {v u : Value} {h : Hs} (k : VIn w0 W B g m b its v c u h) (hd : Drawn W W' B g m') : VIn w0 W' B g m' b its v c u h :=
  ⟨k.cin.keep hd, block_keep (by have := k.cin.gb; have := k.wc; omega) k.var hd.2, k.un.keep hd.2, k.us, k.ne, k.wc⟩
theorem VIn.mono {w0 W : World} {B g m m' b c : Nat} {its : List (Value × Hs)} {v u : Value} {h : Hs} (k : VIn w0 W B g m b its v c u h) (hm : m ≤ m') : VIn w0 W B g m' b its v c u h :=
  ⟨k.cin.mono hm, k.var, k.un, k.us, k.ne, k.wc⟩
theorem VIn.below {w0 W W' : World} {B g m b c : Nat} {its : List (Value × Hs)} {v u : Value} {h : Hs} (k : VIn w0 W B g m b its v c u h) (hb : Below W.heap.size W W') : VIn w0 W' B g m b its v c u h :=
  ⟨k.cin.below hb, (hb.block c k.lt).trans k.var, k.un.below hb, k.us, k.ne, k.wc⟩
theorem VIn.alloc {w0 W : World} {B g m b c : Nat} {its : List (Value × Hs)} {v u : Value} {h : Hs} (k : VIn w0 W B g m b its v c u h) (o : Obj) : VIn w0 (W.alloc o) B g m b its v c u h :=
  k.keep ((Drawn.refl k.cin.drawn.1).alloc o)
/-- The houses, when a cell of the variable is written. -/
theorem VIn.setCin {w0 W : World} {B g m b c : Nat} {its : List (Value × Hs)} {v u : Value} {h : Hs} (k : VIn w0 W B g m b its v c u h) (j : Nat) (x : Value) : CIn w0 (W.setCell ⟨c, j, none⟩ x) B g m b its v :=
  ⟨(heap_setCell_other W ⟨c, j, none⟩ b _ k.bc).trans k.cin.box, own_setC k.cin.own k.ne x, fun p hp => (k.cin.nms p hp).set k.var (by decide) j x, k.cin.ok, drawn_setC k.cin.drawn k.cin.gb k.wc j x, k.cin.gb, k.cin.wb⟩
theorem VIn.setNames {w0 W : World} {B g m b c : Nat} {its : List (Value × Hs)} {v u : Value} {h : Hs} (k : VIn w0 W B g m b its v c u h) {u' : Value} {ns : List ByteArray} (hn : NOwn g W u' ns) (hs : NOk ns 40 ∧ 1 ≤ ns.length ∧ ns.length ≤ 3) :
    VIn w0 (W.setCell ⟨c, 0, none⟩ u') B g m b its v c u' { h with names := ns } :=
  ⟨k.setCin 0 u', heap_setCell_same W c 0 _ _ u' k.var, hn.set k.var (by decide) 0 u', hs, k.ne, k.wc⟩
theorem VIn.setKey {w0 W : World} {B g m b c : Nat} {its : List (Value × Hs)} {v u : Value} {h : Hs} (k : VIn w0 W B g m b its v c u h) (x : Int) : VIn w0 (W.setCell ⟨c, 1, none⟩ (.int .i64 x)) B g m b its v c u { h with key := x } :=
  ⟨k.setCin 1 _, heap_setCell_same W c 1 _ _ (.int .i64 x) k.var, k.un.set k.var (by decide) 1 _, k.us, k.ne, k.wc⟩
theorem VIn.setMaxN {w0 W : World} {B g m b c : Nat} {its : List (Value × Hs)} {v u : Value} {h : Hs} (k : VIn w0 W B g m b its v c u h) (x : Int) : VIn w0 (W.setCell ⟨c, 2, none⟩ (.int .i64 x)) B g m b its v c u { h with maxN := x } :=
  ⟨k.setCin 2 _, heap_setCell_same W c 2 _ _ (.int .i64 x) k.var, k.un.set k.var (by decide) 2 _, k.us, k.ne, k.wc⟩
theorem VIn.setMaxB {w0 W : World} {B g m b c : Nat} {its : List (Value × Hs)} {v u : Value} {h : Hs} (k : VIn w0 W B g m b its v c u h) (x : Int) : VIn w0 (W.setCell ⟨c, 3, none⟩ (.int .i64 x)) B g m b its v c u { h with maxB := x } :=
  ⟨k.setCin 3 _, heap_setCell_same W c 3 _ _ (.int .i64 x) k.var, k.un.set k.var (by decide) 3 _, k.us, k.ne, k.wc⟩
theorem VIn.setRow {w0 W W' : World} {B g m b c : Nat} {its : List (Value × Hs)} {v u : Value} {h : Hs} (k : VIn w0 W B g m b its v c u h) (p : Value × Hs) (hp : HSm p.2) (hn : NOwn g W' p.1 p.2.names)
    (hg : W.grownBy W' v.ownBlock) {g3 cap : Nat} (ho : W'.ownsRow w0.heap.size 33 4 (.slice (some ⟨g3, 0, none⟩) (its.length + 1) cap) (its.length + 1) (icells its ++ icell p)) (hat : v.ownBlock = some g3 ∨ c < g3) :
    W'.cell? ⟨b, 0, none⟩ = some v ∧ W'.frozen? ⟨b, 0, none⟩ = false ∧ VIn w0 (W'.setCell ⟨b, 0, none⟩ (.slice (some ⟨g3, 0, none⟩) (its.length + 1) cap)) B g m b (its ++ [p]) (.slice (some ⟨g3, 0, none⟩) (its.length + 1) cap) c u h := by
  obtain ⟨k1, k2, k3⟩ := k.cin.setRow p hp hn hg ho
  obtain ⟨q1, q2, q3⟩ := k.cin.grown hg
  have hv : W'.heap[c]? = _ := (hg.block c k.lt (Ne.symm k.ne)).trans k.var
  refine ⟨k1, k2, k3, (heap_setCell_other W' ⟨b, 0, none⟩ c _ (Ne.symm k.bc)).trans hv, (q2 _ _ k.un).set q1 (by decide) 0 _, k.us, fun e => ?_, k.wc⟩
  have e2 : g3 = c := by simpa [Value.ownBlock] using e
  subst e2
  rcases hat with hat | hat
  · exact k.ne hat
  · omega

theorem HRowA.set {g : Nat} {w : World} {v : Value} {hs : List Hs} (h : HRowA g w v hs) {b : Nat} {ds : Array Value} {fr : Nat × Nat} (hb : w.heap[b]? = some (.cells ds 25 fr)) (j : Nat) (x : Value) : HRowA g (w.setCell ⟨b, j, none⟩ x) v hs := by
  obtain ⟨a, c, rfl, h1, h2, h3⟩ := h
  refine ⟨a, c, rfl, h1, h2, fun i y hj => ?_⟩
  obtain ⟨r, u, cs, k1, k2, k3, k4, k5, k6⟩ := h3 i y hj
  exact ⟨r, u, cs, k1, k2, (heap_setCell_other w ⟨b, j, none⟩ r _ (other_block k3 hb (by decide))).trans k3, k4, k5.set hb (by decide) j x, k6⟩

def setQ4 (W : World) (r k : Nat) (x0 x1 x2 x3 : Value) : World := (((W.setCell ⟨r, k, none⟩ x0).setCell ⟨r, k + 1, none⟩ x1).setCell ⟨r, k + 2, none⟩ x2).setCell ⟨r, k + 3, none⟩ x3
/-- The house of the variable takes its place among the houses. -/
theorem VIn.fin {w0 W : World} {B g m b c r cap k : Nat} {its : List (Value × Hs)} {u : Value} {h : Hs} (K : VIn w0 W B g m b its (.slice (some ⟨r, 0, none⟩) its.length cap) c u h) (hk : k < its.length) :
    (∃ x0 x1 x2 x3, W.cell? ⟨r, k * 4, none⟩ = some x0 ∧ W.cell? ⟨r, k * 4 + 1, none⟩ = some x1 ∧ W.cell? ⟨r, k * 4 + 2, none⟩ = some x2 ∧ W.cell? ⟨r, k * 4 + 3, none⟩ = some x3) ∧
    (W.frozen? ⟨r, k * 4, none⟩ = false ∧ W.frozen? ⟨r, k * 4 + 1, none⟩ = false ∧ W.frozen? ⟨r, k * 4 + 2, none⟩ = false ∧ W.frozen? ⟨r, k * 4 + 3, none⟩ = false) ∧
    HRowA g (setQ4 W r (k * 4) u (.int .i64 h.key) (.int .i64 h.maxN) (.int .i64 h.maxB)) (.slice (some ⟨r, 0, none⟩) its.length cap) ((its.map (·.2)).set k h) ∧
    (setQ4 W r (k * 4) u (.int .i64 h.key) (.int .i64 h.maxN) (.int .i64 h.maxB)).heap[b]? = some (.cells #[.slice (some ⟨r, 0, none⟩) its.length cap] 25 (0, 0)) ∧
    Drawn w0 (setQ4 W r (k * 4) u (.int .i64 h.key) (.int .i64 h.maxN) (.int .i64 h.maxB)) B g m := by
  have hown := K.cin.own
  rcases hown.2 with ⟨hx, _⟩ | ⟨c2, cap2, cur, hv, hB, hh, h1, h2, h3, h4⟩
  · cases hx
  obtain ⟨rfl, rfl⟩ : r = c2 ∧ cap = cap2 := by simpa using hv
  have hsz : k * 4 + 3 < cur.size := by omega
  have hgb := K.cin.gb
  have s1 := heap_setCell_same W r (k * 4) _ _ u hh
  have s2 := heap_setCell_same _ r (k * 4 + 1) _ _ (.int .i64 h.key) s1
  have s3 := heap_setCell_same _ r (k * 4 + 2) _ _ (.int .i64 h.maxN) s2
  have s4 := heap_setCell_same _ r (k * 4 + 3) _ _ (.int .i64 h.maxB) s3
  have hbr : b ≠ r := other_block K.cin.box hh (by decide)
  have hset : ∀ u' ns, NOwn g W u' ns → NOwn g (setQ4 W r (k * 4) u (.int .i64 h.key) (.int .i64 h.maxN) (.int .i64 h.maxB)) u' ns := fun u' ns hn =>
    (((hn.set hh (by decide) _ _).set s1 (by decide) _ _).set s2 (by decide) _ _).set s3 (by decide) _ _
  refine ⟨?_, ⟨by simp [World.frozen?, hh], by simp [World.frozen?, hh], by simp [World.frozen?, hh], by simp [World.frozen?, hh]⟩, ?_, ?_, ?_⟩
  · refine ⟨cur[k * 4], cur[k * 4 + 1], cur[k * 4 + 2], cur[k * 4 + 3], ?_, ?_, ?_, ?_⟩
    all_goals rw [cell_of_row W r _ cur _ (0, 0) hh]; exact Array.getElem?_eq_getElem _
  · refine ⟨_, cap, by rw [List.length_set, List.length_map], by rw [List.length_set, List.length_map]; exact h1, h2, fun j y hj => ?_⟩
    rw [List.getElem?_set, List.length_map] at hj
    by_cases e : k = j
    · subst e
      rw [if_pos rfl, if_pos hk] at hj
      cases hj
      refine ⟨r, u, _, rfl, by omega, s4, ?_, hset _ _ K.un, ?_, ?_, ?_⟩
      all_goals simp only [Array.getElem?_setIfInBounds, Array.size_setIfInBounds]
      · rw [if_neg (by omega), if_neg (by omega), if_neg (by omega), if_pos trivial, if_pos (by omega)]
      · rw [if_neg (by omega), if_neg (by omega), if_pos trivial, if_pos (by omega)]
      · rw [if_neg (by omega), if_pos trivial, if_pos (by omega)]
      · rw [if_pos trivial, if_pos (by omega)]
    · rw [if_neg e, List.getElem?_map] at hj
      obtain ⟨q, hq, rfl⟩ := Option.map_eq_some_iff.1 hj
      have hjl := (List.getElem?_eq_some_iff.1 hq).1
      have hat : ∀ i, i < 4 → cur[j * 4 + i]? = (icell q)[i]? := fun i hi => by
        rw [← icells_at i hq hi, ← h4, List.getElem?_take, if_pos (by omega), Array.getElem?_toList]
      refine ⟨r, q.1, _, rfl, by omega, s4, ?_, hset _ _ (K.cin.nms q (List.mem_of_getElem? hq)), ?_, ?_, ?_⟩
      all_goals simp only [Array.getElem?_setIfInBounds, Array.size_setIfInBounds]
      all_goals rw [if_neg (by omega), if_neg (by omega), if_neg (by omega), if_neg (by omega)]
      · exact hat 0 (by omega)
      · exact hat 1 (by omega)
      · exact hat 2 (by omega)
      · exact hat 3 (by omega)
  · unfold setQ4
    rw [heap_setCell_other _ ⟨r, _, none⟩ b _ hbr, heap_setCell_other _ ⟨r, _, none⟩ b _ hbr, heap_setCell_other _ ⟨r, _, none⟩ b _ hbr, heap_setCell_other _ ⟨r, _, none⟩ b _ hbr]
    exact K.cin.box
  · unfold setQ4
    exact drawn_setC (drawn_setC (drawn_setC (drawn_setC K.cin.drawn hgb hB _ _) hgb hB _ _) hgb hB _ _) hgb hB _ _
end Go.Proofs.YtojmfcpkmknleaaDoor
