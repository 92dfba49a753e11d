/- The laws' own helpers over houses: marks. -/
import Derived.Test.YtojmfcpkmknleaaDoorCfgE4
namespace Go.Proofs.YtojmfcpkmknleaaDoor
open Go.RowKit Go.Maps

/-- n houses in block g, the i-th one F i; us i: the slice of its names, a row of the call's own from block B on. -/
def HF (w : World) (B g n : Nat) (F : Nat → Hs) (us : Nat → Value) : Prop :=
  B ≤ g ∧ (∃ cur t, w.heap[g]? = some (.cells cur t (0, 0)) ∧ n * 4 ≤ cur.size ∧ ∀ i, i < n → cur[i * 4]? = some (us i) ∧ cur[i * 4 + 1]? = some (.int .i64 (F i).key) ∧ cur[i * 4 + 2]? = some (.int .i64 (F i).maxN) ∧ cur[i * 4 + 3]? = some (.int .i64 (F i).maxB)) ∧
  (∀ i, i < n → w.ownsRow B 9 1 (us i) (F i).names.length ((F i).names.map Value.string) ∧ (us i).ownBlock ≠ some g) ∧
  ∀ i j, i < j → j < n → (us i).ownBlock = none ∨ (us i).ownBlock ≠ (us j).ownBlock

theorem own_same {w w' : World} {B : Nat} {e : TypeId} {size : Nat} {v : Value} {n : Nat} {xs : List Value} (h : w.ownsRow B e size v n xs) (hk : ∀ b, v.ownBlock = some b → w'.heap[b]? = w.heap[b]?) : w'.ownsRow B e size v n xs := by
  refine ⟨h.1, ?_⟩
  rcases h.2 with h | ⟨g, cap, cur, rfl, hb, hh, rest⟩
  · exact .inl h
  · exact .inr ⟨g, cap, cur, rfl, hb, (hk g rfl).trans hh, rest⟩
theorem HF.lt {w : World} {B g n : Nat} {F : Nat → Hs} {us : Nat → Value} (h : HF w B g n F us) : g < w.heap.size := by
  obtain ⟨_, ⟨cur, t, hh, _⟩, _⟩ := h
  exact (Array.getElem?_eq_some_iff.1 hh).1
theorem HF.same {w w' : World} {B g n : Nat} {F : Nat → Hs} {us : Nat → Value} (h : HF w B g n F us) (hg : w'.heap[g]? = w.heap[g]?) (hk : ∀ i b, i < n → (us i).ownBlock = some b → w'.heap[b]? = w.heap[b]?) : HF w' B g n F us := by
  obtain ⟨h0, ⟨cur, t, hh, hc⟩, ho, hd⟩ := h
  exact ⟨h0, ⟨cur, t, hg.trans hh, hc⟩, fun i hi => ⟨own_same (ho i hi).1 (fun b hb => hk i b hi hb), (ho i hi).2⟩, hd⟩
theorem HF.below {w w' : World} {B g n : Nat} {F : Nat → Hs} {us : Nat → Value} (h : HF w B g n F us) (hb : Below w.heap.size w w') : HF w' B g n F us :=
  h.same (hb.block g h.lt) fun i b hi e => hb.block b ((h.2.2.1 i hi).1.lt b e).2
theorem HF.cells {w : World} {B g n : Nat} {F : Nat → Hs} {us : Nat → Value} (h : HF w B g n F us) {i : Nat} (hi : i < n) :
    w.cell? ⟨g, i * 4, none⟩ = some (us i) ∧ w.cell? ⟨g, i * 4 + 1, none⟩ = some (.int .i64 (F i).key) ∧ w.cell? ⟨g, i * 4 + 2, none⟩ = some (.int .i64 (F i).maxN) ∧ w.cell? ⟨g, i * 4 + 3, none⟩ = some (.int .i64 (F i).maxB) := by
  obtain ⟨_, ⟨cur, t, hh, _, hc⟩, _⟩ := h
  obtain ⟨c0, c1, c2, c3⟩ := hc i hi
  simp [World.cell?, hh, c0, c1, c2, c3]
theorem HF.frozen {w : World} {B g n : Nat} {F : Nat → Hs} {us : Nat → Value} (h : HF w B g n F us) (j : Nat) : w.frozen? ⟨g, j, none⟩ = false := by
  obtain ⟨_, ⟨cur, t, hh, _⟩, _⟩ := h
  simp [World.frozen?, hh]
theorem HF.congr {w : World} {B g n : Nat} {F F' : Nat → Hs} {us : Nat → Value} (h : HF w B g n F us) (he : ∀ i, i < n → F i = F' i) : HF w B g n F' us := by
  obtain ⟨h0, ⟨cur, t, hh, hs, hc⟩, ho, hd⟩ := h
  exact ⟨h0, ⟨cur, t, hh, hs, fun i hi => by rw [← he i hi]; exact hc i hi⟩, fun i hi => by rw [← he i hi]; exact ho i hi, hd⟩

def hget (hs : List Hs) (i : Nat) : Hs := (hs[i]?).getD ⟨[], 0, 0, 0⟩
theorem hget_at {hs : List Hs} {i : Nat} {x : Hs} (h : hs[i]? = some x) : hget hs i = x := by simp [hget, h]
theorem HF.row {w : World} {B g c : Nat} {hs : List Hs} {us : Nat → Value} (h : HF w B g hs.length (hget hs) us) (h1 : hs.length ≤ c) (h2 : c ≤ maxLen) : HRow w (.slice (some ⟨g, 0, none⟩) hs.length c) hs := by
  refine ⟨_, _, rfl, h1, h2, fun j x hj => ?_⟩
  have hjl := (List.getElem?_eq_some_iff.1 hj).1
  obtain ⟨c0, c1, c2, c3⟩ := h.cells hjl
  have ho := (h.2.2.1 j hjl).1
  rw [hget_at hj] at c1 c2 c3 ho
  refine ⟨g, 0, us j, rfl, h.lt, ?_, srow_own ho, ?_, ?_, ?_⟩
  all_goals rw [Nat.zero_add]; assumption
theorem sc_own {w : World} {B g : Nat} {L : List ByteArray} (h : SC w g L.length (sget L)) (hB : B ≤ g) (hn : L.length ≤ maxLen) : w.ownsRow B 9 1 (.slice (some ⟨g, 0, none⟩) L.length L.length) L.length (L.map Value.string) := by
  obtain ⟨cur, hh, hs, hc⟩ := h
  refine ⟨by simp, .inr ⟨g, L.length, cur, rfl, hB, hh, Nat.le_refl _, hn, by omega, ?_⟩⟩
  apply List.ext_getElem?
  intro i
  by_cases hi : i < L.length
  · have := hc i hi
    rw [sget_at (List.getElem?_eq_getElem hi)] at this
    rw [List.getElem?_take, if_pos (by omega), Array.getElem?_toList, this, List.getElem?_map, List.getElem?_eq_getElem hi]
    rfl
  · rw [List.getElem?_eq_none (by simp; omega), List.getElem?_eq_none (by simp; omega)]
theorem hf_of_own {w : World} {B g : Nat} {hs : List Hs} {G : Nat → Nat} (h : HOwn w B g hs.length hs.length hs G) (hm : ∀ x ∈ hs, x.names.length ≤ 1048576) : HF w B g hs.length (hget hs) (fun i => .slice (some ⟨G i, 0, none⟩) (hget hs i).names.length (hget hs i).names.length) := by
  obtain ⟨h0, ⟨cur, t, hh, hs1, _, hc⟩, hg, hd⟩ := h
  refine ⟨h0, ⟨cur, t, hh, by omega, fun i hi => ?_⟩, fun i hi => ?_, fun i j hij hj => ?_⟩
  · have hx : hs[i]? = some hs[i] := List.getElem?_eq_getElem hi
    dsimp only
    rw [hget_at hx]
    exact hc i _ hi hx
  · have hx : hs[i]? = some hs[i] := List.getElem?_eq_getElem hi
    obtain ⟨q1, q2, q3⟩ := hg i _ hi hx
    dsimp only
    rw [hget_at hx]
    exact ⟨sc_own q3 q1 (by unfold maxLen; have := hm _ (List.getElem_mem hi); omega), fun e => q2 (by simpa [Value.ownBlock] using e)⟩
  · right
    simp only [Value.ownBlock, ne_eq, Option.some.injEq]
    exact hd i j hij hj

/-- What marking may turn: block g and the rows of the names. -/
def Frm (w w' : World) (g n : Nat) (us : Nat → Value) : Prop :=
  w'.os = w.os ∧ w'.tape = w.tape ∧ w'.output = w.output ∧ w.heap.size ≤ w'.heap.size ∧ ∀ b, b < w.heap.size → b ≠ g → (∀ i, i < n → (us i).ownBlock ≠ some b) → w'.heap[b]? = w.heap[b]?
theorem Frm.refl (w : World) (g n : Nat) (us : Nat → Value) : Frm w w g n us := ⟨rfl, rfl, rfl, Nat.le_refl _, fun _ _ _ _ => rfl⟩
theorem Frm.grown {a b c : World} {g n : Nat} {us : Nat → Value} {row : Option Nat} (h : Frm a b g n us) (k : b.grownBy c row) (hr : ∀ r, row = some r → r = g ∨ ∃ i, i < n ∧ (us i).ownBlock = some r) : Frm a c g n us := by
  obtain ⟨h1, h2, h3, h4, h5⟩ := h
  refine ⟨k.os.trans h1, k.tape.trans h2, k.output.trans h3, Nat.le_trans h4 k.size, fun x hx hg hu => (k.block x (by omega) (fun e => ?_)).trans (h5 x hx hg hu)⟩
  rcases hr x e.symm with e | ⟨i, hi, e⟩
  · exact hg e
  · exact hu i hi e

/-- The marks. -/
def mkNames (k n : Nat) : List ByteArray := (List.range n).map fun i => ⟨(markS (k + i)).toArray⟩
theorem mk_marks (k n : Nat) : (mkNames k n).map Value.string = marks k n := by
  simp [mkNames, marks, strV]
theorem mk_len (k n : Nat) : (mkNames k n).length = n := by simp [mkNames]
def mkHouse (k n : Nat) : Hs := ⟨mkNames k n, ((k + n : Nat) : Int), ((k + n + 1 : Nat) : Int), ((k + n + 2 : Nat) : Int)⟩
def kAt (k : Nat) (F : Nat → Hs) : Nat → Nat
  | 0 => k
  | j + 1 => kAt k F j + (F j).names.length + 3
def mkTo (k : Nat) (F : Nat → Hs) (j : Nat) : Nat → Hs := fun i => if i < j then mkHouse (kAt k F i) (F i).names.length else F i
end Go.Proofs.YtojmfcpkmknleaaDoor
