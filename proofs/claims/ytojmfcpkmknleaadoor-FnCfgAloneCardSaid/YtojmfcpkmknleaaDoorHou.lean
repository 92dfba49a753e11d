/- Walks: houses under the drawing: what is held of them. -/
import Derived.Test.YtojmfcpkmknleaaDoorCfgM
import Derived.Test.YtojmfcpkmknleaaDoorRegL
import Derived.Test.YtojmfcpkmknleaaDoorRegR
import Derived.Deep.AppendLies
namespace Go.Proofs.YtojmfcpkmknleaaDoor
open Go.RowKit

theorem own_drawnC {w w' : World} {B g n size : Nat} {e : TypeId} {v : Value} {xs : List Value} (h : w.ownsRow B e size v n xs) (hgB : g < B) (hg : w.grownBy w' (some g)) : w'.ownsRow B e size v n xs := by
  refine ⟨h.1, ?_⟩
  rcases h.2 with h | ⟨c, cap, cur, hv, hB, hh, rest⟩
  · exact .inl h
  · exact .inr ⟨c, cap, cur, hv, hB, (hg.block c (Array.getElem?_eq_some_iff.1 hh).1 (fun e => by injection e; omega)).trans hh, rest⟩
theorem drawn_setC {w0 w : World} {B g m b : Nat} (h : Drawn w0 w B g m) (hg : g < w0.heap.size) (hB : w0.heap.size ≤ b) (j : Nat) (x : Value) : Drawn w0 (w.setCell ⟨b, j, none⟩ x) B g m := by
  refine ⟨h.1.keep fun k hk => heap_setCell_other w ⟨b, j, none⟩ k _ (by simp; omega), ⟨h.2.os, h.2.tape, h.2.output, by simpa using h.2.size, fun k hk hne => ?_⟩⟩
  exact (heap_setCell_other w ⟨b, j, none⟩ k _ (by simp; omega)).trans (h.2.block k hk hne)
theorem drawn_grownC {w0 w w' : World} {B g m : Nat} {row : Option Nat} (h : Drawn w0 w B g m) (hg : w.grownBy w' row) (hlt : g < w0.heap.size) (hrow : ∀ r, row = some r → w0.heap.size ≤ r) : Drawn w0 w' B g m := by
  have hne : ∀ k, k < w0.heap.size → some k ≠ row := fun k hk e => by have := hrow k e.symm; omega
  refine ⟨h.1.keep fun k hk => hg.block k (by have := h.1.lt; omega) (hne k (by omega)), ⟨hg.os.trans h.2.os, hg.tape.trans h.2.tape, hg.output.trans h.2.output, Nat.le_trans h.2.size hg.size, fun k hk hn => ?_⟩⟩
  exact (hg.block k (Nat.lt_of_lt_of_le hk h.2.size) (hne k hk)).trans (h.2.block k hk hn)
theorem odd_anyC (g : Nat) (q : Int) (B m : Nat) (w : World) (hm : m ≤ 1000000) (hq : q ≤ 1000000) (h : RdAt w B g m) :
    Calls Tryd.prog 43 #[.pointer (some ⟨g, 0, none⟩), .int .i64 q] w fun e w' => ∃ b : Bool, e = .returned (.bool b) ∧ Drawn w w' B g (m + 1) := by
  go_enter Tryd.func43, Tryd.ntmps43
  go_wp2_with fail
  refine (pick_any g q B m _ hm hq h).mono ?_
  rintro e w1 ⟨r, rfl, hr, hd⟩
  go_wp2
  go_ret
  exact ⟨_, rfl, hd⟩
/-- A block of another type is another block. -/
theorem other_block {w : World} {b c : Nat} {cs ds : Array Value} {S T : TypeId} {fr gr : Nat × Nat} (h : w.heap[b]? = some (.cells cs S fr)) (k : w.heap[c]? = some (.cells ds T gr)) (hne : S ≠ T) : b ≠ c := fun e => by
  subst e; rw [h] at k; cases k; exact hne rfl
theorem own_type {w : World} {B size n : Nat} {e : TypeId} {v : Value} {xs : List Value} (h : w.ownsRow B e size v n xs) {r : Nat} (hr : v.ownBlock = some r) : B ≤ r ∧ ∃ cs, w.heap[r]? = some (.cells cs e (0, 0)) := by
  rcases h.2 with ⟨rfl, _⟩ | ⟨c, cap, cur, rfl, hB, hh, rest⟩
  · cases hr
  · have : c = r := by simpa [Value.ownBlock] using hr
    subst this; exact ⟨hB, _, hh⟩
theorem own_setC {w : World} {B size n : Nat} {e : TypeId} {v : Value} {xs : List Value} (h : w.ownsRow B e size v n xs) {b k : Nat} (hb : v.ownBlock ≠ some b) (x : Value) : (w.setCell ⟨b, k, none⟩ x).ownsRow B e size v n xs := by
  refine ⟨h.1, ?_⟩
  rcases h.2 with h | ⟨c, cap, cur, rfl, hB, hh, rest⟩
  · exact .inl h
  · exact .inr ⟨c, cap, cur, rfl, hB, (heap_setCell_other w ⟨b, k, none⟩ c _ (fun e => hb (by simpa [Value.ownBlock] using e))).trans hh, rest⟩

/-- Texts in a block of texts that is none of the reader's. -/
def NOwn (g : Nat) (w : World) (u : Value) (ns : List ByteArray) : Prop :=
  ∃ (b c : Nat) (cs : Array Value), u = .slice (some ⟨b, 0, none⟩) ns.length c ∧ ns.length ≤ c ∧ c ≤ maxLen ∧ b ≠ g ∧ w.heap[b]? = some (.cells cs 9 (0, 0)) ∧ ∀ (j : Nat) (s : ByteArray), ns[j]? = some s → cs[j]? = some (Value.string s)
theorem NOwn.keep {g : Nat} {w w' : World} {u : Value} {ns : List ByteArray} (h : NOwn g w u ns) (hg : w.grownBy w' (some g)) : NOwn g w' u ns := by
  obtain ⟨b, c, cs, rfl, h1, h2, h3, h4, h5⟩ := h
  exact ⟨b, c, cs, rfl, h1, h2, h3, block_keep h3 h4 hg, h5⟩
theorem NOwn.grow {g : Nat} {w w' : World} {u : Value} {ns : List ByteArray} (h : NOwn g w u ns) {row : Option Nat} (hg : w.grownBy w' row) (hr : ∀ r, row = some r → ∃ cs T fr, w.heap[r]? = some (.cells cs T fr) ∧ T ≠ 9) : NOwn g w' u ns := by
  obtain ⟨b, c, cs, rfl, h1, h2, h3, h4, h5⟩ := h
  refine ⟨b, c, cs, rfl, h1, h2, h3, (hg.block b (Array.getElem?_eq_some_iff.1 h4).1 (fun e => ?_)).trans h4, h5⟩
  obtain ⟨ds, T, fr, k1, k2⟩ := hr b e.symm
  exact other_block h4 k1 (Ne.symm k2) rfl
theorem NOwn.set {g : Nat} {w : World} {u : Value} {ns : List ByteArray} (h : NOwn g w u ns) {b : Nat} {ds : Array Value} {T : TypeId} {fr : Nat × Nat} (hb : w.heap[b]? = some (.cells ds T fr)) (hT : T ≠ 9) (j : Nat) (x : Value) : NOwn g (w.setCell ⟨b, j, none⟩ x) u ns := by
  obtain ⟨c, k, cs, rfl, h1, h2, h3, h4, h5⟩ := h
  exact ⟨c, k, cs, rfl, h1, h2, h3, (heap_setCell_other w ⟨b, j, none⟩ c _ (other_block h4 hb (Ne.symm hT))).trans h4, h5⟩
theorem NOwn.form {g : Nat} {w : World} {u : Value} {ns : List ByteArray} (h : NOwn g w u ns) : ∃ b c, u = .slice (some ⟨b, 0, none⟩) ns.length c ∧ ns.length ≤ c ∧ c ≤ maxLen ∧ b ≠ g ∧ b < w.heap.size ∧ ∀ j s, ns[j]? = some s → w.cell? ⟨b, j, none⟩ = some (.string s) := by
  obtain ⟨b, c, cs, rfl, h1, h2, h3, h4, h5⟩ := h
  exact ⟨b, c, rfl, h1, h2, h3, (Array.getElem?_eq_some_iff.1 h4).1, fun j s hj => by rw [cell_of_row w b j cs _ (0, 0) h4]; exact h5 j s hj⟩
theorem NOwn.srow {g : Nat} {w : World} {u : Value} {ns : List ByteArray} (h : NOwn g w u ns) : SRow w u ns := by
  obtain ⟨b, c, rfl, h1, h2, _, h4, h5⟩ := h.form
  exact ⟨_, c, rfl, h1, h2, fun j s hj => ⟨b, 0, rfl, h4, by rw [Nat.zero_add]; exact h5 j s hj⟩⟩

/-- Houses in memory that is none of the reader's. -/
def HRowA (g : Nat) (w : World) (v : Value) (hs : List Hs) : Prop :=
  ∃ a c, v = .slice a hs.length c ∧ hs.length ≤ c ∧ c ≤ maxLen ∧ ∀ (j : Nat) (h : Hs), hs[j]? = some h → ∃ (b : Nat) (u : Value) (cs : Array Value), a = some ⟨b, 0, none⟩ ∧ b ≠ g ∧ w.heap[b]? = some (.cells cs 33 (0, 0)) ∧ cs[j * 4]? = some u ∧ NOwn g w u h.names ∧
    cs[j * 4 + 1]? = some (Value.int .i64 h.key) ∧ cs[j * 4 + 2]? = some (Value.int .i64 h.maxN) ∧ cs[j * 4 + 3]? = some (Value.int .i64 h.maxB)
theorem HRowA.keep {g : Nat} {w w' : World} {v : Value} {hs : List Hs} (h : HRowA g w v hs) (hg : w.grownBy w' (some g)) : HRowA g w' v hs := by
  obtain ⟨a, c, rfl, h1, h2, h3⟩ := h
  refine ⟨a, c, rfl, h1, h2, fun j x hj => ?_⟩
  obtain ⟨b, u, cs, k1, k2, k3, k4, k5, k6⟩ := h3 j x hj
  exact ⟨b, u, cs, k1, k2, block_keep k2 k3 hg, k4, k5.keep hg, k6⟩
theorem HRowA.row {g : Nat} {w : World} {v : Value} {hs : List Hs} (h : HRowA g w v hs) : HRow w v hs := by
  obtain ⟨a, c, rfl, h1, h2, h3⟩ := h
  refine ⟨a, c, rfl, h1, h2, fun j x hj => ?_⟩
  obtain ⟨b, u, cs, k1, k2, k3, k4, k5, k6, k7, k8⟩ := h3 j x hj
  refine ⟨b, 0, u, k1, (Array.getElem?_eq_some_iff.1 k3).1, ?_, k5.srow, ?_, ?_, ?_⟩
  all_goals rw [cell_of_row w b _ cs _ (0, 0) k3]
  · rw [Nat.zero_add]; exact k4
  · rw [show 0 + j * 4 + 1 = j * 4 + 1 from by omega]; exact k6
  · rw [show 0 + j * 4 + 2 = j * 4 + 2 from by omega]; exact k7
  · rw [show 0 + j * 4 + 3 = j * 4 + 3 from by omega]; exact k8

/-- A house's cells. -/
def icell (p : Value × Hs) : List Value := [p.1, .int .i64 p.2.key, .int .i64 p.2.maxN, .int .i64 p.2.maxB]
def icells (its : List (Value × Hs)) : List Value := its.flatMap icell
theorem icells_app (a : List (Value × Hs)) (p : Value × Hs) : icells (a ++ [p]) = icells a ++ icell p := by simp [icells]
theorem icells_len : ∀ its : List (Value × Hs), (icells its).length = its.length * 4
  | [] => rfl
  | p :: l => by
    have := icells_len l
    unfold icells at this ⊢
    rw [List.flatMap_cons, List.length_append, this]; simp [icell]; omega
theorem icells_at : ∀ {its : List (Value × Hs)} {j : Nat} {p : Value × Hs} (k : Nat), its[j]? = some p → k < 4 → (icells its)[j * 4 + k]? = (icell p)[k]?
  | q :: l, 0, p, k, h, hk => by
    have : q = p := by simpa using h
    subst this
    unfold icells
    rw [List.flatMap_cons, List.getElem?_append_left (by simp [icell]; omega)]; simp
  | q :: l, j + 1, p, k, h, hk => by
    have ih := icells_at (its := l) (j := j) (p := p) k (by simpa using h) hk
    unfold icells at ih ⊢
    rw [List.flatMap_cons, List.getElem?_append_right (by simp [icell]; omega), ← ih]
    congr 1; simp [icell]; omega
def HSm (h : Hs) : Prop := NOk h.names 40 ∧ 1 ≤ h.names.length ∧ h.names.length ≤ 2

/-- The box b holds the houses its, whose cells lie in the row v, and the reader has gone on. -/
structure CIn (w0 W : World) (B g m b : Nat) (its : List (Value × Hs)) (v : Value) : Prop where
  box : W.heap[b]? = some (.cells #[v] 25 (0, 0))
  own : W.ownsRow w0.heap.size 33 4 v its.length (icells its)
  nms : ∀ p ∈ its, NOwn g W p.1 p.2.names
  ok : ∀ p ∈ its, HSm p.2
  drawn : Drawn w0 W B g m
  gb : g < w0.heap.size
  wb : w0.heap.size ≤ b
theorem CIn.keep {w0 W W' : World} {B g m m' b : Nat} {its : List (Value × Hs)} {v : Value} (h : CIn w0 W B g m b its v) (hd : Drawn W W' B g m') : CIn w0 W' B g m' b its v :=
  ⟨block_keep (by have := h.gb; have := h.wb; omega) h.box hd.2, own_drawnC h.own h.gb hd.2, fun p hp => (h.nms p hp).keep hd.2, h.ok, h.drawn.trans hd, h.gb, h.wb⟩
theorem CIn.mono {w0 W : World} {B g m m' b : Nat} {its : List (Value × Hs)} {v : Value} (h : CIn w0 W B g m b its v) (hm : m ≤ m') : CIn w0 W B g m' b its v :=
  ⟨h.box, h.own, h.nms, h.ok, h.drawn.mono hm, h.gb, h.wb⟩
theorem CIn.alloc {w0 W : World} {B g m b : Nat} {its : List (Value × Hs)} {v : Value} (h : CIn w0 W B g m b its v) (o : Obj) : CIn w0 (W.alloc o) B g m b its v := h.keep ((Drawn.refl h.drawn.1).alloc o)
theorem CIn.lt {w0 W : World} {B g m b : Nat} {its : List (Value × Hs)} {v : Value} (h : CIn w0 W B g m b its v) : b < W.heap.size := (Array.getElem?_eq_some_iff.1 h.box).1
theorem CIn.ne {w0 W : World} {B g m b : Nat} {its : List (Value × Hs)} {v : Value} (h : CIn w0 W B g m b its v) : v.ownBlock ≠ some b := fun e => by
  obtain ⟨_, cs, hc⟩ := own_type h.own e
  exact other_block hc h.box (by decide) rfl
/-- What stands behind an append to the row. -/
theorem CIn.grown {w0 W W' : World} {B g m b : Nat} {its : List (Value × Hs)} {v : Value} (h : CIn w0 W B g m b its v) (hg : W.grownBy W' v.ownBlock) :
    W'.heap[b]? = some (.cells #[v] 25 (0, 0)) ∧ (∀ u ns, NOwn g W u ns → NOwn g W' u ns) ∧ Drawn w0 W' B g m := by
  refine ⟨(hg.block b h.lt (fun e => h.ne e.symm)).trans h.box, fun u ns hn => hn.grow hg fun r hr => ?_, drawn_grownC h.drawn hg h.gb fun r hr => (own_type h.own hr).1⟩
  obtain ⟨_, cs, hc⟩ := own_type h.own hr
  exact ⟨cs, _, _, hc, by decide⟩
/-- A house more: the row has grown in W', and the box is told. -/
theorem CIn.setRow {w0 W W' : World} {B g m b : Nat} {its : List (Value × Hs)} {v v' : Value} (h : CIn w0 W B g m b its v) (p : Value × Hs) (hp : HSm p.2) (hn : NOwn g W' p.1 p.2.names)
    (hg : W.grownBy W' v.ownBlock) (ho : W'.ownsRow w0.heap.size 33 4 v' (its.length + 1) (icells its ++ icell p)) :
    W'.cell? ⟨b, 0, none⟩ = some v ∧ W'.frozen? ⟨b, 0, none⟩ = false ∧ CIn w0 (W'.setCell ⟨b, 0, none⟩ v') B g m b (its ++ [p]) v' := by
  obtain ⟨hb, hk, hd⟩ := h.grown hg
  refine ⟨by simp [World.cell?, hb], by simp [World.frozen?, hb], heap_setCell_same W' b 0 _ _ v' hb, ?_, ?_, ?_, drawn_setC hd h.gb h.wb 0 _, h.gb, h.wb⟩
  · rw [icells_app, List.length_append]
    refine own_setC ho (fun e => ?_) _
    obtain ⟨_, cs, hc⟩ := own_type ho e
    exact other_block hc hb (by decide) rfl
  · intro q hq
    refine NOwn.set ?_ hb (by decide) 0 _
    rcases List.mem_append.1 hq with hq | hq
    · exact hk _ _ (h.nms q hq)
    · have : q = p := by simpa using hq
      subst this; exact hn
  · intro q hq
    rcases List.mem_append.1 hq with hq | hq
    · exact h.ok q hq
    · have : q = p := by simpa using hq
      subst this; exact hp
theorem CIn.row {w0 W : World} {B g m b : Nat} {its : List (Value × Hs)} {v : Value} (h : CIn w0 W B g m b its v) : HRowA g W v (its.map (·.2)) := by
  rcases h.own.2 with ⟨rfl, h0⟩ | ⟨c, cap, cur, rfl, hB, hh, h1, h2, h3, h4⟩
  · have : its = [] := List.length_eq_zero_iff.1 h0
    subst this
    exact ⟨none, 0, rfl, Nat.le_refl _, Nat.zero_le _, fun j x hj => by simp at hj⟩
  · refine ⟨_, cap, by rw [List.length_map], by rw [List.length_map]; exact h1, h2, fun j x hj => ?_⟩
    rw [List.getElem?_map] at hj
    obtain ⟨p, hp, rfl⟩ := Option.map_eq_some_iff.1 hj
    have hjl := (List.getElem?_eq_some_iff.1 hp).1
    have hat : ∀ k, k < 4 → cur[j * 4 + k]? = (icell p)[k]? := fun k hk => by
      rw [← icells_at k hp hk, ← h4, List.getElem?_take, if_pos (by omega), Array.getElem?_toList]
    have hgb := h.gb
    exact ⟨c, p.1, cur, rfl, by omega, hh, hat 0 (by omega), h.nms p (List.mem_of_getElem? hp), hat 1 (by omega), hat 2 (by omega), hat 3 (by omega)⟩
end Go.Proofs.YtojmfcpkmknleaaDoor
