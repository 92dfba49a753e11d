import Derived.Test.YtncegikmpapldaaGreatDoorGCfa
import Derived.Test.YtncegikmpapldaaGreatDoorRegL
import Derived.Test.YtncegikmpapldaaGreatDoorRegR
import Derived.Deep.AppendLies
import Derived.Deep.DeepCutAuto
import Derived.Test.YtncegikmpapldaaGreatDoorReg
import Derived.Test.YtncegikmpapldaaGreatDoorNum
import Derived.Deep.CutBlock
import Derived.Deep.RegionHeld3
import Derived.Test.YtncegikmpapldaaGreatDoorGdOk
-- from XHou
/- Walks: houses under the drawing: what is held of them. -/
namespace Go.Proofs.YtncegikmpapldaaGreatDoor
open Go.RowKit

theorem own_drawnC {w w' : World} {B g n size : Nat} {e : TypeId} {v : Value} {xs : List Value} (h : w.ownsRow B e size v n xs) (hgB : g < B) (hg : w.grownBy w' (some g)) : w'.ownsRow B e size v n xs := by
  refine ⟨h.1, ?_⟩
  rcases h.2 with h | ⟨c, cap, cur, hv, hB, hh, rest⟩
  · exact .inl h
  · exact .inr ⟨c, cap, cur, hv, hB, (hg.block c (Array.getElem?_eq_some_iff.1 hh).1 (fun e => by injection e; omega)).trans hh, rest⟩
theorem drawn_setC {w0 w : World} {B g m b : Nat} (h : Drawn w0 w B g m) (hg : g < w0.heap.size) (hB : w0.heap.size ≤ b) (j : Nat) (x : Value) : Drawn w0 (w.setCell ⟨b, j, none⟩ x) B g m := by
  refine ⟨h.1.keep fun k hk => heap_setCell_other w ⟨b, j, none⟩ k _ (by simp; omega), ⟨h.2.os, h.2.tape, h.2.output, by simpa using h.2.size, fun k hk hne => ?_⟩⟩
  exact (heap_setCell_other w ⟨b, j, none⟩ k _ (by simp; omega)).trans (h.2.block k hk hne)
theorem drawn_grownC {w0 w w' : World} {B g m : Nat} {row : Option Nat} (h : Drawn w0 w B g m) (hg : w.grownBy w' row) (hlt : g < w0.heap.size) (hrow : ∀ r, row = some r → w0.heap.size ≤ r) : Drawn w0 w' B g m := by
  have hne : ∀ k, k < w0.heap.size → some k ≠ row := fun k hk e => by have := hrow k e.symm; omega
  refine ⟨h.1.keep fun k hk => hg.block k (by have := h.1.lt; omega) (hne k (by omega)), ⟨hg.os.trans h.2.os, hg.tape.trans h.2.tape, hg.output.trans h.2.output, Nat.le_trans h.2.size hg.size, fun k hk hn => ?_⟩⟩
  exact (hg.block k (Nat.lt_of_lt_of_le hk h.2.size) (hne k hk)).trans (h.2.block k hk hn)
theorem odd_anyC (g : Nat) (q : Int) (B m : Nat) (w : World) (hm : m ≤ 1000000) (hq : q ≤ 1000000) (h : RdAt w B g m) :
    Calls Tryz.prog 78 #[.pointer (some ⟨g, 0, none⟩), .int .i64 q] w fun e w' => ∃ b : Bool, e = .returned (.bool b) ∧ Drawn w w' B g (m + 1) := by
  go_enter Tryz.func78, Tryz.ntmps78
  go_wp2_with fail
  refine (pick_any g q B m _ hm hq h).mono ?_
  rintro e w1 ⟨r, rfl, hr, hd⟩
  go_wp2
  go_ret
  exact ⟨_, rfl, hd⟩
/-- A block of another type is another block. -/
theorem other_block {w : World} {b c : Nat} {cs ds : Array Value} {S T : TypeId} {fr gr : Nat × Nat} (h : w.heap[b]? = some (.cells cs S fr)) (k : w.heap[c]? = some (.cells ds T gr)) (hne : S ≠ T) : b ≠ c := fun e => by
  subst e; rw [h] at k; cases k; exact hne rfl
theorem own_type {w : World} {B size n : Nat} {e : TypeId} {v : Value} {xs : List Value} (h : w.ownsRow B e size v n xs) {r : Nat} (hr : v.ownBlock = some r) : B ≤ r ∧ ∃ cs, w.heap[r]? = some (.cells cs e (0, 0)) := by
  rcases h.2 with ⟨rfl, _⟩ | ⟨c, cap, cur, rfl, hB, hh, rest⟩
  · cases hr
  · have : c = r := by simpa [Value.ownBlock] using hr
    subst this; exact ⟨hB, _, hh⟩
theorem own_setC {w : World} {B size n : Nat} {e : TypeId} {v : Value} {xs : List Value} (h : w.ownsRow B e size v n xs) {b k : Nat} (hb : v.ownBlock ≠ some b) (x : Value) : (w.setCell ⟨b, k, none⟩ x).ownsRow B e size v n xs := by
  refine ⟨h.1, ?_⟩
  rcases h.2 with h | ⟨c, cap, cur, rfl, hB, hh, rest⟩
  · exact .inl h
  · exact .inr ⟨c, cap, cur, rfl, hB, (heap_setCell_other w ⟨b, k, none⟩ c _ (fun e => hb (by simpa [Value.ownBlock] using e))).trans hh, rest⟩

/-- Texts in a block of texts that is none of the reader's. -/
def NOwn (g : Nat) (w : World) (u : Value) (ns : List ByteArray) : Prop :=
  ∃ (b c : Nat) (cs : Array Value), u = .slice (some ⟨b, 0, none⟩) ns.length c ∧ ns.length ≤ c ∧ c ≤ maxLen ∧ b ≠ g ∧ w.heap[b]? = some (.cells cs 9 (0, 0)) ∧ ∀ (j : Nat) (s : ByteArray), ns[j]? = some s → cs[j]? = some (Value.string s)
theorem NOwn.keep {g : Nat} {w w' : World} {u : Value} {ns : List ByteArray} (h : NOwn g w u ns) (hg : w.grownBy w' (some g)) : NOwn g w' u ns := by
  obtain ⟨b, c, cs, rfl, h1, h2, h3, h4, h5⟩ := h
  exact ⟨b, c, cs, rfl, h1, h2, h3, block_keep h3 h4 hg, h5⟩
theorem NOwn.grow {g : Nat} {w w' : World} {u : Value} {ns : List ByteArray} (h : NOwn g w u ns) {row : Option Nat} (hg : w.grownBy w' row) (hr : ∀ r, row = some r → ∃ cs T fr, w.heap[r]? = some (.cells cs T fr) ∧ T ≠ 9) : NOwn g w' u ns := by
  obtain ⟨b, c, cs, rfl, h1, h2, h3, h4, h5⟩ := h
  refine ⟨b, c, cs, rfl, h1, h2, h3, (hg.block b (Array.getElem?_eq_some_iff.1 h4).1 (fun e => ?_)).trans h4, h5⟩
  obtain ⟨ds, T, fr, k1, k2⟩ := hr b e.symm
  exact other_block h4 k1 (Ne.symm k2) rfl
theorem NOwn.set {g : Nat} {w : World} {u : Value} {ns : List ByteArray} (h : NOwn g w u ns) {b : Nat} {ds : Array Value} {T : TypeId} {fr : Nat × Nat} (hb : w.heap[b]? = some (.cells ds T fr)) (hT : T ≠ 9) (j : Nat) (x : Value) : NOwn g (w.setCell ⟨b, j, none⟩ x) u ns := by
  obtain ⟨c, k, cs, rfl, h1, h2, h3, h4, h5⟩ := h
  exact ⟨c, k, cs, rfl, h1, h2, h3, (heap_setCell_other w ⟨b, j, none⟩ c _ (other_block h4 hb (Ne.symm hT))).trans h4, h5⟩
theorem NOwn.form {g : Nat} {w : World} {u : Value} {ns : List ByteArray} (h : NOwn g w u ns) : ∃ b c, u = .slice (some ⟨b, 0, none⟩) ns.length c ∧ ns.length ≤ c ∧ c ≤ maxLen ∧ b ≠ g ∧ b < w.heap.size ∧ ∀ j s, ns[j]? = some s → w.cell? ⟨b, j, none⟩ = some (.string s) := by
  obtain ⟨b, c, cs, rfl, h1, h2, h3, h4, h5⟩ := h
  exact ⟨b, c, rfl, h1, h2, h3, (Array.getElem?_eq_some_iff.1 h4).1, fun j s hj => by rw [cell_of_row w b j cs _ (0, 0) h4]; exact h5 j s hj⟩
theorem NOwn.nrow {g : Nat} {w : World} {u : Value} {ns : List ByteArray} (h : NOwn g w u ns) : NRow w u ns := by
  obtain ⟨b, c, rfl, h1, h2, _, h4, h5⟩ := h.form
  exact ⟨_, c, rfl, h1, h2, fun j s hj => ⟨b, 0, rfl, h4, by rw [Nat.zero_add]; exact h5 j s hj⟩⟩

/-- Houses in memory that is none of the reader's. -/
def HRowA (g : Nat) (w : World) (v : Value) (hs : List Hs) : Prop :=
  ∃ a c, v = .slice a hs.length c ∧ hs.length ≤ c ∧ c ≤ maxLen ∧ ∀ (j : Nat) (h : Hs), hs[j]? = some h → ∃ (b : Nat) (u : Value) (cs : Array Value), a = some ⟨b, 0, none⟩ ∧ b ≠ g ∧ w.heap[b]? = some (.cells cs 48 (0, 0)) ∧ cs[j * 4]? = some u ∧ NOwn g w u h.names ∧
    cs[j * 4 + 1]? = some (Value.int .i64 h.key) ∧ cs[j * 4 + 2]? = some (Value.int .i64 h.maxN) ∧ cs[j * 4 + 3]? = some (Value.int .i64 h.maxB)
theorem HRowA.keep {g : Nat} {w w' : World} {v : Value} {hs : List Hs} (h : HRowA g w v hs) (hg : w.grownBy w' (some g)) : HRowA g w' v hs := by
  obtain ⟨a, c, rfl, h1, h2, h3⟩ := h
  refine ⟨a, c, rfl, h1, h2, fun j x hj => ?_⟩
  obtain ⟨b, u, cs, k1, k2, k3, k4, k5, k6⟩ := h3 j x hj
  exact ⟨b, u, cs, k1, k2, block_keep k2 k3 hg, k4, k5.keep hg, k6⟩
theorem HRowA.row {g : Nat} {w : World} {v : Value} {hs : List Hs} (h : HRowA g w v hs) : HRow w v hs := by
  obtain ⟨a, c, rfl, h1, h2, h3⟩ := h
  refine ⟨a, c, rfl, h1, h2, fun j x hj => ?_⟩
  obtain ⟨b, u, cs, k1, k2, k3, k4, k5, k6, k7, k8⟩ := h3 j x hj
  refine ⟨b, 0, u, k1, (Array.getElem?_eq_some_iff.1 k3).1, ?_, k5.nrow, ?_, ?_, ?_⟩
  all_goals rw [cell_of_row w b _ cs _ (0, 0) k3]
  · rw [Nat.zero_add]; exact k4
  · rw [show 0 + j * 4 + 1 = j * 4 + 1 from by omega]; exact k6
  · rw [show 0 + j * 4 + 2 = j * 4 + 2 from by omega]; exact k7
  · rw [show 0 + j * 4 + 3 = j * 4 + 3 from by omega]; exact k8

/-- A house's cells. -/
def icell (p : Value × Hs) : List Value := [p.1, .int .i64 p.2.key, .int .i64 p.2.maxN, .int .i64 p.2.maxB]
def icells (its : List (Value × Hs)) : List Value := its.flatMap icell
theorem icells_app (a : List (Value × Hs)) (p : Value × Hs) : icells (a ++ [p]) = icells a ++ icell p := by simp [icells]
theorem icells_len : ∀ its : List (Value × Hs), (icells its).length = its.length * 4
  | [] => rfl
  | p :: l => by
    have := icells_len l
    unfold icells at this ⊢
    rw [List.flatMap_cons, List.length_append, this]; simp [icell]; omega
theorem icells_at : ∀ {its : List (Value × Hs)} {j : Nat} {p : Value × Hs} (k : Nat), its[j]? = some p → k < 4 → (icells its)[j * 4 + k]? = (icell p)[k]?
  | q :: l, 0, p, k, h, hk => by
    have : q = p := by simpa using h
    subst this
    unfold icells
    rw [List.flatMap_cons, List.getElem?_append_left (by simp [icell]; omega)]; simp
  | q :: l, j + 1, p, k, h, hk => by
    have ih := icells_at (its := l) (j := j) (p := p) k (by simpa using h) hk
    unfold icells at ih ⊢
    rw [List.flatMap_cons, List.getElem?_append_right (by simp [icell]; omega), ← ih]
    congr 1; simp [icell]; omega
def HSm (h : Hs) : Prop := NOk h.names 40 ∧ 1 ≤ h.names.length ∧ h.names.length ≤ 2

/-- The box b holds the houses its, whose cells lie in the row v, and the reader has gone on. -/
structure CIn (w0 W : World) (B g m b : Nat) (its : List (Value × Hs)) (v : Value) : Prop where
  box : W.heap[b]? = some (.cells #[v] 25 (0, 0))
  own : W.ownsRow w0.heap.size 48 4 v its.length (icells its)
  nms : ∀ p ∈ its, NOwn g W p.1 p.2.names
  ok : ∀ p ∈ its, HSm p.2
  drawn : Drawn w0 W B g m
  gb : g < w0.heap.size
  wb : w0.heap.size ≤ b
theorem CIn.keep {w0 W W' : World} {B g m m' b : Nat} {its : List (Value × Hs)} {v : Value} (h : CIn w0 W B g m b its v) (hd : Drawn W W' B g m') : CIn w0 W' B g m' b its v :=
  ⟨block_keep (by have := h.gb; have := h.wb; omega) h.box hd.2, own_drawnC h.own h.gb hd.2, fun p hp => (h.nms p hp).keep hd.2, h.ok, h.drawn.trans hd, h.gb, h.wb⟩
theorem CIn.mono {w0 W : World} {B g m m' b : Nat} {its : List (Value × Hs)} {v : Value} (h : CIn w0 W B g m b its v) (hm : m ≤ m') : CIn w0 W B g m' b its v :=
  ⟨h.box, h.own, h.nms, h.ok, h.drawn.mono hm, h.gb, h.wb⟩
theorem CIn.alloc {w0 W : World} {B g m b : Nat} {its : List (Value × Hs)} {v : Value} (h : CIn w0 W B g m b its v) (o : Obj) : CIn w0 (W.alloc o) B g m b its v := h.keep ((Drawn.refl h.drawn.1).alloc o)
theorem CIn.lt {w0 W : World} {B g m b : Nat} {its : List (Value × Hs)} {v : Value} (h : CIn w0 W B g m b its v) : b < W.heap.size := (Array.getElem?_eq_some_iff.1 h.box).1
theorem CIn.ne {w0 W : World} {B g m b : Nat} {its : List (Value × Hs)} {v : Value} (h : CIn w0 W B g m b its v) : v.ownBlock ≠ some b := fun e => by
  obtain ⟨_, cs, hc⟩ := own_type h.own e
  exact other_block hc h.box (by decide) rfl
/-- What stands behind an append to the row. -/
theorem CIn.grown {w0 W W' : World} {B g m b : Nat} {its : List (Value × Hs)} {v : Value} (h : CIn w0 W B g m b its v) (hg : W.grownBy W' v.ownBlock) :
    W'.heap[b]? = some (.cells #[v] 25 (0, 0)) ∧ (∀ u ns, NOwn g W u ns → NOwn g W' u ns) ∧ Drawn w0 W' B g m := by
  refine ⟨(hg.block b h.lt (fun e => h.ne e.symm)).trans h.box, fun u ns hn => hn.grow hg fun r hr => ?_, drawn_grownC h.drawn hg h.gb fun r hr => (own_type h.own hr).1⟩
  obtain ⟨_, cs, hc⟩ := own_type h.own hr
  exact ⟨cs, _, _, hc, by decide⟩
/-- A house more: the row has grown in W', and the box is told. -/
theorem CIn.setRow {w0 W W' : World} {B g m b : Nat} {its : List (Value × Hs)} {v v' : Value} (h : CIn w0 W B g m b its v) (p : Value × Hs) (hp : HSm p.2) (hn : NOwn g W' p.1 p.2.names)
    (hg : W.grownBy W' v.ownBlock) (ho : W'.ownsRow w0.heap.size 48 4 v' (its.length + 1) (icells its ++ icell p)) :
    W'.cell? ⟨b, 0, none⟩ = some v ∧ W'.frozen? ⟨b, 0, none⟩ = false ∧ CIn w0 (W'.setCell ⟨b, 0, none⟩ v') B g m b (its ++ [p]) v' := by
  obtain ⟨hb, hk, hd⟩ := h.grown hg
  refine ⟨by simp [World.cell?, hb], by simp [World.frozen?, hb], heap_setCell_same W' b 0 _ _ v' hb, ?_, ?_, ?_, drawn_setC hd h.gb h.wb 0 _, h.gb, h.wb⟩
  · rw [icells_app, List.length_append]
    refine own_setC ho (fun e => ?_) _
    obtain ⟨_, cs, hc⟩ := own_type ho e
    exact other_block hc hb (by decide) rfl
  · intro q hq
    refine NOwn.set ?_ hb (by decide) 0 _
    rcases List.mem_append.1 hq with hq | hq
    · exact hk _ _ (h.nms q hq)
    · have : q = p := by simpa using hq
      subst this; exact hn
  · intro q hq
    rcases List.mem_append.1 hq with hq | hq
    · exact h.ok q hq
    · have : q = p := by simpa using hq
      subst this; exact hp
theorem CIn.row {w0 W : World} {B g m b : Nat} {its : List (Value × Hs)} {v : Value} (h : CIn w0 W B g m b its v) : HRowA g W v (its.map (·.2)) := by
  rcases h.own.2 with ⟨rfl, h0⟩ | ⟨c, cap, cur, rfl, hB, hh, h1, h2, h3, h4⟩
  · have : its = [] := List.length_eq_zero_iff.1 h0
    subst this
    exact ⟨none, 0, rfl, Nat.le_refl _, Nat.zero_le _, fun j x hj => by simp at hj⟩
  · refine ⟨_, cap, by rw [List.length_map], by rw [List.length_map]; exact h1, h2, fun j x hj => ?_⟩
    rw [List.getElem?_map] at hj
    obtain ⟨p, hp, rfl⟩ := Option.map_eq_some_iff.1 hj
    have hjl := (List.getElem?_eq_some_iff.1 hp).1
    have hat : ∀ k, k < 4 → cur[j * 4 + k]? = (icell p)[k]? := fun k hk => by
      rw [← icells_at k hp hk, ← h4, List.getElem?_take, if_pos (by omega), Array.getElem?_toList]
    have hgb := h.gb
    exact ⟨c, p.1, cur, rfl, by omega, hh, hat 0 (by omega), h.nms p (List.mem_of_getElem? hp), hat 1 (by omega), hat 2 (by omega), hat 3 (by omega)⟩
end Go.Proofs.YtncegikmpapldaaGreatDoor

-- from XHouR
/- What the operations of a region that adds a house leave for one another. -/
namespace Go.Proofs.YtncegikmpapldaaGreatDoor
open Go.RowKit

theorem one_factC {w' : World} {g : Nat} {x0 : Value} {T : TypeId} (h : w'.heap[g]? = some (.cells #[x0] T (0, 0))) : w'.cell? ⟨g, 0, none⟩ = some x0 ∧ w'.frozen? ⟨g, 0, none⟩ = false :=
  ⟨by simp [World.cell?, h], by simp [World.frozen?, h]⟩
def RLitC (B0 n : Nat) (cs : Array Value) (T : TypeId) : Value → World → Prop := fun v w => ∃ b, v = .slice (some ⟨b, 0, none⟩) n n ∧ B0 ≤ b ∧ w.heap[b]? = some (.cells cs T (0, 0))
def RInt : Value → World → Prop := fun v _ => ∃ x : Int, v = .int .i64 x
def RCellI (B0 : Nat) : Value → World → Prop := fun v w => ∃ (b r : Nat) (x : Int), v = .pointer (some ⟨b, r, none⟩) ∧ B0 ≤ b ∧ w.cell? ⟨b, r, none⟩ = some (.int .i64 x)
def NF (B0 : Nat) (w : World) (u : Value) (ns : List ByteArray) : Prop :=
  ∃ (b c : Nat) (cs : Array Value), u = .slice (some ⟨b, 0, none⟩) ns.length c ∧ ns.length ≤ c ∧ c ≤ maxLen ∧ B0 ≤ b ∧ w.heap[b]? = some (.cells cs 9 (0, 0)) ∧ ∀ (j : Nat) (s : ByteArray), ns[j]? = some s → cs[j]? = some (Value.string s)
theorem NF.own {B0 g : Nat} {w : World} {u : Value} {ns : List ByteArray} (h : NF B0 w u ns) (hg : g < B0) : NOwn g w u ns := by
  obtain ⟨b, c, cs, rfl, h1, h2, h3, h4, h5⟩ := h
  exact ⟨b, c, cs, rfl, h1, h2, by omega, h4, h5⟩
def hval (u : Value) (h : Hs) : Value := .agg #[u, .int .i64 h.key, .int .i64 h.maxN, .int .i64 h.maxB]
def RHs (B0 : Nat) : Value → World → Prop := fun v w => ∃ (u : Value) (h : Hs), v = hval u h ∧ NF B0 w u h.names ∧ HSm h
def RHBox (B0 : Nat) : Value → World → Prop := fun v w => ∃ (c : Nat) (u : Value) (h : Hs), v = .slice (some ⟨c, 0, none⟩) 1 1 ∧ B0 ≤ c ∧ w.heap[c]? = some (.cells #[u, .int .i64 h.key, .int .i64 h.maxN, .int .i64 h.maxB] 48 (0, 0)) ∧ NF B0 w u h.names ∧ HSm h
def RAppC (g z : Nat) (its : List (Value × Hs)) : Value → World → Prop := fun v w => ∃ p : Value × Hs, NOwn g w p.1 p.2.names ∧ HSm p.2 ∧ w.ownsRow z 48 4 v (its.length + 1) (icells its ++ icell p)
/-- Stable while only the blocks g and row may change. -/
def StayTwC (g : Nat) (row : Option Nat) (R : Value → World → Prop) : Prop := ∀ v w w', R v w → (w.grownBy w' (some g) ∨ w.grownBy w' row) → R v w'
theorem stay2c_eq (g : Nat) (row : Option Nat) (x : Value) : StayTwC g row (REq x) := fun _ _ _ h _ => h
theorem stay2c_num (g n : Nat) (row : Option Nat) : StayTwC g row (RNum n) := fun _ _ _ h _ => h
theorem stay2c_int (g : Nat) (row : Option Nat) : StayTwC g row RInt := fun _ _ _ h _ => h
theorem fresh_blockC {g B0 c : Nat} {row : Option Nat} {w w' : World} {o : Obj} (hg : g < B0) (hr : ∀ r, row = some r → r < B0) (hc : B0 ≤ c) (h : w.heap[c]? = some o) (hh : w.grownBy w' (some g) ∨ w.grownBy w' row) : w'.heap[c]? = some o := by
  have hlt := (Array.getElem?_eq_some_iff.1 h).1
  rcases hh with hh | hh
  · exact (hh.block c hlt (fun e => by injection e; omega)).trans h
  · exact (hh.block c hlt (fun e => by have := hr c e.symm; omega)).trans h
theorem stay2c_lit {g B0 n : Nat} {row : Option Nat} {cs : Array Value} {T : TypeId} (hg : g < B0) (hr : ∀ r, row = some r → r < B0) : StayTwC g row (RLitC B0 n cs T) := fun _ _ _ ⟨c, h1, h2, h3⟩ hh => ⟨c, h1, h2, fresh_blockC hg hr h2 h3 hh⟩
theorem stay2c_celli {g B0 : Nat} {row : Option Nat} (hg : g < B0) (hr : ∀ r, row = some r → r < B0) : StayTwC g row (RCellI B0) := fun _ w w' ⟨c, r, x, h1, h2, h3⟩ hh => by
  refine ⟨c, r, x, h1, h2, ?_⟩
  have hlt : c < w.heap.size := World.block_lt_of_cell? w _ h3
  obtain ⟨o, ho⟩ : ∃ o, w.heap[c]? = some o := ⟨_, Array.getElem?_eq_getElem hlt⟩
  have h5 := fresh_blockC hg hr h2 ho hh
  exact (World.cell?_of_block (w := w) (h5.trans ho.symm)).trans h3
theorem NF.keep {g B0 : Nat} {row : Option Nat} {w w' : World} {u : Value} {ns : List ByteArray} (h : NF B0 w u ns) (hg : g < B0) (hr : ∀ r, row = some r → r < B0) (hh : w.grownBy w' (some g) ∨ w.grownBy w' row) : NF B0 w' u ns := by
  obtain ⟨b, c, cs, rfl, h1, h2, h3, h4, h5⟩ := h
  exact ⟨b, c, cs, rfl, h1, h2, h3, fresh_blockC hg hr h3 h4 hh, h5⟩
theorem stay2c_hs {g B0 : Nat} {row : Option Nat} (hg : g < B0) (hr : ∀ r, row = some r → r < B0) : StayTwC g row (RHs B0) := fun _ _ _ ⟨u, h, h1, h2, h3⟩ hh => ⟨u, h, h1, h2.keep hg hr hh, h3⟩
theorem stay2c_hbox {g B0 : Nat} {row : Option Nat} (hg : g < B0) (hr : ∀ r, row = some r → r < B0) : StayTwC g row (RHBox B0) := fun _ _ _ ⟨c, u, h, h1, h2, h3, h4, h5⟩ hh => ⟨c, u, h, h1, h2, fresh_blockC hg hr h2 h3 hh, h4.keep hg hr hh, h5⟩
theorem stay_appc {g z : Nat} {its : List (Value × Hs)} (hg : g < z) : Stay g (RAppC g z its) := fun _ _ _ ⟨p, h1, h2, h3⟩ hh => ⟨p, h1.keep hh, h2, own_drawnC h3 hg hh⟩
def LeAtN (N g : Nat) (row : Option Nat) (j : Nat) (w w' : World) : Prop := if j = N then w.grownBy w' row else w.grownBy w' (some g)
theorem leN_two {N g : Nat} {row : Option Nat} {j : Nat} {w w' : World} (h : LeAtN N g row j w w') : w.grownBy w' (some g) ∨ w.grownBy w' row := by
  unfold LeAtN at h
  split at h
  · exact .inr h
  · exact .inl h
theorem leN_not {N g : Nat} {row : Option Nat} {j : Nat} {w w' : World} (hj : j ≠ N) (h : LeAtN N g row j w w') : w.grownBy w' (some g) := by
  unfold LeAtN at h; rw [if_neg hj] at h; exact h
theorem leN_mk {N g : Nat} {row : Option Nat} {j : Nat} {w w' : World} (hj : j ≠ N) (h : w.grownBy w' (some g)) : LeAtN N g row j w w' := by
  unfold LeAtN; rw [if_neg hj]; exact h
/-- What stands of the houses' box while the region runs. -/
def CRowC (N B0 : Nat) (w0 : World) (B g m b : Nat) (its : List (Value × Hs)) (v : Value) : (Nat → Prop) → Nat → World → Prop := fun L k W =>
  W.heap[b]? = some (.cells #[v] 25 (0, 0)) ∧ Drawn w0 W B g (m + k) ∧ (¬ L N → W.ownsRow w0.heap.size 48 4 v its.length (icells its)) ∧ (∀ p ∈ its, NOwn g W p.1 p.2.names) ∧ B0 ≤ W.heap.size ∧ g < w0.heap.size ∧ w0.heap.size ≤ b
theorem CRowC.keep {N : Nat} {w0 W W' : World} {B0 B g m b k i d : Nat} {its : List (Value × Hs)} {v : Value} {L : Nat → Prop} (hC : CRowC N B0 w0 B g m b its v L k W) (hd : Drawn W W' B g (m + k + d)) (hd1 : d ≤ 1) : CRowC N B0 w0 B g m b its v (fun j => j = i ∨ L j) (k + 1) W' := by
  obtain ⟨h1, h2, h3, h4, h5, h6, h7⟩ := hC
  exact ⟨block_keep (by omega) h1 hd.2, (h2.trans hd).mono (by omega), fun hn => own_drawnC (h3 fun h => hn (.inr h)) h6 hd.2, fun p hp => (h4 p hp).keep hd.2, Nat.le_trans h5 hd.2.size, h6, h7⟩
theorem CRowC.same {N : Nat} {w0 W : World} {B0 B g m b k i : Nat} {its : List (Value × Hs)} {v : Value} {L : Nat → Prop} (hC : CRowC N B0 w0 B g m b its v L k W) : CRowC N B0 w0 B g m b its v (fun j => j = i ∨ L j) (k + 1) W :=
  ⟨hC.1, hC.2.1.mono (by omega), fun hn => hC.2.2.1 fun h => hn (.inr h), hC.2.2.2⟩
theorem CRowC.alloc {N : Nat} {w0 W : World} {B0 B g m b k i : Nat} {its : List (Value × Hs)} {v : Value} {L : Nat → Prop} (hC : CRowC N B0 w0 B g m b its v L k W) (o : Obj) : CRowC N B0 w0 B g m b its v (fun j => j = i ∨ L j) (k + 1) (W.alloc o) :=
  hC.keep (d := 0) ((Drawn.refl hC.2.1.1).alloc o) (by omega)
theorem CRowC.app {N : Nat} {w0 W W' : World} {B0 B g m b k : Nat} {its : List (Value × Hs)} {v : Value} {L : Nat → Prop} (hC : CRowC N B0 w0 B g m b its v L k W) (hL : ¬ L N) (hok : ∀ p ∈ its, HSm p.2) (hg : W.grownBy W' v.ownBlock) :
    CRowC N B0 w0 B g m b its v (fun j => j = N ∨ L j) (k + 1) W' := by
  obtain ⟨h1, h2, h3, h4, h5, h6, h7⟩ := hC
  have hI : CIn w0 W B g (m + k) b its v := ⟨h1, h3 hL, h4, hok, h2, h6, h7⟩
  obtain ⟨k1, k2, k3⟩ := hI.grown hg
  exact ⟨k1, k3.mono (by omega), fun hn => absurd (.inl rfl) hn, fun p hp => k2 _ _ (h4 p hp), Nat.le_trans h5 hg.size, h6, h7⟩
theorem CRowC.fin {N : Nat} {w0 W : World} {B0 B g m b k : Nat} {its : List (Value × Hs)} {v v' : Value} {L : Nat → Prop} (hC : CRowC N B0 w0 B g m b its v L k W) (ha : RAppC g w0.heap.size its v' W) (hok : ∀ p ∈ its, HSm p.2) :
    W.cell? ⟨b, 0, none⟩ = some v ∧ W.frozen? ⟨b, 0, none⟩ = false ∧ ∃ p, CIn w0 (W.setCell ⟨b, 0, none⟩ v') B g (m + k) b (its ++ [p]) v' := by
  obtain ⟨h1, h2, h3, h4, h5, h6, h7⟩ := hC
  obtain ⟨p, hn, hs, ho⟩ := ha
  refine ⟨by simp [World.cell?, h1], by simp [World.frozen?, h1], p, heap_setCell_same W b 0 _ _ v' h1, ?_, ?_, ?_, drawn_setC h2 h6 h7 0 _, h6, h7⟩
  · rw [icells_app, List.length_append]
    refine own_setC ho (fun e => ?_) _
    obtain ⟨_, cs, hc⟩ := own_type ho e
    exact other_block hc h1 (by decide) rfl
  · intro q hq
    refine NOwn.set ?_ h1 (by decide) 0 _
    rcases List.mem_append.1 hq with hq | hq
    · exact h4 q hq
    · have : q = p := by simpa using hq
      subst this; exact hn
  · intro q hq
    rcases List.mem_append.1 hq with hq | hq
    · exact hok q hq
    · have : q = p := by simpa using hq
      subst this; exact hs
theorem lit_atI {w : World} {b r : Nat} {lo hi : Int} {cs : Array Value} {T : TypeId} (h : w.heap[b]? = some (.cells cs T (0, 0))) (hok : IntsL lo hi cs.toList) (hr : r < cs.size) : ∃ x : Int, w.cell? ⟨b, r, none⟩ = some (.int .i64 x) := by
  obtain ⟨x, h1, _⟩ := ints_at hok (r := r) (by simpa using hr)
  exact ⟨x, by rw [cell_of_row w b r cs T (0, 0) h]; simpa using h1⟩
end Go.Proofs.YtncegikmpapldaaGreatDoor

-- from XCfD
/- Walks: the drawing of houses. -/
namespace Go.Proofs.YtncegikmpapldaaGreatDoor
open Go.RowKit

theorem Tryz.infoHs : (Tryz.prog.info? 48).map (fun i => (i.zero, i.size, i.bytes)) = some (some (.agg #[.slice none 0 0, .int .i64 0, .int .i64 0, .int .i64 0]), 4, 48) := by kernel_rfl
theorem hsm_lit {L : List ByteArray} {k n b : Int} (h : (1 ≤ L.length ∧ L.length ≤ 2) ∧ (L.all fun s => decide (s.size ≤ 40)) = true) : HSm ⟨L, k, n, b⟩ :=
  ⟨fun s hs => by have := (List.all_eq_true.1 h.2) s hs; simpa using this, h.1.1, h.1.2⟩
def DrawnCfg (w : World) (B g m : Nat) (e : Ending) (w' : World) : Prop :=
  ∃ (its : List (Value × Hs)) (v : Value), e = .returned (.agg #[v]) ∧ w'.ownsRow w.heap.size 48 4 v its.length (icells its) ∧ (∀ p ∈ its, NOwn g w' p.1 p.2.names) ∧ (∀ p ∈ its, HSm p.2) ∧ 1 ≤ its.length ∧ its.length ≤ 3 ∧ Drawn w w' B g m
theorem own_form2 {w : World} {B size n : Nat} {e : TypeId} {v : Value} {xs : List Value} (h : w.ownsRow B e size v n xs) : ∃ a c, v = .slice a n c := by
  rcases h.2 with ⟨rfl, rfl⟩ | ⟨c, cap, cur, rfl, _⟩
  · exact ⟨none, 0, rfl⟩
  · exact ⟨_, cap, rfl⟩
def two1 : Array Value := #[.string ⟨#[116, 119, 111, 46, 120]⟩]
def ints3 : Array Value := #[.int .i64 120, .int .i64 30, .int .i64 60]
set_option maxRecDepth 100000 in
set_option maxHeartbeats 6400000 in
theorem cfg_any (g B m : Nat) (w : World) (hm : m ≤ 500000) (h : RdAt w B g m) :
    Calls Tryz.prog 77 #[.pointer (some ⟨g, 0, none⟩)] w (DrawnCfg w B g (m + 100)) := by
  have hg := h.lt
  go_enter Tryz.func77, Tryz.ntmps77
  go_wp2_with fail
  obtain ⟨w0, hw0⟩ : ∃ w0, w0 = w.alloc (.cells #[.slice none 0 0] 25) := ⟨_, rfl⟩
  have h0 : RdAt w0 B g m := by rw [hw0]; exact h.alloc _
  have hs0 : w0.heap.size = w.heap.size + 1 := by rw [hw0]; simp
  have hg0 : g < w0.heap.size := by omega
  rw [← hw0]
  refine (pick_lit g 200 200 rfl (by decide) B m _ (by omega) (by decide) (h0.alloc _)).mono ?_
  rintro e w1 ⟨r1, rfl, hr1, -, hd1⟩
  have n1 : w1.heap[w.heap.size + 1]? = some (.cells #[.string ⟨#[111, 110, 101, 46, 120]⟩, .string ⟨#[97, 108, 115, 111, 46, 111, 110, 101]⟩] 9 (0, 0)) := by
    refine block_keep (by omega) ?_ hd1.2
    rw [← hs0]; exact heap_alloc_new w0 _
  have hD1 := hd1.of_alloc
  have hrd1 := hd1.1
  clear hd1
  go_wp2_with fail
  refine (pick_lit g 4 4 rfl (by decide) B (m + 1) _ (by omega) (by decide) hrd1).mono ?_
  rintro e w2 ⟨r2, rfl, hr2, -, hd2⟩
  have n2 := block_keep (by omega) n1 hd2.2
  have hD2 := hD1.trans hd2
  have hrd2 := hd2.1
  clear hd2 hD1 n1 hrd1
  go_wp2_with fail
  refine (pick_lit g 100 100 rfl (by decide) B (m + 1 + 1) _ (by omega) (by decide) hrd2).mono ?_
  rintro e w3 ⟨r3, rfl, hr3, -, hd3⟩
  have n3 := block_keep (by omega) n2 hd3.2
  have hD3 := hD2.trans hd3
  have hsz3 := hD3.2.size
  clear hd3 hD2 n2 hrd2
  obtain ⟨W4, hW4⟩ : ∃ W4, W4 = (w3.alloc (.cells #[.slice (some ⟨w.heap.size + 1, 0, none⟩) 2 2, .int .i64 (1 + (r1 : Int)), .int .i64 (1 + (r2 : Int)), .int .i64 (20 + (r3 : Int))] 48)).alloc (.cells #[.slice (some ⟨w3.heap.size, 0, none⟩) 1 1] 25) := ⟨_, rfl⟩
  have hI : CIn w0 W4 B g (m + 3) (w3.heap.size + 1) [(.slice (some ⟨w.heap.size + 1, 0, none⟩) 2 2, ⟨[⟨#[111, 110, 101, 46, 120]⟩, ⟨#[97, 108, 115, 111, 46, 111, 110, 101]⟩], 1 + (r1 : Int), 1 + (r2 : Int), 20 + (r3 : Int)⟩)] (.slice (some ⟨w3.heap.size, 0, none⟩) 1 1) := by
    have hd4 : Drawn w3 W4 B g (m + 3) := by rw [hW4]; exact ((Drawn.refl hD3.1).alloc _).alloc _
    have hr4 : W4.heap[w3.heap.size]? = some (.cells #[.slice (some ⟨w.heap.size + 1, 0, none⟩) 2 2, .int .i64 (1 + (r1 : Int)), .int .i64 (1 + (r2 : Int)), .int .i64 (20 + (r3 : Int))] 48 (0, 0)) := by
      rw [hW4, Below.heap_alloc _ _ _ (by simp)]; exact heap_alloc_new w3 _
    refine ⟨?_, ⟨rfl, .inr ⟨w3.heap.size, 1, _, rfl, hsz3, hr4, Nat.le_refl _, by decide, rfl, rfl⟩⟩, fun p hp => ?_, fun p hp => ?_, hD3.trans hd4, hg0, by omega⟩
    · rw [hW4]
      have := heap_alloc_new (w3.alloc (.cells #[.slice (some ⟨w.heap.size + 1, 0, none⟩) 2 2, .int .i64 (1 + (r1 : Int)), .int .i64 (1 + (r2 : Int)), .int .i64 (20 + (r3 : Int))] 48)) (.cells #[.slice (some ⟨w3.heap.size, 0, none⟩) 1 1] 25)
      simpa using this
    · have hp2 := List.mem_singleton.1 hp
      subst hp2
      exact ⟨w.heap.size + 1, 2, _, rfl, Nat.le_refl _, by decide, by omega, block_keep (by omega) n3 hd4.2, fun j s hj => by
        match j, hj with
        | 0, hj => simpa using hj
        | 1, hj => simpa using hj⟩
    · have hp2 := List.mem_singleton.1 hp
      subst hp2
      exact hsm_lit (by decide)
  obtain ⟨b, hb⟩ : ∃ b, b = w3.heap.size + 1 := ⟨_, rfl⟩
  rw [← hb] at hI
  generalize hits : [((.slice (some ⟨w.heap.size + 1, 0, none⟩) 2 2 : Value), (⟨[⟨#[111, 110, 101, 46, 120]⟩, ⟨#[97, 108, 115, 111, 46, 111, 110, 101]⟩], 1 + (r1 : Int), 1 + (r2 : Int), 20 + (r3 : Int)⟩ : Hs))] = its at hI
  have hlen : its.length = 1 := by rw [← hits]; rfl
  have HW4 := Lib.hid hW4
  clear hits n3 hD3 hW4 hsz3
  have hfin : ∀ (W : World) (M : Nat) (its : List (Value × Hs)) (a : Option Addr) (c : Nat), CIn w0 W B g M b its (.slice a its.length c) → M ≤ m + 100 → 1 ≤ its.length → its.length ≤ 3 →
      W.cell? ⟨w.heap.size, 0, none⟩ = some (.slice none 0 0) ∧ W.frozen? ⟨w.heap.size, 0, none⟩ = false ∧ (W.setCell ⟨w.heap.size, 0, none⟩ (.slice a its.length c)).cell? ⟨w.heap.size, 0, none⟩ = some (.slice a its.length c) ∧
      Hid (DrawnCfg w B g (m + 100) (.returned (.agg #[.slice a its.length c])) (W.setCell ⟨w.heap.size, 0, none⟩ (.slice a its.length c))) := fun W M its a c hh hM h1 h3 => by
    have hbw := hh.wb
    have r0 : W.heap[w.heap.size]? = some (.cells #[.slice none 0 0] 25 (0, 0)) := by
      refine block_keep (by omega) ?_ hh.drawn.2
      rw [hw0]; exact heap_alloc_new w _
    have r1 := heap_setCell_same W w.heap.size 0 _ _ (.slice a its.length c) r0
    refine ⟨by simp [World.cell?, r0], by simp [World.frozen?, r0], by simp [World.cell?, r1], Lib.hid ⟨its, _, rfl, ?_, fun p hp => (hh.nms p hp).set r0 (by decide) 0 _, hh.ok, h1, h3, ?_⟩⟩
    · have ho := own_setC (k := 0) hh.own (b := w.heap.size) (fun e => by have := (own_type hh.own e).1; omega) (.slice a its.length c)
      refine ⟨ho.1, ?_⟩
      rcases ho.2 with ho | ⟨c, cap, cur, hv, hB, rest⟩
      · exact .inl ho
      · exact .inr ⟨c, cap, cur, hv, by omega, rest⟩
    · have hW' : Drawn w W B g M := by have hW := hh.drawn; rw [hw0] at hW; exact hW.of_alloc
      exact (drawn_setC hW' hg (Nat.le_refl _) 0 _).mono hM
  have HF := Lib.hid hfin
  clear hfin
  have hrd4 := hI.drawn.1
  go_wp2_with fail
  rw [← HW4.out, ← hb]
  refine (pick_lit g 4 4 rfl (by decide) B (m + 3) _ (by omega) (by decide) hrd4).mono ?_
  rintro e w5 ⟨r5, rfl, hr5, -, hd5⟩
  have hI5 := hI.keep hd5
  have hrd5 := hd5.1
  clear hd5 hI hrd4 HW4 hb
  go_upto_if 19 with fail
  go_cut [] (fun wx => ∃ (its : List (Value × Hs)) (v : Value), 1 ≤ its.length ∧ its.length ≤ 2 ∧ CIn w0 wx B g (m + 60) b its v)
  case first =>
    by_cases hr0 : 0 < r5
    · have hr0' : (0 : Int) < (r5 : Int) := by omega
      go_upto_region 3 with fail
      rw [decide_eq_true hr0]
      obtain ⟨i0, hi, hz0, hz1, hz2⟩ := info_parts Tryz.infoHs
      have hg5 : g < w5.heap.size := hrd5.lt
      have hrow : ∀ r, (Value.ownBlock (.slice (some ⟨w3.heap.size, 0, none⟩) 1 1)) = some r → r < w5.heap.size := fun r hr => by
        obtain ⟨_, cs, hc⟩ := own_type hI5.own hr
        exact (Array.getElem?_eq_some_iff.1 hc).1
      refine wp_region_lastL (by kernel_rfl) 18 (by kernel_rfl) (by kernel_rfl) (by kernel_rfl)
        (fun u => { tmps := #[.pointer (some ⟨g, 0, none⟩), undef, .pointer (some ⟨w.heap.size, 0, none⟩), .pointer (some ⟨b, 0, none⟩), .slice (some ⟨w.heap.size + 1, 0, none⟩) 2 2, .pointer (some ⟨g, 0, none⟩), .int .i64 (r1 : Int), .int .i64 (1 + (r1 : Int)), .pointer (some ⟨g, 0, none⟩), .int .i64 (r2 : Int), .int .i64 (1 + (r2 : Int)), .pointer (some ⟨g, 0, none⟩), .int .i64 (r3 : Int), .int .i64 (20 + (r3 : Int)), .agg #[.slice (some ⟨w.heap.size + 1, 0, none⟩) 2 2, .int .i64 (1 + (r1 : Int)), .int .i64 (1 + (r2 : Int)), .int .i64 (20 + (r3 : Int))], .slice (some ⟨w3.heap.size, 0, none⟩) 1 1, .agg #[.slice (some ⟨w3.heap.size, 0, none⟩) 1 1], .pointer (some ⟨g, 0, none⟩), .int .i64 (r5 : Int), .bool true, u 0, u 1, u 2, u 3, u 4, u 5, u 6, u 7, u 8, u 9, u 10, u 11, u 12, u 13, u 14, u 15, u 16, u 17, undef, undef, undef, undef, undef, undef, undef, undef, undef, undef, undef], defers := [] })
        (CRowC 16 w5.heap.size w0 B g (m + 3 + 1) b its (.slice (some ⟨w3.heap.size, 0, none⟩) 1 1))
        (RAt [REq (.pointer (some ⟨b, 0, none⟩)), REq (.slice (some ⟨w3.heap.size, 0, none⟩) 1 1), RLitC w5.heap.size 1 two1 9, REq (.pointer (some ⟨g, 0, none⟩)), RNum 200, RInt, REq (.pointer (some ⟨g, 0, none⟩)), RNum 6, RInt, RLitC w5.heap.size 3 ints3 3, REq (.pointer (some ⟨g, 0, none⟩)), RNum 3, RCellI w5.heap.size, RInt, RHs w5.heap.size, RHBox w5.heap.size, RAppC g w0.heap.size its, REq (.pointer (some ⟨b, 0, none⟩))])
        (LeAtN 16 g (Value.ownBlock (.slice (some ⟨w3.heap.size, 0, none⟩) 1 1))) (fun _ => undef) ⟨hI5.box, hI5.drawn.drew, fun _ => hI5.own, hI5.nms, Nat.le_refl _, hg0, hI5.wb⟩ ?_ ?_ ?_
      · intro i j x W W' hi' _ hij hR hle
        match i, hi' with
        | 0, _ => exact stay2c_eq g _ _ x W W' hR (leN_two hle)
        | 1, _ => exact stay2c_eq g _ _ x W W' hR (leN_two hle)
        | 2, _ => exact stay2c_lit hg5 hrow x W W' hR (leN_two hle)
        | 3, _ => exact stay2c_eq g _ _ x W W' hR (leN_two hle)
        | 4, _ => exact stay2c_num g _ _ x W W' hR (leN_two hle)
        | 5, _ => exact stay2c_int g _ x W W' hR (leN_two hle)
        | 6, _ => exact stay2c_eq g _ _ x W W' hR (leN_two hle)
        | 7, _ => exact stay2c_num g _ _ x W W' hR (leN_two hle)
        | 8, _ => exact stay2c_int g _ x W W' hR (leN_two hle)
        | 9, _ => exact stay2c_lit hg5 hrow x W W' hR (leN_two hle)
        | 10, _ => exact stay2c_eq g _ _ x W W' hR (leN_two hle)
        | 11, _ => exact stay2c_num g _ _ x W W' hR (leN_two hle)
        | 12, _ => exact stay2c_celli hg5 hrow x W W' hR (leN_two hle)
        | 13, _ => exact stay2c_int g _ x W W' hR (leN_two hle)
        | 14, _ => exact stay2c_hs hg5 hrow x W W' hR (leN_two hle)
        | 15, _ => exact stay2c_hbox hg5 hrow x W W' hR (leN_two hle)
        | 16, _ => exact stay_appc hg0 x W W' hR (leN_not (Ne.symm hij) hle)
        | 17, _ => exact stay2c_eq g _ _ x W W' hR (leN_two hle)
        | i + 18, h18 => exact absurd h18 (by omega)
      · intro i hi' L z W k hk hL hC hd'
        have hsz : w5.heap.size ≤ W.heap.size := hC.2.2.2.2.1
        match i, hi' with
          | 0, _ =>
            refine wpOp_step rfl (fun K hK => ?_)
            clear hd'
            go_simp
            exact hK _ _ ⟨_, rfl, rfl, leN_mk (by decide) (World.grownBy.refl _ _), hC.same⟩
          | 1, _ =>
            have e0 : z 0 = .pointer (some ⟨b, 0, none⟩) := hd' 0 (dep_of (by kernel_rfl))
            have x3 : W.cell? ⟨b, 0, none⟩ = some (.slice (some ⟨w3.heap.size, 0, none⟩) 1 1) := by simp [World.cell?, hC.1]
            refine wpOp_step rfl (fun K hK => ?_)
            clear hd'
            go_simp
            exact hK _ _ ⟨_, by simp [upd, e0], rfl, leN_mk (by decide) (World.grownBy.refl _ _), hC.same⟩
          | 2, _ =>
            refine wpOp_step rfl (fun K hK => ?_)
            clear hd'
            go_simp
            exact hK _ _ ⟨_, rfl, ⟨_, rfl, hsz, heap_alloc_new W _⟩, leN_mk (by decide) (World.grownBy_alloc _ _ _), hC.alloc _⟩
          | 3, _ =>
            refine wpOp_step rfl (fun K hK => ?_)
            clear hd'
            go_simp
            exact hK _ _ ⟨_, rfl, rfl, leN_mk (by decide) (World.grownBy.refl _ _), hC.same⟩
          | 4, _ =>
            have e3 : z 3 = .pointer (some ⟨g, 0, none⟩) := hd' 3 (dep_of (by kernel_rfl))
            refine wpOp_step rfl (fun K hK => ?_)
            clear hd'
            go_simp
            refine (pick_lit g 200 200 rfl (by decide) B (m + 3 + 1 + k) _ (by omega) (by decide) hC.2.1.1).mono ?_
            rintro e w7 ⟨r, rfl, hr, -, hd2⟩
            exact hK _ _ ⟨_, by simp [upd, e3], ⟨r, rfl, hr⟩, leN_mk (by decide) hd2.2, hC.keep (d := 1) hd2 (by omega)⟩
          | 5, _ =>
            obtain ⟨r, e4, hr⟩ : RNum 200 (z 4) W := hd' 4 (dep_of (by kernel_rfl))
            refine wpOp_step rfl (fun K hK => ?_)
            clear hd'
            go_simp
            exact hK _ _ ⟨.int .i64 (IntKind.i64.wrap (300 + (r : Int))), by simp [upd, e4], ⟨_, rfl⟩, leN_mk (by decide) (World.grownBy.refl _ _), hC.same⟩
          | 6, _ =>
            refine wpOp_step rfl (fun K hK => ?_)
            clear hd'
            go_simp
            exact hK _ _ ⟨_, rfl, rfl, leN_mk (by decide) (World.grownBy.refl _ _), hC.same⟩
          | 7, _ =>
            have e6 : z 6 = .pointer (some ⟨g, 0, none⟩) := hd' 6 (dep_of (by kernel_rfl))
            refine wpOp_step rfl (fun K hK => ?_)
            clear hd'
            go_simp
            refine (pick_lit g 6 6 rfl (by decide) B (m + 3 + 1 + k) _ (by omega) (by decide) hC.2.1.1).mono ?_
            rintro e w7 ⟨r, rfl, hr, -, hd2⟩
            exact hK _ _ ⟨_, by simp [upd, e6], ⟨r, rfl, hr⟩, leN_mk (by decide) hd2.2, hC.keep (d := 1) hd2 (by omega)⟩
          | 8, _ =>
            obtain ⟨r, e7, hr⟩ : RNum 6 (z 7) W := hd' 7 (dep_of (by kernel_rfl))
            refine wpOp_step rfl (fun K hK => ?_)
            clear hd'
            go_simp
            exact hK _ _ ⟨.int .i64 (IntKind.i64.wrap (1 + (r : Int))), by simp [upd, e7], ⟨_, rfl⟩, leN_mk (by decide) (World.grownBy.refl _ _), hC.same⟩
          | 9, _ =>
            refine wpOp_step rfl (fun K hK => ?_)
            clear hd'
            go_simp
            exact hK _ _ ⟨_, rfl, ⟨_, rfl, hsz, heap_alloc_new W _⟩, leN_mk (by decide) (World.grownBy_alloc _ _ _), hC.alloc _⟩
          | 10, _ =>
            refine wpOp_step rfl (fun K hK => ?_)
            clear hd'
            go_simp
            exact hK _ _ ⟨_, rfl, rfl, leN_mk (by decide) (World.grownBy.refl _ _), hC.same⟩
          | 11, _ =>
            have e10 : z 10 = .pointer (some ⟨g, 0, none⟩) := hd' 10 (dep_of (by kernel_rfl))
            refine wpOp_step rfl (fun K hK => ?_)
            clear hd'
            go_simp
            refine (pick_lit g 3 3 rfl (by decide) B (m + 3 + 1 + k) _ (by omega) (by decide) hC.2.1.1).mono ?_
            rintro e w7 ⟨r, rfl, hr, -, hd2⟩
            exact hK _ _ ⟨_, by simp [upd, e10], ⟨r, rfl, hr⟩, leN_mk (by decide) hd2.2, hC.keep (d := 1) hd2 (by omega)⟩
          | 12, _ =>
            obtain ⟨c, e9, hcB, hcb⟩ : RLitC w5.heap.size 3 ints3 3 (z 9) W := hd' 9 (dep_of (by kernel_rfl))
            obtain ⟨r, e11, hr⟩ : RNum 3 (z 11) W := hd' 11 (dep_of (by kernel_rfl))
            obtain ⟨s, hs⟩ := lit_atI (lo := 0) (hi := 255) hcb (by repeat (first | exact trivial | refine ⟨⟨_, rfl, by omega, by omega⟩, ?_⟩)) (r := r) hr
            have hr6 : (r : Int) < 3 := by omega
            refine wpOp_step rfl (fun K hK => ?_)
            clear hd'
            go_simp
            exact hK _ _ ⟨_, by simp [upd, e9, e11], ⟨c, r, s, rfl, hcB, hs⟩, leN_mk (by decide) (World.grownBy.refl _ _), hC.same⟩
          | 13, _ =>
            obtain ⟨c, r, s, e12, hcB, hs⟩ : RCellI w5.heap.size (z 12) W := hd' 12 (dep_of (by kernel_rfl))
            refine wpOp_step rfl (fun K hK => ?_)
            clear hd'
            go_simp
            exact hK _ _ ⟨_, by simp [upd, e12], ⟨s, rfl⟩, leN_mk (by decide) (World.grownBy.refl _ _), hC.same⟩
          | 14, _ =>
            obtain ⟨c, e2, hcB, hcb⟩ : RLitC w5.heap.size 1 two1 9 (z 2) W := hd' 2 (dep_of (by kernel_rfl))
            obtain ⟨x, e5⟩ : RInt (z 5) W := hd' 5 (dep_of (by kernel_rfl))
            obtain ⟨y, e8⟩ : RInt (z 8) W := hd' 8 (dep_of (by kernel_rfl))
            obtain ⟨t, e13⟩ : RInt (z 13) W := hd' 13 (dep_of (by kernel_rfl))
            refine wpOp_step rfl (fun K hK => ?_)
            clear hd'
            go_simp
            exact hK _ _ ⟨hval (.slice (some ⟨c, 0, none⟩) 1 1) ⟨[⟨#[116, 119, 111, 46, 120]⟩], x, y, t⟩, by simp [upd, e2, e5, e8, e13, hval], ⟨_, _, rfl, ⟨c, 1, two1, rfl, Nat.le_refl _, by decide, hcB, hcb, fun j s hj => by match j, hj with | 0, hj => simpa [two1] using hj⟩, hsm_lit (by decide)⟩, leN_mk (by decide) (World.grownBy.refl _ _), hC.same⟩
          | 15, _ =>
            obtain ⟨u, h1, e14, hn1, hs1⟩ : RHs w5.heap.size (z 14) W := hd' 14 (dep_of (by kernel_rfl))
            unfold hval at e14
            have hne : W.grownBy (W.alloc (.cells #[u, .int .i64 h1.key, .int .i64 h1.maxN, .int .i64 h1.maxB] 48)) (some g) := World.grownBy_alloc _ _ _
            refine wpOp_step rfl (fun K hK => ?_)
            clear hd'
            go_simp
            exact hK _ _ ⟨_, by simp [upd, e14], ⟨_, u, h1, rfl, hsz, heap_alloc_new W _, hn1.keep hg5 hrow (.inl hne), hs1⟩, leN_mk (by decide) hne, hC.alloc _⟩
          | 16, _ =>
            have e1 : z 1 = .slice (some ⟨w3.heap.size, 0, none⟩) 1 1 := hd' 1 (dep_of (by kernel_rfl))
            obtain ⟨c, u, h1, e15, hcB, hcb, hn1, hs1⟩ : RHBox w5.heap.size (z 15) W := hd' 15 (dep_of (by kernel_rfl))
            have hown := hC.2.2.1 hL
            refine wpOp_step rfl (fun K hK => ?_)
            clear hd'
            refine wp_append_lies _ (.tmp 21) (.tmp 35) 23 (by rfl) w0.heap.size 48 i0 _ 4 48 Tryz.underlying23 hi hz0 hz1 hz2 (by rfl) (by decide) (.slice (some ⟨w3.heap.size, 0, none⟩) 1 1) its.length (icells its) (by exact e1) hown ⟨c, 0, none⟩ 1 1 [u, .int .i64 h1.key, .int .i64 h1.maxN, .int .i64 h1.maxB] (by exact e15) (by rfl) (World.news_of_block hcb) (by obtain ⟨_, _, _, rfl, _⟩ := hn1; intro x hx; simp at hx; rcases hx with rfl | rfl | rfl | rfl <;> rfl) (by omega) (by unfold maxLen; omega) (by omega) (by have := hC.2.1.2.size; omega) W.heap.size rfl ?_
            intro g3 cap w7 ho7 hg7 _ _
            refine hK _ _ ⟨_, rfl, ⟨(u, h1), (hn1.keep hg5 hrow (.inr hg7)).own hg5, hs1, ho7⟩, ?_, ?_⟩
            · unfold LeAtN; rw [if_pos rfl]; exact hg7
            · exact hC.app hL hI5.ok hg7
          | 17, _ =>
            refine wpOp_step rfl (fun K hK => ?_)
            clear hd'
            go_simp
            exact hK _ _ ⟨_, rfl, rfl, leN_mk (by decide) (World.grownBy.refl _ _), hC.same⟩
          | i + 18, h18 => exact absurd h18 (by omega)
      · intro L z W k hk hC hd'
        have ha : RAppC g w0.heap.size its (z 16) W := hd' 16 (by decide)
        have e17 : z 17 = .pointer (some ⟨b, 0, none⟩) := hd' 17 (by decide)
        obtain ⟨x3, p3, p, hI8⟩ := CRowC.fin hC ha hI5.ok
        obtain ⟨v', e16⟩ : ∃ x, z 16 = x := ⟨_, rfl⟩
        rw [e16] at hI8
        obtain ⟨a5, c5, hv⟩ := own_form2 hI8.own
        rw [show (its ++ [p]).length = 2 from by simp [hlen]] at hv
        subst hv
        have HI8 := Lib.hid hI8
        clear ha hC hd' hI5 hI8 hi hz0 hz1 hz2 hrow
        refine wpOp_step rfl (fun K hK => ?_)
        go_simp
        refine hK _ _ ?_
        clear hK K
        go_wp2
        go_meet
        exact ⟨its ++ [p], _, by simp, by simp; omega, HI8.out.mono (by omega)⟩
    · have n0 : r5 = 0 := by omega
      subst n0
      go_wp2_with fail
      go_meet
      exact ⟨its, _, by omega, by omega, hI5.mono (by omega)⟩
  case rest =>
    obtain ⟨its2, v2, hl1, hl2, hI6⟩ := hcut
    have hrd6 := hI6.drawn.1
    obtain ⟨a2, c2, rfl⟩ := own_form2 hI6.own
    clear hI5 hrd5 hr5 hlen
    go_wp2_with fail
    refine (pick_lit g 3 3 rfl (by decide) B (m + 60) _ (by omega) (by decide) hrd6).mono ?_
    rintro e w7 ⟨r7, rfl, hr7, -, hd7⟩
    have hI7 := hI6.keep hd7
    clear hd7 hI6 hrd6
    go_upto_if 40 with fail
    go_cut [] (fun wx => ∃ (its : List (Value × Hs)) (v : Value), 1 ≤ its.length ∧ its.length ≤ 3 ∧ CIn w0 wx B g (m + 90) b its v)
    case first =>
      by_cases hr0 : r7 = 0
      · subst hr0
        obtain ⟨i0, hi, hz0, hz1, hz2⟩ := info_parts Tryz.infoHs
        obtain ⟨x0, _⟩ := one_factC hI7.box
        have hI8 := (hI7.alloc (.cells #[.string ⟨#[116, 104, 114, 101, 101]⟩] 9)).alloc (.cells #[.slice (some ⟨w7.heap.size, 0, none⟩) 1 1, .int .i64 9999, .int .i64 2, .int .i64 40] 48)
        have hnew : NOwn g ((w7.alloc (.cells #[.string ⟨#[116, 104, 114, 101, 101]⟩] 9)).alloc (.cells #[.slice (some ⟨w7.heap.size, 0, none⟩) 1 1, .int .i64 9999, .int .i64 2, .int .i64 40] 48)) (.slice (some ⟨w7.heap.size, 0, none⟩) 1 1) [⟨#[116, 104, 114, 101, 101]⟩] := by
          refine ⟨w7.heap.size, 1, #[.string ⟨#[116, 104, 114, 101, 101]⟩], rfl, Nat.le_refl _, by decide, by have := hI7.drawn.1.lt; omega, ?_, fun j s hj => ?_⟩
          · rw [Below.heap_alloc _ _ _ (by simp)]; exact heap_alloc_new w7 _
          · match j, hj with
            | 0, hj => simpa using hj
        have hmore : ∀ W' v', ((w7.alloc (.cells #[.string ⟨#[116, 104, 114, 101, 101]⟩] 9)).alloc (.cells #[.slice (some ⟨w7.heap.size, 0, none⟩) 1 1, .int .i64 9999, .int .i64 2, .int .i64 40] 48)).grownBy W' (.slice a2 its2.length c2 : Value).ownBlock →
            W'.ownsRow w0.heap.size 48 4 v' (its2.length + 1) (icells its2 ++ [.slice (some ⟨w7.heap.size, 0, none⟩) 1 1, .int .i64 9999, .int .i64 2, .int .i64 40]) →
            W'.cell? ⟨b, 0, none⟩ = some (.slice a2 its2.length c2) ∧ W'.frozen? ⟨b, 0, none⟩ = false ∧ Hid (CIn w0 (W'.setCell ⟨b, 0, none⟩ v') B g (m + 60 + 1) b (its2 ++ [(.slice (some ⟨w7.heap.size, 0, none⟩) 1 1, ⟨[⟨#[116, 104, 114, 101, 101]⟩], 9999, 2, 40⟩)]) v') := fun W' v' hg' ho' => by
          obtain ⟨k1, k2, k3⟩ := hI8.setRow (.slice (some ⟨w7.heap.size, 0, none⟩) 1 1, ⟨[⟨#[116, 104, 114, 101, 101]⟩], 9999, 2, 40⟩) (hsm_lit (by decide)) ((hI8.grown hg').2.1 _ _ hnew) hg' ho'
          exact ⟨k1, k2, Lib.hid k3⟩
        have HM := Lib.hid hmore
        have hown := hI8.own
        have hsz7 := hI7.drawn.2.size
        clear hmore hI7 hnew hI8
        go_wp2_with (at_builtin; go_must (refine wpList_append_lies _ rfl _ _ 23 (by rfl) w0.heap.size 48 i0 _ 4 48 Tryz.underlying23 hi hz0 hz1 hz2 (by rfl) (by decide) _ its2.length (icells its2) (by rfl) hown ⟨w7.heap.size + 1, 0, none⟩ 1 1 [.slice (some ⟨w7.heap.size, 0, none⟩) 1 1, .int .i64 9999, .int .i64 2, .int .i64 40] (by rfl) (by rfl) (World.news_of_block (cs := #[.slice (some ⟨w7.heap.size, 0, none⟩) 1 1, .int .i64 9999, .int .i64 2, .int .i64 40]) (t := 48) (fr := (0, 0)) (by simpa using heap_alloc_new (w7.alloc (.cells #[.string ⟨#[116, 104, 114, 101, 101]⟩] 9)) (.cells #[.slice (some ⟨w7.heap.size, 0, none⟩) 1 1, .int .i64 9999, .int .i64 2, .int .i64 40] 48))) (by intro x hx; simp at hx; rcases hx with rfl | rfl | rfl | rfl <;> rfl) (by omega) (by unfold maxLen; omega) (by omega) (by simp; omega) (w7.heap.size + 1 + 1) (by simp) ?_); intro g3 cap w8 ho8 hg8 hat8 hlt8; obtain ⟨y0, p0, HJ⟩ := HM.out _ _ hg8 ho8; clear hg8)
        go_meet
        exact ⟨_, _, by simp, by simp; omega, HJ.out.mono (by omega)⟩
      · have n0 : ((r7 : Int) == 0) = false := by simp; omega
        go_wp2_with fail
        go_meet
        exact ⟨its2, _, by omega, by omega, hI7.mono (by omega)⟩
    case rest =>
      obtain ⟨its3, v3, hq1, hq2, hI9⟩ := hcut
      obtain ⟨a3, c3, rfl⟩ := own_form2 hI9.own
      obtain ⟨x0, _⟩ := one_factC hI9.box
      obtain ⟨y0, p0, z0, HX⟩ := HF.out _ _ _ _ _ hI9 (by omega) hq1 hq2
      clear hI9 hI7
      go_wp2
      exact bodyPost_ret (v := .agg #[.slice a3 its3.length c3]) (by simp [results, Tryz.results77, go_sem, z0]) rfl HX.out
end Go.Proofs.YtncegikmpapldaaGreatDoor

-- from XRegN
/- A region's law where what an operation leaves may look at which operations have run. -/
namespace Go.Proofs.YtncegikmpapldaaGreatDoor
open Go.RowKit

/-- A region whose last operation waits for all others; what is told of the world, and of what an operation left, may look at which operations have run. -/
theorem wp_region_lastN {P : Program} {ops : Array Oper} {Q : Exit → Act → World → Prop} {id : Nat} {w : World} (hm : P.follows .mixedOrders = true) (n : Nat) (hn : ops.size = n + 1) (ho : ordB ops = true) (hl : lastB ops n = true)
    (mk : (Nat → Value) → Act) (C : World → Prop) (R : Nat → (Nat → Prop) → Value → World → Prop) (le : Nat → World → World → Prop) (u0 : Nat → Value)
    (h0 : C w.drew)
    (hst : ∀ i j L v w w', i < n → j < n → i ≠ j → L i → ¬ L j → (∀ a, L a → ∀ d ∈ deps ops a, L d) → (∀ d ∈ deps ops j, L d) → C w → R i L v w → le j w w' → R i (fun a => a = j ∨ L a) v w')
    (hstep : ∀ i, i < n → ∀ (L : Nat → Prop) (u : Nat → Value) (w : World), ¬ L i → (∀ d ∈ deps ops i, L d) → C w → (∀ j ∈ deps ops i, R j L (u j) w) → wpOp P ops Q i (fun a' w' => ∃ v, a' = mk (upd u i v) ∧ R i (fun j => j = i ∨ L j) v w' ∧ le i w w' ∧ C w') (mk u) w)
    (hlast : ∀ (L : Nat → Prop) (u : Nat → Value) (w : World), C w → (∀ j, j < n → L j) → ¬ L n → (∀ j, j < n → R j L (u j) w) → wpOp P ops Q n (fun a' w' => Q .normal a' w') (mk u) w) :
    (Code.region id ops true).wp P Q (mk u0) w := by
  have hord : ∀ i, i < ops.size → ∀ j ∈ deps ops i, j < i := fun i hi j hj => by
    unfold ordB at ho
    rw [List.all_eq_true] at ho
    have h1 := ho i (List.mem_range.2 hi)
    rw [List.all_eq_true] at h1
    simpa using h1 j hj
  refine wp_region_inv hm (fun listed a w => (∀ i, On listed i → ∀ j ∈ deps ops i, On listed j) ∧ (On listed n → Q .normal a w) ∧ (¬ On listed n → ∃ u, a = mk u ∧ C w ∧ ∀ i, i < n → On listed i → R i (On listed) (u i) w)) ?_ ?_ ?_
  · refine ⟨fun i hi => ?_, fun h => ?_, fun _ => ⟨u0, rfl, h0, fun i _ hi => ?_⟩⟩
    · unfold On at hi; rw [Array.getD_eq_getD_getElem?, Array.getElem?_replicate] at hi; split at hi <;> simp at hi
    · unfold On at h; rw [Array.getD_eq_getD_getElem?, Array.getElem?_replicate] at h; split at h <;> simp at h
    · unfold On at hi; rw [Array.getD_eq_getD_getElem?, Array.getElem?_replicate] at hi; split at hi <;> simp at hi
  · intro listed a w hs ⟨hc, hA, hB⟩ i hi
    obtain ⟨hi1, hi2, hi3⟩ := ready_at hs hi
    have hcov : (∀ j ∈ deps ops n, On listed j) → ∀ j, j < n → On listed j := fun hd j hj => by
      unfold lastB at hl
      rw [List.all_eq_true] at hl
      have h1 := hl j (List.mem_range.2 hj)
      exact ancs_on hc _ _ hd j (by simpa using h1)
    have hnn : ¬ On listed n := fun h => by
      rcases Nat.lt_or_ge i n with hin | hin
      · exact hi2 (hcov (hc n h) i hin)
      · have : i = n := by omega
        subst this; exact hi2 h
    obtain ⟨u, rfl, hC, hR⟩ := hB hnn
    have hi' : i < listed.size := by omega
    have hcl : ∀ i', On (listed.setIfInBounds i true) i' → ∀ j ∈ deps ops i', On (listed.setIfInBounds i true) j := fun i' h j hj => by
      rw [on_set hi'] at h ⊢
      rcases h with rfl | h
      · exact .inr (hi3 j hj)
      · exact .inr (hc i' h j hj)
    rcases Nat.lt_or_ge i n with hin | hin
    · refine wpOp_mono ?_ (hstep i hin _ u w hi2 hi3 hC (fun j hj => hR j (by have := hord i hi1 j hj; omega) (hi3 j hj)))
      rintro a' w' ⟨v, rfl, hRi, hle, hC'⟩
      have hfun : On (listed.setIfInBounds i true) = fun j => j = i ∨ On listed j := funext fun j => propext (on_set hi')
      refine ⟨hcl, fun h => ?_, fun _ => ⟨_, rfl, hC', fun j hj hon => ?_⟩⟩
      · rw [on_set hi'] at h
        rcases h with h | h
        · omega
        · exact absurd h hnn
      · unfold upd
        rw [hfun]
        by_cases e : j = i
        · subst e; rw [if_pos rfl]; exact hRi
        · rw [if_neg e]
          rw [on_set hi'] at hon
          rcases hon with h | h
          · exact absurd h e
          · exact hst j i _ _ _ _ hj hin e h hi2 hc hi3 hC (hR j hj h) hle
    · have hin : i = n := by omega
      subst hin
      have hall := hcov hi3
      refine wpOp_mono ?_ (hlast _ u w hC hall hi2 (fun j hj => hR j hj (hall j hj)))
      intro a' w' hQ
      exact ⟨hcl, fun _ => hQ, fun h => absurd ((on_set hi').2 (.inl rfl)) h⟩
  · intro listed a w hs ⟨_, hA, _⟩ hr
    exact hA (all_on hs ho hr n (by omega))

end Go.Proofs.YtncegikmpapldaaGreatDoor

-- from XCfV
/- Walks: houses under the drawing, and one of them in a variable. -/
namespace Go.Proofs.YtncegikmpapldaaGreatDoor
open Go.RowKit

def HSm3 (h : Hs) : Prop := NOk h.names 40 ∧ 1 ≤ h.names.length ∧ h.names.length ≤ 3
theorem HSm.up {h : Hs} (k : HSm h) : HSm3 h := ⟨k.1, k.2.1, by have := k.2.2; omega⟩
theorem NOwn.below {g : Nat} {w w' : World} {u : Value} {ns : List ByteArray} (h : NOwn g w u ns) (hb : Below w.heap.size w w') : NOwn g w' u ns := by
  obtain ⟨b, c, cs, rfl, h1, h2, h3, h4, h5⟩ := h
  exact ⟨b, c, cs, rfl, h1, h2, h3, (hb.block b (Array.getElem?_eq_some_iff.1 h4).1).trans h4, h5⟩
theorem drawn_belowC {w0 w w' : World} {B g m : Nat} (h : Drawn w0 w B g m) (hb : Below w.heap.size w w') (hg : g < w0.heap.size) : Drawn w0 w' B g m :=
  drawn_grownC (row := none) h ⟨hb.os, hb.tape, hb.output, hb.size, fun k hk _ => hb.block k hk⟩ hg (fun _ e => by cases e)
theorem CIn.below {w0 W W' : World} {B g m b : Nat} {its : List (Value × Hs)} {v : Value} (h : CIn w0 W B g m b its v) (hb : Below W.heap.size W W') : CIn w0 W' B g m b its v :=
  h.keep (m' := m) ⟨h.drawn.1.keep fun k hk => hb.block k (by have := h.drawn.1.lt; omega), hb.os, hb.tape, hb.output, hb.size, fun k hk _ => hb.block k hk⟩

/-- One of the houses lies in a variable c, with texts u. -/
structure VIn (w0 W : World) (B g m b : Nat) (its : List (Value × Hs)) (v : Value) (c : Nat) (u : Value) (h : Hs) : Prop where
  cin : CIn w0 W B g m b its v
  var : W.heap[c]? = some (.cells #[u, .int .i64 h.key, .int .i64 h.maxN, .int .i64 h.maxB] 48 (0, 0))
  un : NOwn g W u h.names
  us : HSm3 h
  ne : v.ownBlock ≠ some c
  wc : w0.heap.size ≤ c
theorem VIn.lt {w0 W : World} {B g m b c : Nat} {its : List (Value × Hs)} {v u : Value} {h : Hs} (k : VIn w0 W B g m b its v c u h) : c < W.heap.size := (Array.getElem?_eq_some_iff.1 k.var).1
theorem VIn.bc {w0 W : World} {B g m b c : Nat} {its : List (Value × Hs)} {v u : Value} {h : Hs} (k : VIn w0 W B g m b its v c u h) : b ≠ c := other_block k.cin.box k.var (by decide)
theorem VIn.keep {w0 W W' : World} {B g m m' b c : Nat} {its : List (Value × Hs)} {v u : Value} {h : Hs} (k : VIn w0 W B g m b its v c u h) (hd : Drawn W W' B g m') : VIn w0 W' B g m' b its v c u h :=
  ⟨k.cin.keep hd, block_keep (by have := k.cin.gb; have := k.wc; omega) k.var hd.2, k.un.keep hd.2, k.us, k.ne, k.wc⟩
theorem VIn.mono {w0 W : World} {B g m m' b c : Nat} {its : List (Value × Hs)} {v u : Value} {h : Hs} (k : VIn w0 W B g m b its v c u h) (hm : m ≤ m') : VIn w0 W B g m' b its v c u h :=
  ⟨k.cin.mono hm, k.var, k.un, k.us, k.ne, k.wc⟩
theorem VIn.below {w0 W W' : World} {B g m b c : Nat} {its : List (Value × Hs)} {v u : Value} {h : Hs} (k : VIn w0 W B g m b its v c u h) (hb : Below W.heap.size W W') : VIn w0 W' B g m b its v c u h :=
  ⟨k.cin.below hb, (hb.block c k.lt).trans k.var, k.un.below hb, k.us, k.ne, k.wc⟩
theorem VIn.alloc {w0 W : World} {B g m b c : Nat} {its : List (Value × Hs)} {v u : Value} {h : Hs} (k : VIn w0 W B g m b its v c u h) (o : Obj) : VIn w0 (W.alloc o) B g m b its v c u h :=
  k.keep ((Drawn.refl k.cin.drawn.1).alloc o)
/-- The houses, when a cell of the variable is written. -/
theorem VIn.setCin {w0 W : World} {B g m b c : Nat} {its : List (Value × Hs)} {v u : Value} {h : Hs} (k : VIn w0 W B g m b its v c u h) (j : Nat) (x : Value) : CIn w0 (W.setCell ⟨c, j, none⟩ x) B g m b its v :=
  ⟨(heap_setCell_other W ⟨c, j, none⟩ b _ k.bc).trans k.cin.box, own_setC k.cin.own k.ne x, fun p hp => (k.cin.nms p hp).set k.var (by decide) j x, k.cin.ok, drawn_setC k.cin.drawn k.cin.gb k.wc j x, k.cin.gb, k.cin.wb⟩
theorem VIn.setNames {w0 W : World} {B g m b c : Nat} {its : List (Value × Hs)} {v u : Value} {h : Hs} (k : VIn w0 W B g m b its v c u h) {u' : Value} {ns : List ByteArray} (hn : NOwn g W u' ns) (hs : NOk ns 40 ∧ 1 ≤ ns.length ∧ ns.length ≤ 3) :
    VIn w0 (W.setCell ⟨c, 0, none⟩ u') B g m b its v c u' { h with names := ns } :=
  ⟨k.setCin 0 u', heap_setCell_same W c 0 _ _ u' k.var, hn.set k.var (by decide) 0 u', hs, k.ne, k.wc⟩
theorem VIn.setKey {w0 W : World} {B g m b c : Nat} {its : List (Value × Hs)} {v u : Value} {h : Hs} (k : VIn w0 W B g m b its v c u h) (x : Int) : VIn w0 (W.setCell ⟨c, 1, none⟩ (.int .i64 x)) B g m b its v c u { h with key := x } :=
  ⟨k.setCin 1 _, heap_setCell_same W c 1 _ _ (.int .i64 x) k.var, k.un.set k.var (by decide) 1 _, k.us, k.ne, k.wc⟩
theorem VIn.setMaxN {w0 W : World} {B g m b c : Nat} {its : List (Value × Hs)} {v u : Value} {h : Hs} (k : VIn w0 W B g m b its v c u h) (x : Int) : VIn w0 (W.setCell ⟨c, 2, none⟩ (.int .i64 x)) B g m b its v c u { h with maxN := x } :=
  ⟨k.setCin 2 _, heap_setCell_same W c 2 _ _ (.int .i64 x) k.var, k.un.set k.var (by decide) 2 _, k.us, k.ne, k.wc⟩
theorem VIn.setMaxB {w0 W : World} {B g m b c : Nat} {its : List (Value × Hs)} {v u : Value} {h : Hs} (k : VIn w0 W B g m b its v c u h) (x : Int) : VIn w0 (W.setCell ⟨c, 3, none⟩ (.int .i64 x)) B g m b its v c u { h with maxB := x } :=
  ⟨k.setCin 3 _, heap_setCell_same W c 3 _ _ (.int .i64 x) k.var, k.un.set k.var (by decide) 3 _, k.us, k.ne, k.wc⟩
theorem VIn.setRow {w0 W W' : World} {B g m b c : Nat} {its : List (Value × Hs)} {v u : Value} {h : Hs} (k : VIn w0 W B g m b its v c u h) (p : Value × Hs) (hp : HSm p.2) (hn : NOwn g W' p.1 p.2.names)
    (hg : W.grownBy W' v.ownBlock) {g3 cap : Nat} (ho : W'.ownsRow w0.heap.size 48 4 (.slice (some ⟨g3, 0, none⟩) (its.length + 1) cap) (its.length + 1) (icells its ++ icell p)) (hat : v.ownBlock = some g3 ∨ c < g3) :
    W'.cell? ⟨b, 0, none⟩ = some v ∧ W'.frozen? ⟨b, 0, none⟩ = false ∧ VIn w0 (W'.setCell ⟨b, 0, none⟩ (.slice (some ⟨g3, 0, none⟩) (its.length + 1) cap)) B g m b (its ++ [p]) (.slice (some ⟨g3, 0, none⟩) (its.length + 1) cap) c u h := by
  obtain ⟨k1, k2, k3⟩ := k.cin.setRow p hp hn hg ho
  obtain ⟨q1, q2, q3⟩ := k.cin.grown hg
  have hv : W'.heap[c]? = _ := (hg.block c k.lt (Ne.symm k.ne)).trans k.var
  refine ⟨k1, k2, k3, (heap_setCell_other W' ⟨b, 0, none⟩ c _ (Ne.symm k.bc)).trans hv, (q2 _ _ k.un).set q1 (by decide) 0 _, k.us, fun e => ?_, k.wc⟩
  have e2 : g3 = c := by simpa [Value.ownBlock] using e
  subst e2
  rcases hat with hat | hat
  · exact k.ne hat
  · omega

theorem HRowA.set {g : Nat} {w : World} {v : Value} {hs : List Hs} (h : HRowA g w v hs) {b : Nat} {ds : Array Value} {fr : Nat × Nat} (hb : w.heap[b]? = some (.cells ds 25 fr)) (j : Nat) (x : Value) : HRowA g (w.setCell ⟨b, j, none⟩ x) v hs := by
  obtain ⟨a, c, rfl, h1, h2, h3⟩ := h
  refine ⟨a, c, rfl, h1, h2, fun i y hj => ?_⟩
  obtain ⟨r, u, cs, k1, k2, k3, k4, k5, k6⟩ := h3 i y hj
  exact ⟨r, u, cs, k1, k2, (heap_setCell_other w ⟨b, j, none⟩ r _ (other_block k3 hb (by decide))).trans k3, k4, k5.set hb (by decide) j x, k6⟩

def setQ4 (W : World) (r k : Nat) (x0 x1 x2 x3 : Value) : World := (((W.setCell ⟨r, k, none⟩ x0).setCell ⟨r, k + 1, none⟩ x1).setCell ⟨r, k + 2, none⟩ x2).setCell ⟨r, k + 3, none⟩ x3
/-- The house of the variable takes its place among the houses. -/
theorem VIn.fin {w0 W : World} {B g m b c r cap k : Nat} {its : List (Value × Hs)} {u : Value} {h : Hs} (K : VIn w0 W B g m b its (.slice (some ⟨r, 0, none⟩) its.length cap) c u h) (hk : k < its.length) :
    (∃ x0 x1 x2 x3, W.cell? ⟨r, k * 4, none⟩ = some x0 ∧ W.cell? ⟨r, k * 4 + 1, none⟩ = some x1 ∧ W.cell? ⟨r, k * 4 + 2, none⟩ = some x2 ∧ W.cell? ⟨r, k * 4 + 3, none⟩ = some x3) ∧
    (W.frozen? ⟨r, k * 4, none⟩ = false ∧ W.frozen? ⟨r, k * 4 + 1, none⟩ = false ∧ W.frozen? ⟨r, k * 4 + 2, none⟩ = false ∧ W.frozen? ⟨r, k * 4 + 3, none⟩ = false) ∧
    HRowA g (setQ4 W r (k * 4) u (.int .i64 h.key) (.int .i64 h.maxN) (.int .i64 h.maxB)) (.slice (some ⟨r, 0, none⟩) its.length cap) ((its.map (·.2)).set k h) ∧
    (setQ4 W r (k * 4) u (.int .i64 h.key) (.int .i64 h.maxN) (.int .i64 h.maxB)).heap[b]? = some (.cells #[.slice (some ⟨r, 0, none⟩) its.length cap] 25 (0, 0)) ∧
    Drawn w0 (setQ4 W r (k * 4) u (.int .i64 h.key) (.int .i64 h.maxN) (.int .i64 h.maxB)) B g m := by
  have hown := K.cin.own
  rcases hown.2 with ⟨hx, _⟩ | ⟨c2, cap2, cur, hv, hB, hh, h1, h2, h3, h4⟩
  · cases hx
  obtain ⟨rfl, rfl⟩ : r = c2 ∧ cap = cap2 := by simpa using hv
  have hsz : k * 4 + 3 < cur.size := by omega
  have hgb := K.cin.gb
  have s1 := heap_setCell_same W r (k * 4) _ _ u hh
  have s2 := heap_setCell_same _ r (k * 4 + 1) _ _ (.int .i64 h.key) s1
  have s3 := heap_setCell_same _ r (k * 4 + 2) _ _ (.int .i64 h.maxN) s2
  have s4 := heap_setCell_same _ r (k * 4 + 3) _ _ (.int .i64 h.maxB) s3
  have hbr : b ≠ r := other_block K.cin.box hh (by decide)
  have hset : ∀ u' ns, NOwn g W u' ns → NOwn g (setQ4 W r (k * 4) u (.int .i64 h.key) (.int .i64 h.maxN) (.int .i64 h.maxB)) u' ns := fun u' ns hn =>
    (((hn.set hh (by decide) _ _).set s1 (by decide) _ _).set s2 (by decide) _ _).set s3 (by decide) _ _
  refine ⟨?_, ⟨by simp [World.frozen?, hh], by simp [World.frozen?, hh], by simp [World.frozen?, hh], by simp [World.frozen?, hh]⟩, ?_, ?_, ?_⟩
  · refine ⟨cur[k * 4], cur[k * 4 + 1], cur[k * 4 + 2], cur[k * 4 + 3], ?_, ?_, ?_, ?_⟩
    all_goals rw [cell_of_row W r _ cur _ (0, 0) hh]; exact Array.getElem?_eq_getElem _
  · refine ⟨_, cap, by rw [List.length_set, List.length_map], by rw [List.length_set, List.length_map]; exact h1, h2, fun j y hj => ?_⟩
    rw [List.getElem?_set, List.length_map] at hj
    by_cases e : k = j
    · subst e
      rw [if_pos rfl, if_pos hk] at hj
      cases hj
      refine ⟨r, u, _, rfl, by omega, s4, ?_, hset _ _ K.un, ?_, ?_, ?_⟩
      all_goals simp only [Array.getElem?_setIfInBounds, Array.size_setIfInBounds]
      · rw [if_neg (by omega), if_neg (by omega), if_neg (by omega), if_pos trivial, if_pos (by omega)]
      · rw [if_neg (by omega), if_neg (by omega), if_pos trivial, if_pos (by omega)]
      · rw [if_neg (by omega), if_pos trivial, if_pos (by omega)]
      · rw [if_pos trivial, if_pos (by omega)]
    · rw [if_neg e, List.getElem?_map] at hj
      obtain ⟨q, hq, rfl⟩ := Option.map_eq_some_iff.1 hj
      have hjl := (List.getElem?_eq_some_iff.1 hq).1
      have hat : ∀ i, i < 4 → cur[j * 4 + i]? = (icell q)[i]? := fun i hi => by
        rw [← icells_at i hq hi, ← h4, List.getElem?_take, if_pos (by omega), Array.getElem?_toList]
      refine ⟨r, q.1, _, rfl, by omega, s4, ?_, hset _ _ (K.cin.nms q (List.mem_of_getElem? hq)), ?_, ?_, ?_⟩
      all_goals simp only [Array.getElem?_setIfInBounds, Array.size_setIfInBounds]
      all_goals rw [if_neg (by omega), if_neg (by omega), if_neg (by omega), if_neg (by omega)]
      · exact hat 0 (by omega)
      · exact hat 1 (by omega)
      · exact hat 2 (by omega)
      · exact hat 3 (by omega)
  · unfold setQ4
    rw [heap_setCell_other _ ⟨r, _, none⟩ b _ hbr, heap_setCell_other _ ⟨r, _, none⟩ b _ hbr, heap_setCell_other _ ⟨r, _, none⟩ b _ hbr, heap_setCell_other _ ⟨r, _, none⟩ b _ hbr]
    exact K.cin.box
  · unfold setQ4
    exact drawn_setC (drawn_setC (drawn_setC (drawn_setC K.cin.drawn hgb hB _ _) hgb hB _ _) hgb hB _ _) hgb hB _ _
end Go.Proofs.YtncegikmpapldaaGreatDoor

-- from XCfO
/- Walks: the drawing of houses, one in so many with something wrong. -/
namespace Go.Proofs.YtncegikmpapldaaGreatDoor
open Go.RowKit

def DrawnOr (w : World) (B g m : Nat) (e : Ending) (w' : World) : Prop :=
  ∃ (hs : List Hs) (v : Value), e = .returned (.agg #[v]) ∧ HRowA g w' v hs ∧ (∀ h ∈ hs, HSm3 h) ∧ hs.length ≤ 5 ∧ Drawn w w' B g m
theorem four_factsC {w' : World} {g : Nat} {x0 x1 x2 x3 : Value} {T : TypeId} (h : w'.heap[g]? = some (.cells #[x0, x1, x2, x3] T (0, 0))) :
    w'.cell? ⟨g, 0, none⟩ = some x0 ∧ w'.cell? ⟨g, 1, none⟩ = some x1 ∧ w'.cell? ⟨g, 2, none⟩ = some x2 ∧ w'.cell? ⟨g, 3, none⟩ = some x3 ∧
    w'.frozen? ⟨g, 0, none⟩ = false ∧ w'.frozen? ⟨g, 1, none⟩ = false ∧ w'.frozen? ⟨g, 2, none⟩ = false ∧ w'.frozen? ⟨g, 3, none⟩ = false := by
  simp [World.cell?, World.frozen?, h]
/-- The cells of a house among the houses. -/
theorem CIn.cells {w0 W : World} {B g m b rb cap k : Nat} {its : List (Value × Hs)} {p : Value × Hs} (h : CIn w0 W B g m b its (.slice (some ⟨rb, 0, none⟩) its.length cap)) (hp : its[k]? = some p) :
    W.cell? ⟨rb, k * 4, none⟩ = some p.1 ∧ W.cell? ⟨rb, k * 4 + 1, none⟩ = some (.int .i64 p.2.key) ∧ W.cell? ⟨rb, k * 4 + 2, none⟩ = some (.int .i64 p.2.maxN) ∧ W.cell? ⟨rb, k * 4 + 3, none⟩ = some (.int .i64 p.2.maxB) := by
  have hk := (List.getElem?_eq_some_iff.1 hp).1
  rcases h.own.2 with ⟨hx, _⟩ | ⟨c2, cap2, cur, hv, hB, hh, h1, h2, h3, h4⟩
  · cases hx
  obtain ⟨rfl, rfl⟩ : rb = c2 ∧ cap = cap2 := by simpa using hv
  have hat : ∀ i, i < 4 → W.cell? ⟨rb, k * 4 + i, none⟩ = (icell p)[i]? := fun i hi => by
    rw [cell_of_row W rb _ cur _ (0, 0) hh, ← icells_at i hp hi, ← h4, List.getElem?_take, if_pos (by omega), Array.getElem?_toList]
  exact ⟨hat 0 (by omega), hat 1 (by omega), hat 2 (by omega), hat 3 (by omega)⟩
theorem numT_lenC (n : Int) : (numT n).length ≤ 6 := by
  unfold numT
  split
  · rename_i h; exact dec_len_le 5 _ (by omega)
  · simp
theorem add_noneD (b j : Nat) : (⟨b, 0, none⟩ : Addr).add j = ⟨b, j, none⟩ := by unfold Addr.add; split <;> simp_all
theorem Tryz.infoStrD : (Tryz.prog.info? 9).map (fun i => (i.zero, i.size, i.bytes)) = some (some (.string ⟨#[]⟩), 1, 16) := by kernel_rfl
theorem own_zeroD {W : World} {B c : Nat} {T : TypeId} (h : W.heap[c]? = some (.cells #[] T (0, 0))) (hB : B ≤ c) : W.ownsRow B T 1 (.slice (some ⟨c, 0, none⟩) 0 0) 0 [] :=
  ⟨rfl, .inr ⟨c, 0, #[], rfl, hB, h, Nat.le_refl _, by decide, rfl, rfl⟩⟩
theorem nown_of_own {W : World} {B g : Nat} {v : Value} {ns : List ByteArray} (h : W.ownsRow B 9 1 v ns.length (ns.map Value.string)) (hg : g < B) (hn : 0 < ns.length) : NOwn g W v ns := by
  rcases h.2 with ⟨_, h0⟩ | ⟨c, cap, cur, rfl, hB, hh, h1, h2, h3, h4⟩
  · omega
  · refine ⟨c, cap, cur, rfl, h1, h2, by omega, hh, fun j s hj => ?_⟩
    have hl := (List.getElem?_eq_some_iff.1 hj).1
    have e : (cur.toList.take (ns.length * 1))[j]? = some (Value.string s) := by rw [h4, List.getElem?_map, hj]; rfl
    rw [List.getElem?_take, if_pos (by omega), Array.getElem?_toList] at e
    exact e
def LeF (B0 j : Nat) (w w' : World) : Prop :=
  if j = 3 then ∃ r, B0 ≤ r ∧ w.heap[r]? = some (.cells #[] 9 (0, 0)) ∧ w.grownBy w' (some r) else if j = 12 then ∃ r, B0 ≤ r ∧ w.grownBy w' (some r) else w.grownBy w' none
theorem leF_none {B0 j : Nat} {w w' : World} (h3 : j ≠ 3) (h12 : j ≠ 12) (h : LeF B0 j w w') : w.grownBy w' none := by
  unfold LeF at h; rw [if_neg h3, if_neg h12] at h; exact h
theorem leF_mk {B0 j : Nat} {w w' : World} (h3 : j ≠ 3) (h12 : j ≠ 12) (h : w.grownBy w' none) : LeF B0 j w w' := by
  unfold LeF; rw [if_neg h3, if_neg h12]; exact h
theorem block_none {w w' : World} {c : Nat} {o : Obj} (h : w.heap[c]? = some o) (hg : w.grownBy w' none) : w'.heap[c]? = some o :=
  (hg.block c (Array.getElem?_eq_some_iff.1 h).1 (fun e => by cases e)).trans h
theorem own_none {w w' : World} {B n size : Nat} {e : TypeId} {v : Value} {xs : List Value} (h : w.ownsRow B e size v n xs) (hg : w.grownBy w' none) : w'.ownsRow B e size v n xs := by
  refine ⟨h.1, ?_⟩
  rcases h.2 with h | ⟨c, cap, cur, hv, hB, hh, rest⟩
  · exact .inl h
  · exact .inr ⟨c, cap, cur, hv, hB, block_none hh hg, rest⟩
theorem below_fresh {B : Nat} {w W W' : World} {r : Nat} (h : Below B w W) (hg : W.grownBy W' (some r)) (hr : B ≤ r) (hB : B ≤ W.heap.size) : Below B w W' :=
  ⟨hg.os.trans h.os, hg.tape.trans h.tape, hg.output.trans h.output, Nat.le_trans h.size hg.size, fun k hk => (hg.block k (by omega) (fun e => by injection e; omega)).trans (h.block k hk)⟩
/-- What the operations of the region that writes a house's names leave. -/
def RN (B0 n : Nat) (xs : List Value) (x0 : ByteArray) (E : Nat → Value) (i : Nat) (L : Nat → Prop) (v : Value) (w : World) : Prop :=
  if i = 0 then ∃ c, v = .slice (some ⟨c, 0, none⟩) 0 0 ∧ B0 ≤ c ∧ (¬ L 3 → w.heap[c]? = some (.cells #[] 9 (0, 0)))
  else if i = 3 then (¬ L 12 → w.ownsRow B0 9 1 v n xs)
  else if i = 11 then ∃ c, v = .slice (some ⟨c, 0, none⟩) 1 1 ∧ B0 ≤ c ∧ (¬ L 12 → w.heap[c]? = some (.cells #[.string x0] 9 (0, 0)))
  else if i = 12 then w.ownsRow B0 9 1 v (n + 1) (xs ++ [.string x0])
  else v = E i
theorem rn_eq {B0 n : Nat} {xs : List Value} {x0 : ByteArray} {E : Nat → Value} {i : Nat} {L : Nat → Prop} {v : Value} {w : World} (h0 : i ≠ 0) (h3 : i ≠ 3) (h11 : i ≠ 11) (h12 : i ≠ 12) : RN B0 n xs x0 E i L v w ↔ v = E i := by
  unfold RN; rw [if_neg h0, if_neg h3, if_neg h11, if_neg h12]
theorem rn_0 {B0 n : Nat} {xs : List Value} {x0 : ByteArray} {E : Nat → Value} {L : Nat → Prop} {v : Value} {w : World} : RN B0 n xs x0 E 0 L v w ↔ ∃ c, v = .slice (some ⟨c, 0, none⟩) 0 0 ∧ B0 ≤ c ∧ (¬ L 3 → w.heap[c]? = some (.cells #[] 9 (0, 0))) := by
  unfold RN; rw [if_pos rfl]
theorem rn_3 {B0 n : Nat} {xs : List Value} {x0 : ByteArray} {E : Nat → Value} {L : Nat → Prop} {v : Value} {w : World} : RN B0 n xs x0 E 3 L v w ↔ (¬ L 12 → w.ownsRow B0 9 1 v n xs) := by
  unfold RN; rw [if_neg (by decide), if_pos rfl]
theorem rn_11 {B0 n : Nat} {xs : List Value} {x0 : ByteArray} {E : Nat → Value} {L : Nat → Prop} {v : Value} {w : World} : RN B0 n xs x0 E 11 L v w ↔ ∃ c, v = .slice (some ⟨c, 0, none⟩) 1 1 ∧ B0 ≤ c ∧ (¬ L 12 → w.heap[c]? = some (.cells #[.string x0] 9 (0, 0))) := by
  unfold RN; rw [if_neg (by decide), if_neg (by decide), if_pos rfl]
theorem rn_12 {B0 n : Nat} {xs : List Value} {x0 : ByteArray} {E : Nat → Value} {L : Nat → Prop} {v : Value} {w : World} : RN B0 n xs x0 E 12 L v w ↔ w.ownsRow B0 9 1 v (n + 1) (xs ++ [.string x0]) := by
  unfold RN; rw [if_neg (by decide), if_neg (by decide), if_neg (by decide), if_pos rfl]
theorem rn_stay {B0 n : Nat} {xs : List Value} {x0 : ByteArray} {E : Nat → Value} {i j : Nat} {L : Nat → Prop} {v : Value} {w w' : World} (hij : i ≠ j) (hLi : L i) (hLj : ¬ L j) (h12 : L 12 → L 3) (hj : j = 12 → L 3)
    (hR : RN B0 n xs x0 E i L v w) (hle : LeF B0 j w w') : RN B0 n xs x0 E i (fun a => a = j ∨ L a) v w' := by
  by_cases i0 : i = 0
  · subst i0
    rw [rn_0] at hR ⊢
    obtain ⟨c, h1, h2, h3⟩ := hR
    refine ⟨c, h1, h2, fun hn => ?_⟩
    have j3 : j ≠ 3 := fun e => hn (.inl e.symm)
    have l3 : ¬ L 3 := fun e => hn (.inr e)
    exact block_none (h3 l3) (leF_none j3 (fun e => l3 (hj e)) hle)
  by_cases i3 : i = 3
  · subst i3
    rw [rn_3] at hR ⊢
    intro hn
    exact own_none (hR fun e => hn (.inr e)) (leF_none (Ne.symm hij) (fun e => hn (.inl e.symm)) hle)
  by_cases i11 : i = 11
  · subst i11
    rw [rn_11] at hR ⊢
    obtain ⟨c, h1, h2, h3⟩ := hR
    refine ⟨c, h1, h2, fun hn => ?_⟩
    have h4 := h3 fun e => hn (.inr e)
    by_cases j3 : j = 3
    · subst j3
      unfold LeF at hle
      rw [if_pos rfl] at hle
      obtain ⟨r, hr, hc, hg⟩ := hle
      exact (hg.block c (Array.getElem?_eq_some_iff.1 h4).1 (fun e => by injection e with e; subst e; rw [hc] at h4; cases h4)).trans h4
    · exact block_none h4 (leF_none j3 (fun e => hn (.inl e.symm)) hle)
  by_cases i12 : i = 12
  · subst i12
    rw [rn_12] at hR ⊢
    exact own_none hR (leF_none (fun e => hLj (by rw [e]; exact h12 hLi)) (Ne.symm hij) hle)
  rw [rn_eq i0 i3 i11 i12] at hR ⊢
  exact hR
/-- What stands of the houses' box and of the variable while the region runs. -/
def CRowV (N B0 : Nat) (w0 : World) (B g m b : Nat) (its : List (Value × Hs)) (v : Value) (c : Nat) (u : Value) (h : Hs) : (Nat → Prop) → Nat → World → Prop := fun L k W =>
  CRowC N B0 w0 B g m b its v L k W ∧ W.heap[c]? = some (.cells #[u, .int .i64 h.key, .int .i64 h.maxN, .int .i64 h.maxB] 48 (0, 0)) ∧ NOwn g W u h.names
theorem CRowV.keep {N : Nat} {w0 W W' : World} {B0 B g m b k i d c : Nat} {its : List (Value × Hs)} {v u : Value} {h : Hs} {L : Nat → Prop} (hC : CRowV N B0 w0 B g m b its v c u h L k W) (hc : g ≠ c) (hd : Drawn W W' B g (m + k + d)) (hd1 : d ≤ 1) : CRowV N B0 w0 B g m b its v c u h (fun j => j = i ∨ L j) (k + 1) W' :=
  ⟨hC.1.keep hd hd1, block_keep (Ne.symm hc) hC.2.1 hd.2, hC.2.2.keep hd.2⟩
theorem CRowV.same {N : Nat} {w0 W : World} {B0 B g m b k i c : Nat} {its : List (Value × Hs)} {v u : Value} {h : Hs} {L : Nat → Prop} (hC : CRowV N B0 w0 B g m b its v c u h L k W) : CRowV N B0 w0 B g m b its v c u h (fun j => j = i ∨ L j) (k + 1) W :=
  ⟨hC.1.same, hC.2⟩
theorem CRowV.alloc {N : Nat} {w0 W : World} {B0 B g m b k i c : Nat} {its : List (Value × Hs)} {v u : Value} {h : Hs} {L : Nat → Prop} (hC : CRowV N B0 w0 B g m b its v c u h L k W) (hc : g ≠ c) (o : Obj) : CRowV N B0 w0 B g m b its v c u h (fun j => j = i ∨ L j) (k + 1) (W.alloc o) :=
  hC.keep hc (d := 0) ((Drawn.refl hC.1.2.1.1).alloc o) (by omega)
theorem CRowV.app {N : Nat} {w0 W W' : World} {B0 B g m b k c : Nat} {its : List (Value × Hs)} {v u : Value} {h : Hs} {L : Nat → Prop} (hC : CRowV N B0 w0 B g m b its v c u h L k W) (hL : ¬ L N) (hok : ∀ p ∈ its, HSm p.2) (hne : v.ownBlock ≠ some c) (hg : W.grownBy W' v.ownBlock) :
    CRowV N B0 w0 B g m b its v c u h (fun j => j = N ∨ L j) (k + 1) W' := by
  refine ⟨hC.1.app hL hok hg, (hg.block c (Array.getElem?_eq_some_iff.1 hC.2.1).1 (Ne.symm hne)).trans hC.2.1, hC.2.2.grow hg fun r hr => ?_⟩
  obtain ⟨_, cs, hc⟩ := own_type (hC.1.2.2.1 hL) hr
  exact ⟨cs, _, _, hc, by decide⟩
def RAppV (g z c : Nat) (its : List (Value × Hs)) : Value → World → Prop := fun v w => RAppC g z its v w ∧ v.ownBlock ≠ some c
theorem stay_appv {g z c : Nat} {its : List (Value × Hs)} (hg : g < z) : Stay g (RAppV g z c its) := fun v w w' h hh => ⟨stay_appc hg v w w' h.1 hh, h.2⟩
theorem CRowV.fin {N : Nat} {w0 W : World} {B0 B g m b k c : Nat} {its : List (Value × Hs)} {v v' u : Value} {h : Hs} {L : Nat → Prop} (hC : CRowV N B0 w0 B g m b its v c u h L k W) (ha : RAppV g w0.heap.size c its v' W) (hok : ∀ p ∈ its, HSm p.2) (hs : HSm3 h) (hwc : w0.heap.size ≤ c) :
    W.cell? ⟨b, 0, none⟩ = some v ∧ W.frozen? ⟨b, 0, none⟩ = false ∧ ∃ p, VIn w0 (W.setCell ⟨b, 0, none⟩ v') B g (m + k) b (its ++ [p]) v' c u h := by
  obtain ⟨k1, k2, p, k3⟩ := hC.1.fin ha.1 hok
  have hbc : c ≠ b := Ne.symm (other_block hC.1.1 hC.2.1 (by decide))
  exact ⟨k1, k2, p, k3, (heap_setCell_other W ⟨b, 0, none⟩ c _ hbc).trans hC.2.1, hC.2.2.set hC.1.1 (by decide) 0 _, hs, ha.2, hwc⟩
def RSlit (B0 K : Nat) : Value → World → Prop := fun v w => ∃ (c : Nat) (s : ByteArray), v = .slice (some ⟨c, 0, none⟩) 1 1 ∧ B0 ≤ c ∧ w.heap[c]? = some (.cells #[.string s] 9 (0, 0)) ∧ s.size ≤ K
theorem stay2c_slit {g B0 K : Nat} {row : Option Nat} (hg : g < B0) (hr : ∀ r, row = some r → r < B0) : StayTwC g row (RSlit B0 K) := fun _ _ _ ⟨c, s, h1, h2, h3, h4⟩ hh => ⟨c, s, h1, h2, fresh_blockC hg hr h2 h3 hh, h4⟩
theorem stay2c_strC (g K : Nat) (row : Option Nat) : StayTwC g row (RStr K) := fun _ _ _ h _ => h
set_option maxRecDepth 100000 in
set_option maxHeartbeats 6400000 in
theorem cfgor_any (g B m : Nat) (q : Int) (w : World) (hm : m ≤ 400000) (hq : q ≤ 1000000) (h : RdAt w B g m) :
    Calls Tryz.prog 32 #[.pointer (some ⟨g, 0, none⟩), .int .i64 q] w (DrawnOr w B g (m + 400)) := by
  have hg := h.lt
  go_enter Tryz.func32, Tryz.ntmps32
  go_wp2_with fail
  obtain ⟨w0, hw0⟩ : ∃ w0, w0 = w.alloc (.cells #[.slice none 0 0] 25) := ⟨_, rfl⟩
  have h0 : RdAt w0 B g m := by rw [hw0]; exact h.alloc _
  have hs0 : w0.heap.size = w.heap.size + 1 := by rw [hw0]; simp
  have hg0 : g < w0.heap.size := by omega
  rw [← hw0]
  refine (cfg_any g B m w0 (by omega) h0).mono ?_
  rintro e w1 ⟨its, v, rfl, ho, hn, hok, hl1, hl3, hd1⟩
  obtain ⟨rb, cap, rfl, hrb, _⟩ := ho.form (by omega)
  obtain ⟨W2, hW2⟩ : ∃ W2, W2 = w1.alloc (.cells #[.slice (some ⟨rb, 0, none⟩) its.length cap] 25) := ⟨_, rfl⟩
  obtain ⟨b, hb⟩ : ∃ b, b = w1.heap.size := ⟨_, rfl⟩
  have hI : CIn w0 W2 B g (m + 100) b its (.slice (some ⟨rb, 0, none⟩) its.length cap) := by
    have hga : w1.grownBy W2 (some g) := by rw [hW2]; exact World.grownBy_alloc _ _ _
    refine ⟨?_, own_drawnC ho hg0 hga, fun p hp => (hn p hp).keep hga, hok, by rw [hW2]; exact hd1.alloc _, hg0, by have := hd1.2.size; omega⟩
    rw [hW2, hb]; exact heap_alloc_new w1 _
  have hfin : ∀ (W : World) (M : Nat) (hs : List Hs) (a : Option Addr) (n c : Nat), HRowA g W (.slice a n c) hs → (∀ h ∈ hs, HSm3 h) → hs.length ≤ 5 → Drawn w0 W B g M → M ≤ m + 400 →
      W.cell? ⟨w.heap.size, 0, none⟩ = some (.slice none 0 0) ∧ W.frozen? ⟨w.heap.size, 0, none⟩ = false ∧ (W.setCell ⟨w.heap.size, 0, none⟩ (.slice a n c)).cell? ⟨w.heap.size, 0, none⟩ = some (.slice a n c) ∧
      Hid (DrawnOr w B g (m + 400) (.returned (.agg #[.slice a n c])) (W.setCell ⟨w.heap.size, 0, none⟩ (.slice a n c))) := fun W M hs a n c hr hk hl hd hM => by
    have r0 : W.heap[w.heap.size]? = some (.cells #[.slice none 0 0] 25 (0, 0)) := by
      refine block_keep (by omega) ?_ hd.2
      rw [hw0]; exact heap_alloc_new w _
    have r1 := heap_setCell_same W w.heap.size 0 _ _ (.slice a n c) r0
    refine ⟨by simp [World.cell?, r0], by simp [World.frozen?, r0], by simp [World.cell?, r1], Lib.hid ⟨hs, _, rfl, hr.set r0 0 _, hk, hl, ?_⟩⟩
    have hW' : Drawn w W B g M := by rw [hw0] at hd; exact hd.of_alloc
    exact (drawn_setC hW' hg (Nat.le_refl _) 0 _).mono hM
  have HF := Lib.hid hfin
  have HW2 := Lib.hid hW2
  have hrd2 := hI.drawn.1
  clear hfin hW2 ho hn hok hd1 hrb
  go_wp2_with fail
  rw [← HW2.out, ← hb]
  refine (odd_anyC g q B (m + 100) W2 (by omega) (by omega) hrd2).mono ?_
  rintro e w3 ⟨od, rfl, hd3⟩
  have hI3 := hI.keep hd3
  have hrd3 := hI3.drawn.1
  clear hd3 hI hrd2 HW2 hb
  go_upto_if 12 with fail
  go_cut [] (fun wx => ∃ (hs : List Hs) (a : Option Addr) (n c : Nat), wx.heap[b]? = some (.cells #[.slice a n c] 25 (0, 0)) ∧ HRowA g wx (.slice a n c) hs ∧ (∀ h ∈ hs, HSm3 h) ∧ hs.length ≤ 5 ∧ Drawn w0 wx B g (m + 300))
  case first =>
    cases od
    · go_wp2_with fail
      go_meet
      exact ⟨_, _, _, _, hI3.box, hI3.row, fun x hx => by obtain ⟨p, hp, rfl⟩ := List.mem_map.1 hx; exact (hI3.ok p hp).up, by rw [List.length_map]; omega, hI3.drawn.mono (by omega)⟩
    · obtain ⟨x0, _⟩ := one_factC hI3.box
      go_wp2_with fail
      refine (pick_any g (its.length : Nat) B (m + 100 + 1) _ (by omega) (by omega) hrd3).mono ?_
      rintro e w4 ⟨k, rfl, hk, hd4⟩
      have hk' : k < its.length := by omega
      have hki : (k : Int) < (its.length : Int) := by omega
      have hI4 := hI3.keep hd4
      clear hI3 hrd3 hd4 x0 hk
      obtain ⟨p, hp⟩ : ∃ p, its[k]? = some p := ⟨_, List.getElem?_eq_getElem hk'⟩
      obtain ⟨c0, c1, c2, c3⟩ := hI4.cells hp
      obtain ⟨x0, _⟩ := one_factC hI4.box
      have hpm := List.mem_of_getElem? hp
      obtain ⟨nb, nc, hu, _⟩ := (hI4.nms p hpm).form
      have hph := hI4.ok p hpm
      have hV : VIn w0 (w4.alloc (.cells #[.slice (some ⟨nb, 0, none⟩) p.2.names.length nc, .int .i64 p.2.key, .int .i64 p.2.maxN, .int .i64 p.2.maxB] 48)) B g (m + 100 + 1 + 1) b its (.slice (some ⟨rb, 0, none⟩) its.length cap) w4.heap.size (.slice (some ⟨nb, 0, none⟩) p.2.names.length nc) p.2 := by
        refine ⟨hI4.alloc _, heap_alloc_new w4 _, ?_, (hI4.ok p hpm).up, fun e => ?_, by have := hI4.drawn.2.size; omega⟩
        · rw [← hu]; exact ((hI4.alloc _).nms p hpm)
        · obtain ⟨_, cs, hc⟩ := own_type hI4.own e
          have := (Array.getElem?_eq_some_iff.1 hc).1; omega
      rw [hu] at c0
      obtain ⟨W5, hW5⟩ : ∃ W5, W5 = w4.alloc (.cells #[.slice (some ⟨nb, 0, none⟩) p.2.names.length nc, .int .i64 p.2.key, .int .i64 p.2.maxN, .int .i64 p.2.maxB] 48) := ⟨_, rfl⟩
      rw [← hW5] at hV
      have hrd5 := hV.cin.drawn.1
      have HW5 := Lib.hid hW5
      clear hI4 hp hpm hu hW5
      go_wp2_with fail
      rw [← HW5.out]
      refine (pick_lit g 7 7 rfl (by decide) B (m + 100 + 1 + 1) _ (by omega) (by decide) hrd5).mono ?_
      rintro e w6 ⟨r, rfl, hr, hr', hd6⟩
      have hV6 := hV.keep hd6
      generalize p.2 = ph at hV6 hph
      have hrd6 := hd6.1
      clear hd6 hV hrd5 HW5 c0 c1 c2 c3 x0
      by_cases e0 : r = 0
      · subst e0
        obtain ⟨y0, p0, z0, HX⟩ := HF.out w6 _ [] none 0 0 ⟨none, 0, rfl, Nat.le_refl _, Nat.zero_le _, fun j x hj => by simp at hj⟩ (by simp) (by simp) hV6.cin.drawn (by omega)
        clear hV6
        go_wp2
        exact bodyPost_ret (v := .agg #[.slice none 0 0]) (by simp [results, Tryz.results32, go_sem, z0]) rfl HX.out
      · have n0 : ((r : Int) == 0) = false := by simp; omega
        go_upto_block 0 with fail
        go_cut [] (fun wx => ∃ (its : List (Value × Hs)) (rb cap : Nat) (u : Value) (h : Hs), VIn w0 wx B g (m + 250) b its (.slice (some ⟨rb, 0, none⟩) its.length cap) w4.heap.size u h ∧ k < its.length ∧ its.length ≤ 5)
        case first =>
          by_cases e1 : r = 1
          · subst e1
            obtain ⟨i0, hi, hz0, hz1, hz2⟩ := info_parts Tryz.infoStrD
            obtain ⟨p0, hp0⟩ : ∃ p0, its[0]? = some p0 := ⟨_, List.getElem?_eq_getElem (by omega)⟩
            obtain ⟨m0, _, _, _⟩ := hV6.cin.cells hp0
            have hp0m := List.mem_of_getElem? hp0
            obtain ⟨nb0, nc0, hu0, _, _, _, hnl0, hnc0⟩ := (hV6.cin.nms p0 hp0m).form
            have hok0 := hV6.cin.ok p0 hp0m
            obtain ⟨x0, hx0⟩ : ∃ x0, p0.2.names[0]? = some x0 := ⟨_, List.getElem?_eq_getElem (by have := hok0.2.1; omega)⟩
            have hxs : x0.size ≤ 40 := hok0.1 x0 (List.mem_of_getElem? hx0)
            have hl0 := hok0.2.1
            obtain ⟨nbx, ncx, hux, hle1, hle2, _, hnl, hncs⟩ := hV6.un.form
            obtain ⟨rfl, rfl⟩ : nb = nbx ∧ nc = ncx := by simpa using hux
            obtain ⟨v0, v1, v2, v3, _⟩ := four_factsC hV6.var
            obtain ⟨bx0, _⟩ := one_factC hV6.cin.box
            rw [hu0] at m0
            have hphl := hph.2
            have hvlt := hV6.lt
            have hblt := hV6.cin.lt
            have hrlt := World.block_lt_of_cell? w6 _ m0
            unfold maxLen at hle2
            have hB : ∀ W, Below w6.heap.size w6 W → W.cell? ⟨b, 0, none⟩ = some (.slice (some ⟨rb, 0, none⟩) its.length cap) ∧ W.cell? ⟨w4.heap.size, 0, none⟩ = some (.slice (some ⟨nb, 0, none⟩) ph.names.length nc) ∧ W.cell? ⟨rb, 0, none⟩ = some (.slice (some ⟨nb0, 0, none⟩) p0.2.names.length nc0) ∧ W.cell? ⟨nb0, 0, none⟩ = some (.string x0) ∧
                (∀ j x, (ph.names.map Value.string)[j]? = some x → W.cell? ((⟨nb, 0, none⟩ : Addr).add j) = some x) := fun W hW => by
              refine ⟨(hW.cell (p := ⟨b, 0, none⟩) hblt).trans bx0, (hW.cell (p := ⟨w4.heap.size, 0, none⟩) hvlt).trans v0, (hW.cell (p := ⟨rb, 0, none⟩) hrlt).trans (by simpa using m0), (hW.cell (p := ⟨nb0, 0, none⟩) hnl0).trans (hnc0 0 x0 hx0), fun j x hj => ?_⟩
              rw [List.getElem?_map] at hj
              obtain ⟨s, hs, rfl⟩ := Option.map_eq_some_iff.1 hj
              rw [add_noneD]
              exact (hW.cell (p := ⟨nb, j, none⟩) hnl).trans (hncs j s hs)
            have HB := Lib.hid hB
            have HV6 := Lib.hid hV6
            have hgl : g < w6.heap.size := hrd6.lt
            clear hB m0 hu0 hnc0 hx0 hok0 hncs hux v0 v1 v2 v3 bx0 hV6 hp0 hp0m hrd6
            go_upto_region 11 with fail
            refine wp_region_lastN (by kernel_rfl) 14 (by kernel_rfl) (by kernel_rfl) (by kernel_rfl)
              (fun u => { tmps := #[.pointer (some ⟨g, 0, none⟩), .int .i64 q, undef, undef, .pointer (some ⟨w.heap.size, 0, none⟩), .pointer (some ⟨b, 0, none⟩), .int .i64 (k : Int), .pointer (some ⟨w4.heap.size, 0, none⟩), .pointer (some ⟨g, 0, none⟩), .agg #[.slice (some ⟨rb, 0, none⟩) its.length cap], .pointer (some ⟨g, 0, none⟩), .int .i64 q, .bool true, .pointer (some ⟨g, 0, none⟩), .pointer (some ⟨b, 0, none⟩), .slice (some ⟨rb, 0, none⟩) its.length cap, .int .i64 (its.length : Int), .int .i64 (k : Int), .pointer (some ⟨b, 0, none⟩), .slice (some ⟨rb, 0, none⟩) its.length cap, .int .i64 (k : Int), .pointer (some ⟨rb, k * 4, none⟩), .agg #[.slice (some ⟨nb, 0, none⟩) ph.names.length nc, .int .i64 ph.key, .int .i64 ph.maxN, .int .i64 ph.maxB], .pointer (some ⟨g, 0, none⟩), .int .i64 ((1 : Nat) : Int), undef, undef, undef, undef, undef, undef, undef, undef, undef, undef, undef, undef, undef, undef, undef, undef, .bool false, .bool false, undef, .bool true, .bool true, u 0, u 1, u 2, u 3, u 4, u 5, u 6, u 7, u 8, u 9, u 10, u 11, u 12, u 13, undef, undef, undef, undef, undef, undef, undef, undef, undef, undef, undef, undef, undef, undef, undef, undef, undef, undef, undef, undef, undef, undef, undef, undef, undef, undef, undef, undef, undef, undef, undef, undef, undef, undef, undef, undef, undef, undef, undef], defers := [] })
              (fun W => Below w6.heap.size w6 W)
              (RN w6.heap.size ph.names.length (ph.names.map Value.string) x0 (fun i => ([undef, .pointer (some ⟨w4.heap.size, 0, none⟩), .slice (some ⟨nb, 0, none⟩) ph.names.length nc, undef, .pointer (some ⟨b, 0, none⟩), .slice (some ⟨rb, 0, none⟩) its.length cap, .pointer (some ⟨rb, 0, none⟩), .pointer (some ⟨rb, 0, none⟩), .slice (some ⟨nb0, 0, none⟩) p0.2.names.length nc0, .pointer (some ⟨nb0, 0, none⟩), .string x0, undef, undef, .pointer (some ⟨w4.heap.size, 0, none⟩)] : List Value).getD i undef))
              (LeF w6.heap.size) (fun _ => undef) (Below.refl _ _).drew ?_ ?_ ?_
            · intro i j L v W W' _ _ hij hLi hLj hcl hdj _ hR hle
              exact rn_stay hij hLi hLj (fun h => hcl 12 h 3 (dep_of (by kernel_rfl))) (fun e => hdj 3 (by subst e; exact dep_of (by kernel_rfl))) hR hle
            · intro i hi' L u W hL hdL hC hd
              have hsz : w6.heap.size ≤ W.heap.size := hC.size
              match i, hi' with
              | 0, _ =>
                refine wpOp_step rfl (fun K hK => ?_)
                clear hd
                go_simp
                exact hK _ _ ⟨_, rfl, rn_0.2 ⟨_, rfl, hsz, fun _ => heap_alloc_new W _⟩, leF_mk (by decide) (by decide) (World.grownBy_alloc _ _ _), hC.alloc hsz _⟩
              | 1, _ =>
                refine wpOp_step rfl (fun K hK => ?_)
                clear hd
                go_simp
                exact hK _ _ ⟨_, rfl, (rn_eq (i := 1) (by decide) (by decide) (by decide) (by decide)).2 rfl, leF_mk (by decide) (by decide) (World.grownBy.refl _ _), hC⟩
              | 2, _ =>
                have e1 : u 1 = .pointer (some ⟨w4.heap.size, 0, none⟩) := (rn_eq (i := 1) (by decide) (by decide) (by decide) (by decide)).1 (hd 1 (dep_of (by kernel_rfl)))
                obtain ⟨t0, t1, t2, t3, t4⟩ := HB.out W hC
                refine wpOp_step rfl (fun K hK => ?_)
                clear hd
                go_simp
                exact hK _ _ ⟨_, by simp [upd, e1], (rn_eq (i := 2) (by decide) (by decide) (by decide) (by decide)).2 rfl, leF_mk (by decide) (by decide) (World.grownBy.refl _ _), hC⟩
              | 3, _ =>
                obtain ⟨c, e0, hcB, hc0⟩ := rn_0.1 (hd 0 (dep_of (by kernel_rfl)))
                have e2 : u 2 = .slice (some ⟨nb, 0, none⟩) ph.names.length nc := (rn_eq (i := 2) (by decide) (by decide) (by decide) (by decide)).1 (hd 2 (dep_of (by kernel_rfl)))
                obtain ⟨_, _, _, _, t4⟩ := HB.out W hC
                have hz0' := hc0 hL
                refine wpOp_step rfl (fun K hK => ?_)
                clear hd
                refine wp_append_lies _ (.tmp 46) (.tmp 48) 46 (by rfl) w6.heap.size 9 i0 _ 1 16 Tryz.underlying46 hi hz0 hz1 hz2 (by rfl) (by decide) (.slice (some ⟨c, 0, none⟩) 0 0) 0 [] (by exact e0) (own_zeroD hz0' hcB) ⟨nb, 0, none⟩ ph.names.length nc (ph.names.map Value.string) (by exact e2) (by simp) t4 (by intro x hx; obtain ⟨s, _, rfl⟩ := List.mem_map.1 hx; rfl) (by omega) (by unfold maxLen; omega) (by omega) hsz W.heap.size rfl ?_
                intro g3 cap3 w7 ho7 hg7 _ _
                rw [Nat.zero_add, List.nil_append] at ho7
                rw [Nat.zero_add]
                refine hK _ _ ⟨_, rfl, rn_3.2 fun _ => ho7, ?_, below_fresh hC hg7 hcB hsz⟩
                unfold LeF; rw [if_pos rfl]; exact ⟨c, hcB, hz0', hg7⟩
              | 4, _ =>
                refine wpOp_step rfl (fun K hK => ?_)
                clear hd
                go_simp
                exact hK _ _ ⟨_, rfl, (rn_eq (i := 4) (by decide) (by decide) (by decide) (by decide)).2 rfl, leF_mk (by decide) (by decide) (World.grownBy.refl _ _), hC⟩
              | 5, _ =>
                have e4 : u 4 = .pointer (some ⟨b, 0, none⟩) := (rn_eq (i := 4) (by decide) (by decide) (by decide) (by decide)).1 (hd 4 (dep_of (by kernel_rfl)))
                obtain ⟨t0, t1, t2, t3, t4⟩ := HB.out W hC
                refine wpOp_step rfl (fun K hK => ?_)
                clear hd
                go_simp
                exact hK _ _ ⟨_, by simp [upd, e4], (rn_eq (i := 5) (by decide) (by decide) (by decide) (by decide)).2 rfl, leF_mk (by decide) (by decide) (World.grownBy.refl _ _), hC⟩
              | 6, _ =>
                have e5 : u 5 = .slice (some ⟨rb, 0, none⟩) its.length cap := (rn_eq (i := 5) (by decide) (by decide) (by decide) (by decide)).1 (hd 5 (dep_of (by kernel_rfl)))
                have hpos : (0 : Int) < (its.length : Int) := by omega
                have hposN : 0 < its.length := by omega
                have hpne : ¬ its = [] := fun e => by rw [e] at hposN; simp at hposN
                refine wpOp_step rfl (fun K hK => ?_)
                clear hd
                go_simp
                exact hK _ _ ⟨_, by simp [upd, e5], (rn_eq (i := 6) (by decide) (by decide) (by decide) (by decide)).2 rfl, leF_mk (by decide) (by decide) (World.grownBy.refl _ _), hC⟩
              | 7, _ =>
                have e6 : u 6 = .pointer (some ⟨rb, 0, none⟩) := (rn_eq (i := 6) (by decide) (by decide) (by decide) (by decide)).1 (hd 6 (dep_of (by kernel_rfl)))
                refine wpOp_step rfl (fun K hK => ?_)
                clear hd
                go_simp
                exact hK _ _ ⟨_, by simp [upd, e6], (rn_eq (i := 7) (by decide) (by decide) (by decide) (by decide)).2 rfl, leF_mk (by decide) (by decide) (World.grownBy.refl _ _), hC⟩
              | 8, _ =>
                have e7 : u 7 = .pointer (some ⟨rb, 0, none⟩) := (rn_eq (i := 7) (by decide) (by decide) (by decide) (by decide)).1 (hd 7 (dep_of (by kernel_rfl)))
                obtain ⟨t0, t1, t2, t3, t4⟩ := HB.out W hC
                refine wpOp_step rfl (fun K hK => ?_)
                clear hd
                go_simp
                exact hK _ _ ⟨_, by simp [upd, e7], (rn_eq (i := 8) (by decide) (by decide) (by decide) (by decide)).2 rfl, leF_mk (by decide) (by decide) (World.grownBy.refl _ _), hC⟩
              | 9, _ =>
                have e8 : u 8 = .slice (some ⟨nb0, 0, none⟩) p0.2.names.length nc0 := (rn_eq (i := 8) (by decide) (by decide) (by decide) (by decide)).1 (hd 8 (dep_of (by kernel_rfl)))
                have hpos : (0 : Int) < (p0.2.names.length : Int) := by omega
                have hposN : 0 < p0.2.names.length := by omega
                have hpne : ¬ p0.2.names = [] := fun e => by rw [e] at hposN; simp at hposN
                refine wpOp_step rfl (fun K hK => ?_)
                clear hd
                go_simp
                exact hK _ _ ⟨_, by simp [upd, e8], (rn_eq (i := 9) (by decide) (by decide) (by decide) (by decide)).2 rfl, leF_mk (by decide) (by decide) (World.grownBy.refl _ _), hC⟩
              | 10, _ =>
                have e9 : u 9 = .pointer (some ⟨nb0, 0, none⟩) := (rn_eq (i := 9) (by decide) (by decide) (by decide) (by decide)).1 (hd 9 (dep_of (by kernel_rfl)))
                obtain ⟨t0, t1, t2, t3, t4⟩ := HB.out W hC
                refine wpOp_step rfl (fun K hK => ?_)
                clear hd
                go_simp
                exact hK _ _ ⟨_, by simp [upd, e9], (rn_eq (i := 10) (by decide) (by decide) (by decide) (by decide)).2 rfl, leF_mk (by decide) (by decide) (World.grownBy.refl _ _), hC⟩
              | 11, _ =>
                have e10 : u 10 = .string x0 := (rn_eq (i := 10) (by decide) (by decide) (by decide) (by decide)).1 (hd 10 (dep_of (by kernel_rfl)))
                refine wpOp_step rfl (fun K hK => ?_)
                clear hd
                go_simp
                exact hK _ _ ⟨_, by simp [upd, e10], rn_11.2 ⟨_, rfl, hsz, fun _ => heap_alloc_new W _⟩, leF_mk (by decide) (by decide) (World.grownBy_alloc _ _ _), hC.alloc hsz _⟩
              | 12, _ =>
                have ho3 := rn_3.1 (hd 3 (dep_of (by kernel_rfl))) hL
                obtain ⟨c, e11, hcB, hc0⟩ := rn_11.1 (hd 11 (dep_of (by kernel_rfl)))
                have hz0' := hc0 hL
                obtain ⟨g4, cap4, e3, hB4, _⟩ := ho3.form (by omega)
                rw [e3] at ho3
                refine wpOp_step rfl (fun K hK => ?_)
                clear hd
                refine wp_append_lies _ (.tmp 49) (.tmp 57) 46 (by rfl) w6.heap.size 9 i0 _ 1 16 Tryz.underlying46 hi hz0 hz1 hz2 (by rfl) (by decide) (.slice (some ⟨g4, 0, none⟩) ph.names.length cap4) ph.names.length (ph.names.map Value.string) (by exact e3) ho3 ⟨c, 0, none⟩ 1 1 [.string x0] (by exact e11) (by rfl) (World.news_of_block hz0') (by intro x hx; simp at hx; subst hx; rfl) (by omega) (by unfold maxLen; omega) (by omega) hsz W.heap.size rfl ?_
                intro g3 cap3 w7 ho7 hg7 _ _
                refine hK _ _ ⟨_, rfl, rn_12.2 ho7, ?_, below_fresh hC hg7 hB4 hsz⟩
                unfold LeF; rw [if_neg (by decide), if_pos rfl]; exact ⟨g4, hB4, hg7⟩
              | 13, _ =>
                refine wpOp_step rfl (fun K hK => ?_)
                clear hd
                go_simp
                exact hK _ _ ⟨_, rfl, (rn_eq (i := 13) (by decide) (by decide) (by decide) (by decide)).2 rfl, leF_mk (by decide) (by decide) (World.grownBy.refl _ _), hC⟩
              | i + 14, h14 => exact absurd h14 (by omega)
            · intro L u W hC hall hLn hd
              have ho := rn_12.1 (hd 12 (by decide))
              have e13 : u 13 = .pointer (some ⟨w4.heap.size, 0, none⟩) := (rn_eq (i := 13) (by decide) (by decide) (by decide) (by decide)).1 (hd 13 (by decide))
              obtain ⟨g5, cap5, e12, hB5, _⟩ := ho.form (by omega)
              rw [e12] at ho
              have hn : NOwn g W (.slice (some ⟨g5, 0, none⟩) (ph.names.length + 1) cap5) (ph.names ++ [x0]) := nown_of_own (B := w6.heap.size) (by simpa using ho) hgl (by simp)
              have hV := (HV6.out.below hC).setNames hn ⟨fun s hs => by
                rcases List.mem_append.1 hs with hs | hs
                · exact hph.1 s hs
                · rw [List.mem_singleton.1 hs]; exact hxs, by simp, by simp; omega⟩
              obtain ⟨v0, v1, v2, v3, f0, f1, f2, f3⟩ := four_factsC (HV6.out.below hC).var
              have HV := Lib.hid hV
              clear ho hn hV hd hi hz0 hz1 hz2
              refine wpOp_step rfl (fun K hK => ?_)
              go_simp
              refine hK _ _ ?_
              clear hK K
              go_wp2
              go_meet
              exact ⟨its, rb, cap, _, _, HV.out.mono (by omega), hk', by omega⟩
          · have n1 : ((r : Int) == 1) = false := by simp; omega
            by_cases e2 : r = 2
            · subst e2
              go_wp2_with fail
              refine (pick_lit g 3 3 rfl (by decide) B (m + 100 + 1 + 1 + 1) _ (by omega) (by decide) (hrd6.alloc _)).mono ?_
              rintro e w7 ⟨r7, rfl, hr7, hr7', hd7⟩
              obtain ⟨s, hs, hsk⟩ := lit_str (K := 40) hd7 hrd6.lt (by decide) r7 (by simp; omega)
              have hV7 := hV6.keep hd7.of_alloc
              have hV8 := hV7.alloc (.cells #[.string s] 9)
              have hgl := hV7.cin.drawn.1.lt
              have hn : NOwn g (w7.alloc (.cells #[.string s] 9)) (.slice (some ⟨w7.heap.size, 0, none⟩) 1 1) [s] := ⟨w7.heap.size, 1, #[.string s], rfl, Nat.le_refl _, by decide, by omega, heap_alloc_new w7 _, fun j t hj => by
                match j, hj with
                | 0, hj => simpa using hj⟩
              obtain ⟨v0, v1, v2, v3, f0, f1, f2, f3⟩ := four_factsC hV8.var
              have HV9 := Lib.hid (hV8.setNames hn ⟨fun t ht => by rw [List.mem_singleton.1 ht]; exact hsk, by simp, by simp⟩)
              have hr7i : (r7 : Int) < 3 := by omega
              clear hV6 hV7 hV8 hd7 hrd6 hr7 hgl hn
              go_wp2
              go_meet
              exact ⟨its, rb, cap, _, _, HV9.out.mono (by omega), hk', by omega⟩
            · have n2 : ((r : Int) == 2) = false := by simp; omega
              by_cases e3 : r = 3
              · subst e3
                have hV6b := four_factsC hV6.var
                go_wp2_with fail
                refine (pick_lit g 2 2 rfl (by decide) B (m + 100 + 1 + 1 + 1) _ (by omega) (by decide) (hrd6.alloc _)).mono ?_
                rintro e w7 ⟨r7, rfl, hr7, hr7', hd7⟩
                obtain ⟨x, hx, hx0, hx1⟩ := lit_int (lo := 0) (hi := 20000) hd7 hrd6.lt (by repeat (first | exact trivial | refine ⟨⟨_, rfl, by omega, by omega⟩, ?_⟩)) r7 (by simp; omega)
                have hV7 := hV6.keep hd7.of_alloc
                obtain ⟨v0, v1, v2, v3, f0, f1, f2, f3⟩ := four_factsC hV7.var
                have HV9 := Lib.hid (hV7.setKey x)
                have hr7i : (r7 : Int) < 2 := by omega
                clear hV6 hV7 hd7 hrd6 hV6b hr7
                go_wp2
                go_meet
                exact ⟨its, rb, cap, _, _, HV9.out.mono (by omega), hk', by omega⟩
              · have n3 : ((r : Int) == 3) = false := by simp; omega
                by_cases e4 : r = 4
                · subst e4
                  have hV6b := four_factsC hV6.var
                  go_wp2_with fail
                  refine (pick_lit g 2 2 rfl (by decide) B (m + 100 + 1 + 1 + 1) _ (by omega) (by decide) (hrd6.alloc _)).mono ?_
                  rintro e w7 ⟨r7, rfl, hr7, hr7', hd7⟩
                  obtain ⟨x, hx, hx0, hx1⟩ := lit_int (lo := 0) (hi := 20000) hd7 hrd6.lt (by repeat (first | exact trivial | refine ⟨⟨_, rfl, by omega, by omega⟩, ?_⟩)) r7 (by simp; omega)
                  have hV7 := hV6.keep hd7.of_alloc
                  obtain ⟨v0, v1, v2, v3, f0, f1, f2, f3⟩ := four_factsC hV7.var
                  have HV9 := Lib.hid (hV7.setMaxN x)
                  have hr7i : (r7 : Int) < 2 := by omega
                  clear hV6 hV7 hd7 hrd6 hV6b hr7
                  go_wp2
                  go_meet
                  exact ⟨its, rb, cap, _, _, HV9.out.mono (by omega), hk', by omega⟩
                · have n4 : ((r : Int) == 4) = false := by simp; omega
                  by_cases e5 : r = 5
                  · subst e5
                    have hV6b := four_factsC hV6.var
                    go_wp2_with fail
                    refine (pick_lit g 2 2 rfl (by decide) B (m + 100 + 1 + 1 + 1) _ (by omega) (by decide) (hrd6.alloc _)).mono ?_
                    rintro e w7 ⟨r7, rfl, hr7, hr7', hd7⟩
                    obtain ⟨x, hx, hx0, hx1⟩ := lit_int (lo := 0) (hi := 20000) hd7 hrd6.lt (by repeat (first | exact trivial | refine ⟨⟨_, rfl, by omega, by omega⟩, ?_⟩)) r7 (by simp; omega)
                    have hV7 := hV6.keep hd7.of_alloc
                    obtain ⟨v0, v1, v2, v3, f0, f1, f2, f3⟩ := four_factsC hV7.var
                    have HV9 := Lib.hid (hV7.setMaxB x)
                    have hr7i : (r7 : Int) < 2 := by omega
                    clear hV6 hV7 hd7 hrd6 hV6b hr7
                    go_wp2
                    go_meet
                    exact ⟨its, rb, cap, _, _, HV9.out.mono (by omega), hk', by omega⟩
                  · have n5 : ((r : Int) == 5) = false := by simp; omega
                    have hVa := hV6
                    go_wp2_with fail
                    go_loopw [] (fun wr => ∃ (its : List (Value × Hs)) (rb cap : Nat), VIn w0 wr B g (m + 105 + 20 * its.length) b its (.slice (some ⟨rb, 0, none⟩) its.length cap) w4.heap.size (.slice (some ⟨nb, 0, none⟩) ph.names.length nc) ph ∧ k < its.length ∧ its.length ≤ 5) (fun wr => match wr.cell? ⟨b, 0, none⟩ with | some (.slice _ n _) => 20 - n | _ => 0)
                    case atStart => exact ⟨its, rb, cap, hV6.mono (by omega), hk', by omega⟩
                    case round =>
                      obtain ⟨its2, rb2, cap2, hV, hk2, hl5⟩ := hrel
                      obtain ⟨x0, _⟩ := one_factC hV.cin.box
                      clear hV6 hVa hk' hki
                      by_cases hlt : its2.length ≤ 4
                      · have hlti : (its2.length : Int) ≤ 4 := by omega
                        have hNT := fun W => spec_numtext (its2.length : Int) W
                        obtain ⟨N, hN⟩ : ∃ N, N = numT (its2.length : Int) := ⟨_, rfl⟩
                        have hnl : N.length ≤ 6 := by rw [hN]; exact numT_lenC _
                        rw [← hN] at hNT
                        obtain ⟨i0, hi, hz0, hz1, hz2⟩ := info_parts Tryz.infoHs
                        have hsz : (⟨N.toArray⟩ : ByteArray).size ≤ 6 := by rw [size_len]; simpa using hnl
                        have hvlt := hV.lt
                        have hg5 : g < wr.heap.size := hV.cin.drawn.1.lt
                        have hVne := hV.ne
                        have hVok := hV.cin.ok
                        have hVus := hV.us
                        have hwc := hV.wc
                        have hgc : g ≠ w4.heap.size := by omega
                        have hrow : ∀ r, (Value.ownBlock (.slice (some ⟨rb2, 0, none⟩) its2.length cap2)) = some r → r < wr.heap.size := fun r hr => by
                          obtain ⟨_, cs, hc⟩ := own_type hV.cin.own hr
                          exact (Array.getElem?_eq_some_iff.1 hc).1
                        have HX0 := Lib.hid x0
                        clear hN hnl
                        go_upto_region 7 with fail
                        refine wp_region_lastL (by kernel_rfl) 12 (by kernel_rfl) (by kernel_rfl) (by kernel_rfl)
                          (fun u => { tmps := #[.pointer (some ⟨g, 0, none⟩), .int .i64 q, undef, undef, .pointer (some ⟨w.heap.size, 0, none⟩), .pointer (some ⟨b, 0, none⟩), .int .i64 (k : Int), .pointer (some ⟨w4.heap.size, 0, none⟩), .pointer (some ⟨g, 0, none⟩), .agg #[.slice (some ⟨rb, 0, none⟩) its.length cap], .pointer (some ⟨g, 0, none⟩), .int .i64 q, .bool true, .pointer (some ⟨g, 0, none⟩), .pointer (some ⟨b, 0, none⟩), .slice (some ⟨rb, 0, none⟩) its.length cap, .int .i64 (its.length : Int), .int .i64 (k : Int), .pointer (some ⟨b, 0, none⟩), .slice (some ⟨rb, 0, none⟩) its.length cap, .int .i64 (k : Int), .pointer (some ⟨rb, k * 4, none⟩), .agg #[.slice (some ⟨nb, 0, none⟩) ph.names.length nc, .int .i64 ph.key, .int .i64 ph.maxN, .int .i64 ph.maxB], .pointer (some ⟨g, 0, none⟩), .int .i64 (r : Int), .pointer (some ⟨b, 0, none⟩), .slice (some ⟨rb2, 0, none⟩) its2.length cap2, .int .i64 (its2.length : Int), .bool true, u 0, u 1, u 2, u 3, u 4, u 5, u 6, u 7, u 8, u 9, u 10, u 11, .bool false, .bool false, undef, .bool false, .bool false, undef, undef, undef, undef, undef, undef, undef, undef, undef, undef, undef, undef, undef, undef, .bool false, .bool false, undef, undef, undef, undef, undef, undef, undef, .bool false, .bool false, undef, undef, undef, undef, undef, undef, .bool false, .bool false, undef, undef, undef, undef, undef, undef, .bool false, .bool false, undef, undef, undef, undef, undef, undef, undef, undef, undef, undef, undef, undef], defers := [] })
                          (CRowV 10 wr.heap.size w0 B g (m + 105 + 20 * its2.length) b its2 (.slice (some ⟨rb2, 0, none⟩) its2.length cap2) w4.heap.size (.slice (some ⟨nb, 0, none⟩) ph.names.length nc) ph)
                          (RAt [REq (.pointer (some ⟨b, 0, none⟩)), REq (.slice (some ⟨rb2, 0, none⟩) its2.length cap2), REq (.pointer (some ⟨b, 0, none⟩)), REq (.slice (some ⟨rb2, 0, none⟩) its2.length cap2), REq (.int .i64 (its2.length : Int)), RStr 6, RStr 7, RSlit wr.heap.size 7, RHs wr.heap.size, RHBox wr.heap.size, RAppV g w0.heap.size w4.heap.size its2, REq (.pointer (some ⟨b, 0, none⟩))])
                          (LeAtN 10 g (Value.ownBlock (.slice (some ⟨rb2, 0, none⟩) its2.length cap2))) (fun i => [u29, u30, u31, u32, u33, u34, u35, u36, u37, u38, u39, u40].getD i undef) ⟨⟨hV.cin.box, hV.cin.drawn.drew, fun _ => hV.cin.own, hV.cin.nms, Nat.le_refl _, hg0, hV.cin.wb⟩, hV.var, hV.un⟩ ?_ ?_ ?_
                        · intro i j x W W' hi' _ hij hR hle
                          match i, hi' with
                          | 0, _ => exact stay2c_eq g _ _ x W W' hR (leN_two hle)
                          | 1, _ => exact stay2c_eq g _ _ x W W' hR (leN_two hle)
                          | 2, _ => exact stay2c_eq g _ _ x W W' hR (leN_two hle)
                          | 3, _ => exact stay2c_eq g _ _ x W W' hR (leN_two hle)
                          | 4, _ => exact stay2c_eq g _ _ x W W' hR (leN_two hle)
                          | 5, _ => exact stay2c_strC g _ _ x W W' hR (leN_two hle)
                          | 6, _ => exact stay2c_strC g _ _ x W W' hR (leN_two hle)
                          | 7, _ => exact stay2c_slit hg5 hrow x W W' hR (leN_two hle)
                          | 8, _ => exact stay2c_hs hg5 hrow x W W' hR (leN_two hle)
                          | 9, _ => exact stay2c_hbox hg5 hrow x W W' hR (leN_two hle)
                          | 10, _ => exact stay_appv hg0 x W W' hR (leN_not (Ne.symm hij) hle)
                          | 11, _ => exact stay2c_eq g _ _ x W W' hR (leN_two hle)
                        · intro i hi' L z W kk hkk hL hC hd'
                          have hsz0 : wr.heap.size ≤ W.heap.size := hC.1.2.2.2.2.1
                          match i, hi' with
                          | 0, _ =>
                            refine wpOp_step rfl (fun K hK => ?_)
                            clear hd'
                            go_simp
                            exact hK _ _ ⟨_, rfl, rfl, leN_mk (by decide) (World.grownBy.refl _ _), hC.same⟩
                          | 1, _ =>
                            have e0 : z 0 = .pointer (some ⟨b, 0, none⟩) := hd' 0 (dep_of (by kernel_rfl))
                            have x3 : W.cell? ⟨b, 0, none⟩ = some (.slice (some ⟨rb2, 0, none⟩) its2.length cap2) := by simp [World.cell?, hC.1.1]
                            refine wpOp_step rfl (fun K hK => ?_)
                            clear hd'
                            go_simp
                            exact hK _ _ ⟨_, by simp [upd, e0], rfl, leN_mk (by decide) (World.grownBy.refl _ _), hC.same⟩
                          | 2, _ =>
                            refine wpOp_step rfl (fun K hK => ?_)
                            clear hd'
                            go_simp
                            exact hK _ _ ⟨_, rfl, rfl, leN_mk (by decide) (World.grownBy.refl _ _), hC.same⟩
                          | 3, _ =>
                            have e2 : z 2 = .pointer (some ⟨b, 0, none⟩) := hd' 2 (dep_of (by kernel_rfl))
                            have x3 : W.cell? ⟨b, 0, none⟩ = some (.slice (some ⟨rb2, 0, none⟩) its2.length cap2) := by simp [World.cell?, hC.1.1]
                            refine wpOp_step rfl (fun K hK => ?_)
                            clear hd'
                            go_simp
                            exact hK _ _ ⟨_, by simp [upd, e2], rfl, leN_mk (by decide) (World.grownBy.refl _ _), hC.same⟩
                          | 4, _ =>
                            have e3 : z 3 = .slice (some ⟨rb2, 0, none⟩) its2.length cap2 := hd' 3 (dep_of (by kernel_rfl))
                            refine wpOp_step rfl (fun K hK => ?_)
                            clear hd'
                            go_simp
                            exact hK _ _ ⟨_, by simp [upd, e3], rfl, leN_mk (by decide) (World.grownBy.refl _ _), hC.same⟩
                          | 5, _ =>
                            have e4 : z 4 = .int .i64 (its2.length : Int) := hd' 4 (dep_of (by kernel_rfl))
                            refine wpOp_step rfl (fun K hK => ?_)
                            clear hd'
                            go_simp
                            refine (hNT W).mono ?_
                            rintro e w8 ⟨rfl, hb8⟩
                            have hd8 : Drawn W w8 B g (m + 105 + 20 * its2.length + kk) := drawn_belowC (Drawn.refl hC.1.2.1.1) hb8 hC.1.2.1.1.lt
                            exact hK _ _ ⟨.string ⟨N.toArray⟩, by simp [upd, e4, strV], ⟨_, rfl, hsz⟩, leN_mk (by decide) hd8.2, hC.keep hgc (d := 0) hd8 (by omega)⟩
                          | 6, _ =>
                            obtain ⟨s, e5, hs⟩ : RStr 6 (z 5) W := hd' 5 (dep_of (by kernel_rfl))
                            have hz7 : ¬ (9223372036854775807 < 1 + s.size) := by omega
                            refine wpOp_step rfl (fun K hK => ?_)
                            clear hd'
                            go_simp
                            refine hK _ _ ⟨.string ((⟨#[104]⟩ : ByteArray) ++ s), by simp [upd, e5], ⟨_, rfl, ?_⟩, leN_mk (by decide) (World.grownBy.refl _ _), hC.same⟩
                            rw [ByteArray.size_append, show (ByteArray.mk #[104]).size = 1 from rfl]; omega
                          | 7, _ =>
                            obtain ⟨s, e6, hs⟩ : RStr 7 (z 6) W := hd' 6 (dep_of (by kernel_rfl))
                            refine wpOp_step rfl (fun K hK => ?_)
                            clear hd'
                            go_simp
                            exact hK _ _ ⟨_, by simp [upd, e6], ⟨_, s, rfl, hsz0, heap_alloc_new W _, hs⟩, leN_mk (by decide) (World.grownBy_alloc _ _ _), hC.alloc hgc _⟩
                          | 8, _ =>
                            obtain ⟨c, s, e7, hcB, hcb, hs⟩ : RSlit wr.heap.size 7 (z 7) W := hd' 7 (dep_of (by kernel_rfl))
                            refine wpOp_step rfl (fun K hK => ?_)
                            clear hd'
                            go_simp
                            exact hK _ _ ⟨hval (.slice (some ⟨c, 0, none⟩) 1 1) ⟨[s], 1, 1, 1⟩, by simp [upd, e7, hval], ⟨_, _, rfl, ⟨c, 1, #[.string s], rfl, Nat.le_refl _, by decide, hcB, hcb, fun j t hj => by match j, hj with | 0, hj => simpa using hj⟩, ⟨fun t ht => by rw [List.mem_singleton.1 ht]; exact Nat.le_trans hs (by decide), by simp, by simp⟩⟩, leN_mk (by decide) (World.grownBy.refl _ _), hC.same⟩
                          | 9, _ =>
                            obtain ⟨u, h1, e8, hn1, hs1⟩ : RHs wr.heap.size (z 8) W := hd' 8 (dep_of (by kernel_rfl))
                            unfold hval at e8
                            have hne : W.grownBy (W.alloc (.cells #[u, .int .i64 h1.key, .int .i64 h1.maxN, .int .i64 h1.maxB] 48)) (some g) := World.grownBy_alloc _ _ _
                            refine wpOp_step rfl (fun K hK => ?_)
                            clear hd'
                            go_simp
                            exact hK _ _ ⟨_, by simp [upd, e8], ⟨_, u, h1, rfl, hsz0, heap_alloc_new W _, hn1.keep hg5 hrow (.inl hne), hs1⟩, leN_mk (by decide) hne, hC.alloc hgc _⟩
                          | 10, _ =>
                            have e1 : z 1 = .slice (some ⟨rb2, 0, none⟩) its2.length cap2 := hd' 1 (dep_of (by kernel_rfl))
                            obtain ⟨c, u, h1, e9, hcB, hcb, hn1, hs1⟩ : RHBox wr.heap.size (z 9) W := hd' 9 (dep_of (by kernel_rfl))
                            have hown := hC.1.2.2.1 hL
                            refine wpOp_step rfl (fun K hK => ?_)
                            clear hd'
                            refine wp_append_lies _ (.tmp 30) (.tmp 38) 23 (by rfl) w0.heap.size 48 i0 _ 4 48 Tryz.underlying23 hi hz0 hz1 hz2 (by rfl) (by decide) (.slice (some ⟨rb2, 0, none⟩) its2.length cap2) its2.length (icells its2) (by exact e1) hown ⟨c, 0, none⟩ 1 1 [u, .int .i64 h1.key, .int .i64 h1.maxN, .int .i64 h1.maxB] (by exact e9) (by rfl) (World.news_of_block hcb) (by obtain ⟨_, _, _, rfl, _⟩ := hn1; intro x hx; simp at hx; rcases hx with rfl | rfl | rfl | rfl <;> rfl) (by omega) (by unfold maxLen; omega) (by omega) (by have := hC.1.2.1.2.size; omega) W.heap.size rfl ?_
                            intro g3 cap3 w7 ho7 hg7 hat7 _
                            refine hK _ _ ⟨_, rfl, ⟨⟨(u, h1), (hn1.keep hg5 hrow (.inr hg7)).own hg5, hs1, ho7⟩, fun e => ?_⟩, ?_, ?_⟩
                            · have e2 : g3 = w4.heap.size := by simpa [Value.ownBlock] using e
                              rcases hat7 with hat7 | hat7
                              · exact hVne (by rw [hat7, e2])
                              · omega
                            · unfold LeAtN; rw [if_pos rfl]; exact hg7
                            · exact hC.app hL hVok hVne hg7
                          | 11, _ =>
                            refine wpOp_step rfl (fun K hK => ?_)
                            clear hd'
                            go_simp
                            exact hK _ _ ⟨_, rfl, rfl, leN_mk (by decide) (World.grownBy.refl _ _), hC.same⟩
                        · intro L z W kk hkk hC hd'
                          have ha : RAppV g w0.heap.size w4.heap.size its2 (z 10) W := hd' 10 (by decide)
                          have e11 : z 11 = .pointer (some ⟨b, 0, none⟩) := hd' 11 (by decide)
                          obtain ⟨x3, p3, pn, hI8⟩ := CRowV.fin hC ha hVok hVus hwc
                          obtain ⟨v', e10⟩ : ∃ x, z 10 = x := ⟨_, rfl⟩
                          rw [e10] at hI8
                          obtain ⟨g5, cap5, hv, _⟩ := hI8.cin.own.form (by simp)
                          rw [show (its2 ++ [pn]).length = its2.length + 1 from by simp] at hv
                          subst hv
                          have HI8 := Lib.hid hI8
                          clear ha hC hd' hI8 hi hz0 hz1 hz2 hrow hV hVok hVus x0
                          refine wpOp_step rfl (fun K hK => ?_)
                          go_simp
                          refine hK _ _ ?_
                          clear hK K
                          go_wp2
                          go_roundw
                          case rel =>
                            have el : (its2 ++ [pn]).length = its2.length + 1 := by simp
                            exact ⟨its2 ++ [pn], g5, cap5, by rw [el]; exact HI8.out.mono (by omega), by omega, by omega⟩
                          case measure =>
                            have y := (one_factC HI8.out.cin.box).1
                            rw [y, HX0.out]
                            simp only
                            omega
                      · have hlti : ¬ (its2.length : Int) ≤ 4 := by omega
                        have HV := Lib.hid hV
                        clear hV
                        go_wp2
                        go_meet
                        exact ⟨its2, rb2, cap2, _, _, HV.out.mono (by omega), hk2, hl5⟩
        case rest =>
          obtain ⟨its2, rb2, cap2, u2, h2, hV7, hk2, hl5⟩ := hcut
          have hok7 := hV7.cin.ok
          have hus7 := hV7.us
          obtain ⟨⟨q0, q1, q2, q3, y0, y1, y2, y3⟩, ⟨f0, f1, f2, f3⟩, hrow, hbox, hdr⟩ := hV7.fin hk2
          obtain ⟨x0, _⟩ := one_factC hV7.cin.box
          obtain ⟨nb2, nc2, hu2, _⟩ := hV7.un.form
          obtain ⟨v0, v1, v2, v3, _⟩ := four_factsC hV7.var
          have hk2i : (k : Int) < (its2.length : Int) := by omega
          have hend : Hid (∃ (hs : List Hs) (a : Option Addr) (n c : Nat), (setQ4 wc rb2 (k * 4) u2 (.int .i64 h2.key) (.int .i64 h2.maxN) (.int .i64 h2.maxB)).heap[b]? = some (.cells #[.slice a n c] 25 (0, 0)) ∧ HRowA g (setQ4 wc rb2 (k * 4) u2 (.int .i64 h2.key) (.int .i64 h2.maxN) (.int .i64 h2.maxB)) (.slice a n c) hs ∧ (∀ h ∈ hs, HSm3 h) ∧ hs.length ≤ 5 ∧ Drawn w0 (setQ4 wc rb2 (k * 4) u2 (.int .i64 h2.key) (.int .i64 h2.maxN) (.int .i64 h2.maxB)) B g (m + 300)) :=
            Lib.hid ⟨_, _, _, _, hbox, hrow, fun x hx => by
              rcases List.mem_or_eq_of_mem_set hx with hx | hx
              · obtain ⟨p, hp, rfl⟩ := List.mem_map.1 hx; exact (hok7 p hp).up
              · rw [hx]; exact hus7, by rw [List.length_set, List.length_map]; exact hl5, hdr.mono (by omega)⟩
          subst hu2
          unfold setQ4 at hend
          clear hrow hbox hdr hV7 hok7 hus7
          go_wp2
          go_meet
          exact hend.out
  case rest =>
    obtain ⟨hs, a, n, c, hbox, hrow, hk, hl, hd⟩ := hcut
    obtain ⟨x0, _⟩ := one_factC hbox
    obtain ⟨y0, p0, z0, HX⟩ := HF.out _ _ _ _ _ _ hrow hk hl hd (by omega)
    clear hbox hrow hk hl hd
    go_wp2
    exact bodyPost_ret (v := .agg #[.slice a n c]) (by simp [results, Tryz.results32, go_sem, z0]) rfl HX.out
end Go.Proofs.YtncegikmpapldaaGreatDoor

-- from XCfDr
/- Walks: what the laws on houses draw. -/
namespace Go.Proofs.YtncegikmpapldaaGreatDoor
open Go.RowKit

set_option maxHeartbeats 400000 in
theorem host_anyC (g B m : Nat) (w : World) (hm : m ≤ 1000000) (h : RdAt w B g m) :
    Calls Tryz.prog 94 #[.pointer (some ⟨g, 0, none⟩)] w (DrawnStr 20 w B g (m + 1)) := by
  have hg := h.lt
  go_enter Tryz.func94, Tryz.ntmps94
  go_wp2_with fail
  refine (pick_any g 5 B m _ hm (by omega) (h.alloc _)).mono ?_
  rintro e w1 ⟨r, rfl, hr, hd⟩
  obtain ⟨s, hs, hk⟩ := lit_str (K := 20) hd hg (by decide) r (by simp; omega)
  have hr7 : (r : Int) < 5 := by omega
  have hd' := hd.of_alloc
  clear hd
  go_wp2
  go_ret
  exact ⟨s, rfl, hk, hd'⟩
theorem hrow_form {g : Nat} {w : World} {v : Value} {hs : List Hs} (h : HRowA g w v hs) : ∃ a c, v = .slice a hs.length c := by
  obtain ⟨a, c, rfl, _⟩ := h
  exact ⟨a, c, rfl⟩

end Go.Proofs.YtncegikmpapldaaGreatDoor

-- from XCfPu
/- Houses and names: pure. -/
namespace Go.Proofs.YtncegikmpapldaaGreatDoor
open Go.RowKit

theorem route_at {hs : List Hs} {i : Nat} {h : Hs} {x : ByteArray} (hc : cfgB hs = true) (hi : hs[i]? = some h) (hx : x ∈ h.names) : routeI hs x = (i : Int) := by
  unfold routeI
  rw [if_pos hc, find_some hi hx fun y hy hxy => ?_]
  · rfl
  · have d := (cfgB_iff.1 hc).2.2
    have e : namesL hs = namesL (hs.take i) ++ namesL (hs.drop i) := by
      unfold namesL; rw [← List.flatMap_append, List.take_append_drop]
    rw [e] at d
    have h1 : x ∈ namesL (hs.take i) := List.mem_flatMap.2 ⟨y, hy, hxy⟩
    have h2 : x ∈ namesL (hs.drop i) := List.mem_flatMap.2 ⟨h, by
      have hl := (List.getElem?_eq_some_iff.1 hi)
      obtain ⟨hlt, rfl⟩ := hl
      rw [List.drop_eq_getElem_cons hlt]; exact List.mem_cons_self .., hx⟩
    exact (List.nodup_append.1 d).2.2 x h1 x h2 rfl
theorem route_hit {hs : List Hs} {s : ByteArray} {k : Nat} (h : routeI hs s = (k : Int)) : ∃ x, hs[k]? = some x ∧ s ∈ x.names := by
  unfold routeI at h
  split at h
  · cases hf : findI hs s with
    | none => rw [hf] at h; simp only [optI] at h; omega
    | some j =>
      rw [hf] at h
      have : j = k := by simp only [optI] at h; omega
      subst this
      unfold findI at hf
      obtain ⟨hlt, h1, _⟩ := List.findIdx?_eq_some_iff_getElem.1 hf
      exact ⟨hs[j], List.getElem?_eq_getElem hlt, hasL_iff.1 h1⟩
  · omega
theorem route_cases (hs : List Hs) (s : ByteArray) : routeI hs s = -1 ∨ ∃ k : Nat, routeI hs s = (k : Int) := by
  unfold routeI
  split
  · unfold optI
    split
    · exact .inr ⟨_, rfl⟩
    · exact .inl rfl
  · exact .inl rfl
theorem route_bad {hs : List Hs} {s : ByteArray} (h : cfgB hs = false) : routeI hs s = -1 := by
  unfold routeI; rw [if_neg (by rw [h]; decide)]
theorem hasL_step {L : List ByteArray} {k : Nat} {x s : ByteArray} (hk : L[k]? = some x) : hasL (L.take (k + 1)) s = (hasL (L.take k) s || decide (x = s)) := by
  rw [List.take_add_one, hk]
  unfold hasL
  rw [List.any_append]; simp

def BlindC (R : Value → World → Prop) : Prop := ∀ v w w', R v w → R v w'
theorem blind_atC {Rs : List (Value → World → Prop)} (h : ∀ R ∈ Rs, BlindC R) {i : Nat} {v : Value} {w w' : World} (hR : RAt Rs i v w) : RAt Rs i v w' := by
  unfold RAt at *
  by_cases hi : i < Rs.length
  · rw [List.getD_eq_getElem?_getD, List.getElem?_eq_getElem hi] at hR ⊢
    exact h _ (List.getElem_mem hi) v w w' hR
  · rw [List.getD_eq_getElem?_getD, List.getElem?_eq_none (by omega)]; trivial
theorem blind_eqC (x : Value) : BlindC (REq x) := fun _ _ _ h => h
theorem blind_tC : BlindC (fun _ _ => True) := fun _ _ _ _ => trivial
theorem upd_self (u : Nat → Value) (i : Nat) : upd u i (u i) = u := by funext j; unfold upd; split <;> simp_all
def BlindAllC : List (Value → World → Prop) → Prop
  | [] => True
  | r :: rs => BlindC r ∧ BlindAllC rs
theorem blind_allC : ∀ {Rs : List (Value → World → Prop)} {i : Nat}, BlindAllC Rs → BlindC (RAt Rs i)
  | [], i, _ => fun _ _ _ _ => by simp [RAt]
  | r :: rs, 0, h => by simpa [RAt] using h.1
  | r :: rs, i + 1, h => by simpa [RAt] using blind_allC (Rs := rs) (i := i) h.2
theorem hoks3C {hs : List Hs} (h : ∀ x ∈ hs, HSm3 x) {K : Nat} (hK : 40 ≤ K) : HOks hs K := fun x hx s hs => Nat.le_trans ((h x hx).1 s hs) hK
end Go.Proofs.YtncegikmpapldaaGreatDoor

