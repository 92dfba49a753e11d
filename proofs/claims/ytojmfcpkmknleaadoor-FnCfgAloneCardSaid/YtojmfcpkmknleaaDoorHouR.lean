/- What the operations of a region that adds a house leave for one another. -/
import Derived.Test.YtojmfcpkmknleaaDoorHou
namespace Go.Proofs.YtojmfcpkmknleaaDoor
open Go.RowKit

theorem one_factC {w' : World} {g : Nat} {x0 : Value} {T : TypeId} (h : w'.heap[g]? = some (.cells #[x0] T (0, 0))) : w'.cell? ⟨g, 0, none⟩ = some x0 ∧ w'.frozen? ⟨g, 0, none⟩ = false :=
  ⟨by simp [World.cell?, h], by simp [World.frozen?, h]⟩
def RLitF (B0 n : Nat) (cs : Array Value) (T : TypeId) : Value → World → Prop := fun v w => ∃ b, v = .slice (some ⟨b, 0, none⟩) n n ∧ B0 ≤ b ∧ w.heap[b]? = some (.cells cs T (0, 0))
def RInt : Value → World → Prop := fun v _ => ∃ x : Int, v = .int .i64 x
def RCellI (B0 : Nat) : Value → World → Prop := fun v w => ∃ (b r : Nat) (x : Int), v = .pointer (some ⟨b, r, none⟩) ∧ B0 ≤ b ∧ w.cell? ⟨b, r, none⟩ = some (.int .i64 x)
def NF (B0 : Nat) (w : World) (u : Value) (ns : List ByteArray) : Prop :=
  ∃ (b c : Nat) (cs : Array Value), u = .slice (some ⟨b, 0, none⟩) ns.length c ∧ ns.length ≤ c ∧ c ≤ maxLen ∧ B0 ≤ b ∧ w.heap[b]? = some (.cells cs 9 (0, 0)) ∧ ∀ (j : Nat) (s : ByteArray), ns[j]? = some s → cs[j]? = some (Value.string s)
theorem NF.own {B0 g : Nat} {w : World} {u : Value} {ns : List ByteArray} (h : NF B0 w u ns) (hg : g < B0) : NOwn g w u ns := by
  obtain ⟨b, c, cs, rfl, h1, h2, h3, h4, h5⟩ := h
  exact ⟨b, c, cs, rfl, h1, h2, by omega, h4, h5⟩
def hval (u : Value) (h : Hs) : Value := .agg #[u, .int .i64 h.key, .int .i64 h.maxN, .int .i64 h.maxB]
def RHs (B0 : Nat) : Value → World → Prop := fun v w => ∃ (u : Value) (h : Hs), v = hval u h ∧ NF B0 w u h.names ∧ HSm h
def RHBox (B0 : Nat) : Value → World → Prop := fun v w => ∃ (c : Nat) (u : Value) (h : Hs), v = .slice (some ⟨c, 0, none⟩) 1 1 ∧ B0 ≤ c ∧ w.heap[c]? = some (.cells #[u, .int .i64 h.key, .int .i64 h.maxN, .int .i64 h.maxB] 33 (0, 0)) ∧ NF B0 w u h.names ∧ HSm h
def RAppC (g z : Nat) (its : List (Value × Hs)) : Value → World → Prop := fun v w => ∃ p : Value × Hs, NOwn g w p.1 p.2.names ∧ HSm p.2 ∧ w.ownsRow z 33 4 v (its.length + 1) (icells its ++ icell p)
/-- Stable while only the blocks g and row may change. -/
def StayTwo (g : Nat) (row : Option Nat) (R : Value → World → Prop) : Prop := ∀ v w w', R v w → (w.grownBy w' (some g) ∨ w.grownBy w' row) → R v w'
theorem stay2_eq (g : Nat) (row : Option Nat) (x : Value) : StayTwo g row (REq x) := fun _ _ _ h _ => h
theorem stay2_num (g n : Nat) (row : Option Nat) : StayTwo g row (RNum n) := fun _ _ _ h _ => h
theorem stay2_int (g : Nat) (row : Option Nat) : StayTwo g row RInt := fun _ _ _ h _ => h
theorem fresh_block {g B0 c : Nat} {row : Option Nat} {w w' : World} {o : Obj} (hg : g < B0) (hr : ∀ r, row = some r → r < B0) (hc : B0 ≤ c) (h : w.heap[c]? = some o) (hh : w.grownBy w' (some g) ∨ w.grownBy w' row) : w'.heap[c]? = some o := by
  have hlt := (Array.getElem?_eq_some_iff.1 h).1
  rcases hh with hh | hh
  · exact (hh.block c hlt (fun e => by injection e; omega)).trans h
  · exact (hh.block c hlt (fun e => by have := hr c e.symm; omega)).trans h
theorem stay2_lit {g B0 n : Nat} {row : Option Nat} {cs : Array Value} {T : TypeId} (hg : g < B0) (hr : ∀ r, row = some r → r < B0) : StayTwo g row (RLitF B0 n cs T) := fun _ _ _ ⟨c, h1, h2, h3⟩ hh => ⟨c, h1, h2, fresh_block hg hr h2 h3 hh⟩
theorem stay2_celli {g B0 : Nat} {row : Option Nat} (hg : g < B0) (hr : ∀ r, row = some r → r < B0) : StayTwo g row (RCellI B0) := fun _ w w' ⟨c, r, x, h1, h2, h3⟩ hh => by
  refine ⟨c, r, x, h1, h2, ?_⟩
  have hlt : c < w.heap.size := World.block_lt_of_cell? w _ h3
  obtain ⟨o, ho⟩ : ∃ o, w.heap[c]? = some o := ⟨_, Array.getElem?_eq_getElem hlt⟩
  have h5 := fresh_block hg hr h2 ho hh
  exact (World.cell?_of_block (w := w) (h5.trans ho.symm)).trans h3
theorem NF.keep {g B0 : Nat} {row : Option Nat} {w w' : World} {u : Value} {ns : List ByteArray} (h : NF B0 w u ns) (hg : g < B0) (hr : ∀ r, row = some r → r < B0) (hh : w.grownBy w' (some g) ∨ w.grownBy w' row) : NF B0 w' u ns := by
  obtain ⟨b, c, cs, rfl, h1, h2, h3, h4, h5⟩ := h
  exact ⟨b, c, cs, rfl, h1, h2, h3, fresh_block hg hr h3 h4 hh, h5⟩
theorem stay2_hs {g B0 : Nat} {row : Option Nat} (hg : g < B0) (hr : ∀ r, row = some r → r < B0) : StayTwo g row (RHs B0) := fun _ _ _ ⟨u, h, h1, h2, h3⟩ hh => ⟨u, h, h1, h2.keep hg hr hh, h3⟩
theorem stay2_hbox {g B0 : Nat} {row : Option Nat} (hg : g < B0) (hr : ∀ r, row = some r → r < B0) : StayTwo g row (RHBox B0) := fun _ _ _ ⟨c, u, h, h1, h2, h3, h4, h5⟩ hh => ⟨c, u, h, h1, h2, fresh_block hg hr h2 h3 hh, h4.keep hg hr hh, h5⟩
theorem stay_appc {g z : Nat} {its : List (Value × Hs)} (hg : g < z) : Stay g (RAppC g z its) := fun _ _ _ ⟨p, h1, h2, h3⟩ hh => ⟨p, h1.keep hh, h2, own_drawnC h3 hg hh⟩
def LeAtN (N g : Nat) (row : Option Nat) (j : Nat) (w w' : World) : Prop := if j = N then w.grownBy w' row else w.grownBy w' (some g)
theorem leN_two {N g : Nat} {row : Option Nat} {j : Nat} {w w' : World} (h : LeAtN N g row j w w') : w.grownBy w' (some g) ∨ w.grownBy w' row := by
  unfold LeAtN at h
  split at h
  · exact .inr h
  · exact .inl h
theorem leN_not {N g : Nat} {row : Option Nat} {j : Nat} {w w' : World} (hj : j ≠ N) (h : LeAtN N g row j w w') : w.grownBy w' (some g) := by
  unfold LeAtN at h; rw [if_neg hj] at h; exact h
theorem leN_mk {N g : Nat} {row : Option Nat} {j : Nat} {w w' : World} (hj : j ≠ N) (h : w.grownBy w' (some g)) : LeAtN N g row j w w' := by
  unfold LeAtN; rw [if_neg hj]; exact h
/-- What stands of the houses' box while the region runs. -/
def CRowC (N B0 : Nat) (w0 : World) (B g m b : Nat) (its : List (Value × Hs)) (v : Value) : (Nat → Prop) → Nat → World → Prop := fun L k W =>
  W.heap[b]? = some (.cells #[v] 25 (0, 0)) ∧ Drawn w0 W B g (m + k) ∧ (¬ L N → W.ownsRow w0.heap.size 33 4 v its.length (icells its)) ∧ (∀ p ∈ its, NOwn g W p.1 p.2.names) ∧ B0 ≤ W.heap.size ∧ g < w0.heap.size ∧ w0.heap.size ≤ b
theorem CRowC.keep {N : Nat} {w0 W W' : World} {B0 B g m b k i d : Nat} {its : List (Value × Hs)} {v : Value} {L : Nat → Prop} (hC : CRowC N B0 w0 B g m b its v L k W) (hd : Drawn W W' B g (m + k + d)) (hd1 : d ≤ 1) : CRowC N B0 w0 B g m b its v (fun j => j = i ∨ L j) (k + 1) W' := by
  obtain ⟨h1, h2, h3, h4, h5, h6, h7⟩ := hC
  exact ⟨block_keep (by omega) h1 hd.2, (h2.trans hd).mono (by omega), fun hn => own_drawnC (h3 fun h => hn (.inr h)) h6 hd.2, fun p hp => (h4 p hp).keep hd.2, Nat.le_trans h5 hd.2.size, h6, h7⟩
theorem CRowC.same {N : Nat} {w0 W : World} {B0 B g m b k i : Nat} {its : List (Value × Hs)} {v : Value} {L : Nat → Prop} (hC : CRowC N B0 w0 B g m b its v L k W) : CRowC N B0 w0 B g m b its v (fun j => j = i ∨ L j) (k + 1) W :=
  ⟨hC.1, hC.2.1.mono (by omega), fun hn => hC.2.2.1 fun h => hn (.inr h), hC.2.2.2⟩
theorem CRowC.alloc {N : Nat} {w0 W : World} {B0 B g m b k i : Nat} {its : List (Value × Hs)} {v : Value} {L : Nat → Prop} (hC : CRowC N B0 w0 B g m b its v L k W) (o : Obj) : CRowC N B0 w0 B g m b its v (fun j => j = i ∨ L j) (k + 1) (W.alloc o) :=
  hC.keep (d := 0) ((Drawn.refl hC.2.1.1).alloc o) (by omega)
theorem CRowC.app {N : Nat} {w0 W W' : World} {B0 B g m b k : Nat} {its : List (Value × Hs)} {v : Value} {L : Nat → Prop} (hC : CRowC N B0 w0 B g m b its v L k W) (hL : ¬ L N) (hok : ∀ p ∈ its, HSm p.2) (hg : W.grownBy W' v.ownBlock) :
    CRowC N B0 w0 B g m b its v (fun j => j = N ∨ L j) (k + 1) W' := by
  obtain ⟨h1, h2, h3, h4, h5, h6, h7⟩ := hC
  have hI : CIn w0 W B g (m + k) b its v := ⟨h1, h3 hL, h4, hok, h2, h6, h7⟩
  obtain ⟨k1, k2, k3⟩ := hI.grown hg
  exact ⟨k1, k3.mono (by omega), fun hn => absurd (.inl rfl) hn, fun p hp => k2 _ _ (h4 p hp), Nat.le_trans h5 hg.size, h6, h7⟩
theorem CRowC.fin {N : Nat} {w0 W : World} {B0 B g m b k : Nat} {its : List (Value × Hs)} {v v' : Value} {L : Nat → Prop} (hC : CRowC N B0 w0 B g m b its v L k W) (ha : RAppC g w0.heap.size its v' W) (hok : ∀ p ∈ its, HSm p.2) :
    W.cell? ⟨b, 0, none⟩ = some v ∧ W.frozen? ⟨b, 0, none⟩ = false ∧ ∃ p, CIn w0 (W.setCell ⟨b, 0, none⟩ v') B g (m + k) b (its ++ [p]) v' := by
  obtain ⟨h1, h2, h3, h4, h5, h6, h7⟩ := hC
  obtain ⟨p, hn, hs, ho⟩ := ha
  refine ⟨by simp [World.cell?, h1], by simp [World.frozen?, h1], p, heap_setCell_same W b 0 _ _ v' h1, ?_, ?_, ?_, drawn_setC h2 h6 h7 0 _, h6, h7⟩
  · rw [icells_app, List.length_append]
    refine own_setC ho (fun e => ?_) _
    obtain ⟨_, cs, hc⟩ := own_type ho e
    exact other_block hc h1 (by decide) rfl
  · intro q hq
    refine NOwn.set ?_ h1 (by decide) 0 _
    rcases List.mem_append.1 hq with hq | hq
    · exact h4 q hq
    · have : q = p := by simpa using hq
      subst this; exact hn
  · intro q hq
    rcases List.mem_append.1 hq with hq | hq
    · exact hok q hq
    · have : q = p := by simpa using hq
      subst this; exact hs
theorem lit_atI {w : World} {b r : Nat} {lo hi : Int} {cs : Array Value} {T : TypeId} (h : w.heap[b]? = some (.cells cs T (0, 0))) (hok : IntsL lo hi cs.toList) (hr : r < cs.size) : ∃ x : Int, w.cell? ⟨b, r, none⟩ = some (.int .i64 x) := by
  obtain ⟨x, h1, _⟩ := ints_at hok (r := r) (by simpa using hr)
  exact ⟨x, by rw [cell_of_row w b r cs T (0, 0) h]; simpa using h1⟩
end Go.Proofs.YtojmfcpkmknleaaDoor
