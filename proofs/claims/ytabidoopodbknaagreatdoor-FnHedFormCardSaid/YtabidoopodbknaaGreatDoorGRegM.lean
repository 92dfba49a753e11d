import Derived.Test.YtabidoopodbknaaGreatDoorReg
import Derived.Test.YtabidoopodbknaaGreatDoorGHdI
import Derived.Deep.AppendLies
-- from XRegL
/- A region's law where what is told of the world looks at which operations have run. -/
namespace Go.Proofs.YtabidoopodbknaaGreatDoor
open Go.RowKit

/-- A region whose last operation waits for all others; what is told of the world may look at which operations have run. -/
theorem wp_region_lastL {P : Program} {ops : Array Oper} {Q : Exit → Act → World → Prop} {id : Nat} {w : World} (hm : P.follows .mixedOrders = true) (n : Nat) (hn : ops.size = n + 1) (ho : ordB ops = true) (hl : lastB ops n = true)
    (mk : (Nat → Value) → Act) (C : (Nat → Prop) → Nat → World → Prop) (R : Nat → Value → World → Prop) (le : Nat → World → World → Prop) (u0 : Nat → Value)
    (h0 : C (fun _ => False) 0 w.drew) (hst : ∀ i j v w w', i < n → j < n → i ≠ j → R i v w → le j w w' → R i v w')
    (hstep : ∀ i, i < n → ∀ (L : Nat → Prop) (u : Nat → Value) (w : World) (k : Nat), k ≤ n → ¬ L i → C L k w → (∀ j ∈ deps ops i, R j (u j) w) → wpOp P ops Q i (fun a' w' => ∃ v, a' = mk (upd u i v) ∧ R i v w' ∧ le i w w' ∧ C (fun j => j = i ∨ L j) (k + 1) w') (mk u) w)
    (hlast : ∀ (L : Nat → Prop) (u : Nat → Value) (w : World) (k : Nat), k ≤ n → C L k w → (∀ j, j < n → R j (u j) w) → wpOp P ops Q n (fun a' w' => Q .normal a' w') (mk u) w) :
    (Code.region id ops true).wp P Q (mk u0) w := by
  have hord : ∀ i, i < ops.size → ∀ j ∈ deps ops i, j < i := fun i hi j hj => by
    unfold ordB at ho
    rw [List.all_eq_true] at ho
    have h1 := ho i (List.mem_range.2 hi)
    rw [List.all_eq_true] at h1
    simpa using h1 j hj
  refine wp_region_inv hm (fun listed a w => (∀ i, On listed i → ∀ j ∈ deps ops i, On listed j) ∧ (On listed n → Q .normal a w) ∧ (¬ On listed n → ∃ u, a = mk u ∧ C (On listed) (listed.toList.count true) w ∧ ∀ i, i < n → On listed i → R i (u i) w)) ?_ ?_ ?_
  · refine ⟨fun i hi => ?_, fun h => ?_, fun _ => ⟨u0, rfl, ?_, fun i _ hi => ?_⟩⟩
    · unfold On at hi; rw [Array.getD_eq_getD_getElem?, Array.getElem?_replicate] at hi; split at hi <;> simp at hi
    · unfold On at h; rw [Array.getD_eq_getD_getElem?, Array.getElem?_replicate] at h; split at h <;> simp at h
    · rw [show (Array.replicate ops.size false).toList.count true = 0 from by rw [Array.toList_replicate, List.count_replicate]; simp]; rw [show On (Array.replicate ops.size false) = fun _ => False from funext fun j => by unfold On; rw [Array.getD_eq_getD_getElem?, Array.getElem?_replicate]; split <;> simp]; exact h0
    · unfold On at hi; rw [Array.getD_eq_getD_getElem?, Array.getElem?_replicate] at hi; split at hi <;> simp at hi
  · intro listed a w hs ⟨hc, hA, hB⟩ i hi
    obtain ⟨hi1, hi2, hi3⟩ := ready_at hs hi
    have hcov : (∀ j ∈ deps ops n, On listed j) → ∀ j, j < n → On listed j := fun hd j hj => by
      unfold lastB at hl
      rw [List.all_eq_true] at hl
      have h1 := hl j (List.mem_range.2 hj)
      exact ancs_on hc _ _ hd j (by simpa using h1)
    have hnn : ¬ On listed n := fun h => by
      rcases Nat.lt_or_ge i n with hin | hin
      · exact hi2 (hcov (hc n h) i hin)
      · have : i = n := by omega
        subst this; exact hi2 h
    obtain ⟨u, rfl, hC, hR⟩ := hB hnn
    have hi' : i < listed.size := by omega
    have hcl : ∀ i', On (listed.setIfInBounds i true) i' → ∀ j ∈ deps ops i', On (listed.setIfInBounds i true) j := fun i' h j hj => by
      rw [on_set hi'] at h ⊢
      rcases h with rfl | h
      · exact .inr (hi3 j hj)
      · exact .inr (hc i' h j hj)
    have hk : listed.toList.count true ≤ n := by have := count_le hi' hi2; omega
    rcases Nat.lt_or_ge i n with hin | hin
    · refine wpOp_mono ?_ (hstep i hin _ u w _ hk hi2 hC (fun j hj => hR j (by have := hord i hi1 j hj; omega) (hi3 j hj)))
      rintro a' w' ⟨v, rfl, hRi, hle, hC'⟩
      refine ⟨hcl, fun h => ?_, fun _ => ⟨_, rfl, by rw [count_set hi' hi2, show On (listed.setIfInBounds i true) = fun j => j = i ∨ On listed j from funext fun j => propext (on_set hi')]; exact hC', fun j hj hon => ?_⟩⟩
      · rw [on_set hi'] at h
        rcases h with h | h
        · omega
        · exact absurd h hnn
      · unfold upd
        by_cases e : j = i
        · subst e; rw [if_pos rfl]; exact hRi
        · rw [if_neg e]
          rw [on_set hi'] at hon
          rcases hon with h | h
          · exact absurd h e
          · exact hst j i _ _ _ hj hin e (hR j hj h) hle
    · have hin : i = n := by omega
      subst hin
      have hall := hcov hi3
      refine wpOp_mono ?_ (hlast _ u w _ hk hC (fun j hj => hR j hj (hall j hj)))
      intro a' w' hQ
      exact ⟨hcl, fun _ => hQ, fun h => absurd ((on_set hi').2 (.inl rfl)) h⟩
  · intro listed a w hs ⟨_, hA, _⟩ hr
    exact hA (all_on hs ho hr n (by omega))

end Go.Proofs.YtabidoopodbknaaGreatDoor

-- from XRegM
/- What the operations of a region with an append in its midst leave for one another. -/
namespace Go.Proofs.YtabidoopodbknaaGreatDoor
open Go.RowKit

def RLitF (B0 n : Nat) (cs : Array Value) (T : TypeId) : Value → World → Prop := fun v w => ∃ b, v = .slice (some ⟨b, 0, none⟩) n n ∧ B0 ≤ b ∧ w.heap[b]? = some (.cells cs T (0, 0))
def RCellF (B0 K : Nat) : Value → World → Prop := fun v w => ∃ b r s, v = .pointer (some ⟨b, r, none⟩) ∧ B0 ≤ b ∧ w.cell? ⟨b, r, none⟩ = some (.string s) ∧ s.size ≤ K
def RBoxF (B0 K : Nat) (T : TypeId) : Value → World → Prop := fun v w => ∃ b s t, v = .slice (some ⟨b, 0, none⟩) 1 1 ∧ B0 ≤ b ∧ w.heap[b]? = some (.cells #[.string s, .string t] T (0, 0)) ∧ s.size ≤ K ∧ t.size ≤ K
def RSub (n : Nat) (k : Int) : Value → World → Prop := fun v _ => ∃ r : Nat, v = .int .i64 (k - (r : Int)) ∧ r < n
theorem stay_sub (g n : Nat) (k : Int) : Stay g (RSub n k) := fun _ _ _ h _ => h
def RApp (b K : Nat) (T : TypeId) (fs : List Fd) : Value → World → Prop := fun v w => ∃ s t : ByteArray, s.size ≤ K ∧ t.size ≤ K ∧ w.ownsRow (b + 1) T 2 v (fs.length + 1) (fcells fs ++ [.string s, .string t])
/-- Stable while only the blocks g and row may change. -/
def StayTwo (g : Nat) (row : Option Nat) (R : Value → World → Prop) : Prop := ∀ v w w', R v w → (w.grownBy w' (some g) ∨ w.grownBy w' row) → R v w'
theorem stay2_eq (g : Nat) (row : Option Nat) (x : Value) : StayTwo g row (REq x) := fun _ _ _ h _ => h
theorem stay2_num (g n : Nat) (row : Option Nat) : StayTwo g row (RNum n) := fun _ _ _ h _ => h
theorem stay2_str (g K : Nat) (row : Option Nat) : StayTwo g row (RStr K) := fun _ _ _ h _ => h
theorem stay2_pair (g K : Nat) (row : Option Nat) : StayTwo g row (RPair K) := fun _ _ _ h _ => h
theorem fresh_block {g B0 c : Nat} {row : Option Nat} {w w' : World} {o : Obj} (hg : g < B0) (hr : ∀ r, row = some r → r < B0) (hc : B0 ≤ c) (h : w.heap[c]? = some o) (hh : w.grownBy w' (some g) ∨ w.grownBy w' row) : w'.heap[c]? = some o := by
  have hlt := (Array.getElem?_eq_some_iff.1 h).1
  rcases hh with hh | hh
  · exact (hh.block c hlt (fun e => by injection e; omega)).trans h
  · exact (hh.block c hlt (fun e => by have := hr c e.symm; omega)).trans h
theorem stay2_lit {g B0 n : Nat} {row : Option Nat} {cs : Array Value} {T : TypeId} (hg : g < B0) (hr : ∀ r, row = some r → r < B0) : StayTwo g row (RLitF B0 n cs T) := fun _ _ _ ⟨c, h1, h2, h3⟩ hh => ⟨c, h1, h2, fresh_block hg hr h2 h3 hh⟩
theorem stay2_box {g B0 K : Nat} {row : Option Nat} {T : TypeId} (hg : g < B0) (hr : ∀ r, row = some r → r < B0) : StayTwo g row (RBoxF B0 K T) := fun _ _ _ ⟨c, s, t, h1, h2, h3, h4⟩ hh => ⟨c, s, t, h1, h2, fresh_block hg hr h2 h3 hh, h4⟩
theorem stay2_cell {g B0 K : Nat} {row : Option Nat} (hg : g < B0) (hr : ∀ r, row = some r → r < B0) : StayTwo g row (RCellF B0 K) := fun _ w w' ⟨c, r, s, h1, h2, h3, h4⟩ hh => by
  refine ⟨c, r, s, h1, h2, ?_, h4⟩
  have hlt : c < w.heap.size := by
    rcases Nat.lt_or_ge c w.heap.size with h | h
    · exact h
    · exfalso
      unfold World.cell? at h3
      simp [Array.getElem?_eq_none h] at h3
  obtain ⟨o, ho⟩ : ∃ o, w.heap[c]? = some o := ⟨_, Array.getElem?_eq_getElem hlt⟩
  have h5 := fresh_block hg hr h2 ho hh
  exact (World.cell?_of_block (w := w) (h5.trans ho.symm)).trans h3
theorem stay_app {g b K : Nat} {T : TypeId} {fs : List Fd} (hg : g < b) : Stay g (RApp b K T fs) := fun _ _ _ ⟨s, t, h1, h2, h3⟩ hh => ⟨s, t, h1, h2, own_drawn h3 (by omega) hh⟩
def LeAt (g : Nat) (row : Option Nat) (j : Nat) (w w' : World) : Prop := if j = 9 then w.grownBy w' row else w.grownBy w' (some g)
theorem le_two {g : Nat} {row : Option Nat} {j : Nat} {w w' : World} (h : LeAt g row j w w') : w.grownBy w' (some g) ∨ w.grownBy w' row := by
  unfold LeAt at h
  split at h
  · exact .inr h
  · exact .inl h
theorem le_not9 {g : Nat} {row : Option Nat} {j : Nat} {w w' : World} (hj : j ≠ 9) (h : LeAt g row j w w') : w.grownBy w' (some g) := by
  unfold LeAt at h; rw [if_neg hj] at h; exact h
theorem le_mk {g : Nat} {row : Option Nat} {j : Nat} {w w' : World} (hj : j ≠ 9) (h : w.grownBy w' (some g)) : LeAt g row j w w' := by
  unfold LeAt; rw [if_neg hj]; exact h
/-- What stands of the request's box while the region runs. -/
def CRow (B0 : Nat) (w0 : World) (B g m b : Nat) (h : Hd) (v : Value) : (Nat → Prop) → Nat → World → Prop := fun L k W =>
  W.heap[b]? = some (.cells #[.string h.verb, .string h.target, .string h.host, v, .string h.body] 27 (0, 0)) ∧ Drawn w0 W B g (m + k) ∧ (¬ L 9 → W.ownsRow (b + 1) 39 2 v h.fs.length (fcells h.fs)) ∧ B0 ≤ W.heap.size
theorem CRow.keep {w0 W W' : World} {B0 B g m b k i d : Nat} {h : Hd} {v : Value} {L : Nat → Prop} (hC : CRow B0 w0 B g m b h v L k W) (hgb : g < b) (hd : Drawn W W' B g (m + k + d)) (hd1 : d ≤ 1) : CRow B0 w0 B g m b h v (fun j => j = i ∨ L j) (k + 1) W' := by
  obtain ⟨h1, h2, h3, h4⟩ := hC
  exact ⟨block_keep (by omega) h1 hd.2, (h2.trans hd).mono (by omega), fun hn => own_drawn (h3 fun h => hn (.inr h)) (by omega) hd.2, Nat.le_trans h4 hd.2.size⟩
theorem CRow.same {w0 W : World} {B0 B g m b k i : Nat} {h : Hd} {v : Value} {L : Nat → Prop} (hC : CRow B0 w0 B g m b h v L k W) : CRow B0 w0 B g m b h v (fun j => j = i ∨ L j) (k + 1) W :=
  ⟨hC.1, hC.2.1.mono (by omega), fun hn => hC.2.2.1 fun h => hn (.inr h), hC.2.2.2⟩
theorem CRow.alloc {w0 W : World} {B0 B g m b k i : Nat} {h : Hd} {v : Value} {L : Nat → Prop} (hC : CRow B0 w0 B g m b h v L k W) (hgb : g < b) (o : Obj) : CRow B0 w0 B g m b h v (fun j => j = i ∨ L j) (k + 1) (W.alloc o) :=
  hC.keep hgb (d := 0) ((Drawn.refl hC.2.1.1).alloc o) (by omega)
theorem CRow.app {w0 W W' : World} {B0 B g m b k : Nat} {h : Hd} {v : Value} {L : Nat → Prop} (hC : CRow B0 w0 B g m b h v L k W) (hL : ¬ L 9) (hgb : g < b) (hwb : w0.heap.size ≤ b) (hg : W.grownBy W' v.ownBlock) :
    CRow B0 w0 B g m b h v (fun j => j = 9 ∨ L j) (k + 1) W' := by
  obtain ⟨h1, h2, h3, h4⟩ := hC
  have ho := h3 hL
  have hne : ∀ j, j ≤ b → some j ≠ v.ownBlock := fun j hj e => by have := (ho.lt j e.symm).1; omega
  have hb := (Array.getElem?_eq_some_iff.1 h1).1
  refine ⟨(hg.block b hb (hne b (Nat.le_refl _))).trans h1, ?_, fun hn => absurd (.inl rfl) hn, Nat.le_trans h4 hg.size⟩
  refine Drawn.mono (m := m + k) ⟨h2.1.keep fun j hj => hg.block j (by omega) (hne j (by omega)), ⟨hg.os.trans h2.2.os, hg.tape.trans h2.2.tape, hg.output.trans h2.2.output, Nat.le_trans h2.2.size hg.size, fun j hj hn => (hg.block j (Nat.lt_of_lt_of_le hj h2.2.size) (hne j (by omega))).trans (h2.2.block j hj hn)⟩⟩ (by omega)
theorem CRow.hin {w0 W : World} {B0 B g m b k n : Nat} {h : Hd} {v v' : Value} {L : Nat → Prop} (hC : CRow B0 w0 B g m b h v L k W) (ha : RApp b 40 39 h.fs v' W) (hok : FOk h.fs 40) (hv : h.verb.size ≤ 50) (ht : h.target.size ≤ 50) (hh : h.host.size ≤ 50) (hb : h.body.size ≤ 50) (hn : h.fs.length ≤ n) (hgb : g < b) (hwb : w0.heap.size ≤ b) :
    W.cell? ⟨b, 3, none⟩ = some v ∧ W.frozen? ⟨b, 3, none⟩ = false ∧ ∃ s t : ByteArray, HIn w0 (W.setCell ⟨b, 3, none⟩ v') B g (m + k) b (n + 1) { h with fs := h.fs ++ [(s, t)] } v' := by
  obtain ⟨s, t, hs, ht', ho⟩ := ha
  refine ⟨by simp [World.cell?, hC.1], by simp [World.frozen?, hC.1], s, t, heap_setCell_same W b 3 _ _ v' hC.1, ?_, ?_, hv, ht, hh, hb, ?_, drawn_set1 hC.2.1 hgb hwb 3 _, hgb, hwb⟩
  · dsimp only
    rw [fcells_app, List.length_append]
    exact own_setk ho (Nat.lt_succ_self b) _
  · intro f hf
    rcases List.mem_append.1 hf with hf | hf
    · exact hok f hf
    · have : f = (s, t) := by simpa using hf
      subst this; exact ⟨hs, ht'⟩
  · simp; omega
end Go.Proofs.YtabidoopodbknaaGreatDoor

