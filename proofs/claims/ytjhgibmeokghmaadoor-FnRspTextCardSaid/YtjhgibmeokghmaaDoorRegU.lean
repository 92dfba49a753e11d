/- A region's law where what an operation leaves may look at which operations have run. -/
import Derived.Test.YtjhgibmeokghmaaDoorReg
namespace Go.Proofs.YtjhgibmeokghmaaDoor
open Go.RowKit

/-- A region whose last operation waits for all others; what is told of the world may look at which operations have run and at what they left. -/
theorem wp_region_lastU {P : Program} {ops : Array Oper} {Q : Exit → Act → World → Prop} {id : Nat} {w : World} (hm : P.follows .mixedOrders = true) (n : Nat) (hn : ops.size = n + 1) (ho : ordB ops = true) (hl : lastB ops n = true)
    (mk : (Nat → Value) → Act) (C : (Nat → Prop) → (Nat → Value) → World → Prop) (R : Nat → (Nat → Prop) → Value → World → Prop) (le : Nat → World → World → Prop) (u0 : Nat → Value)
    (h0 : C (fun _ => False) u0 w.drew)
    (hst : ∀ i j L v w w', i < n → j < n → i ≠ j → L i → ¬ L j → (∀ a, L a → ∀ d ∈ deps ops a, L d) → (∀ d ∈ deps ops j, L d) → R i L v w → le j w w' → R i (fun a => a = j ∨ L a) v w')
    (hstep : ∀ i, i < n → ∀ (L : Nat → Prop) (u : Nat → Value) (w : World), ¬ L i → (∀ a, L a → ∀ d ∈ deps ops a, L d) → (∀ d ∈ deps ops i, L d) → C L u w → (∀ j ∈ deps ops i, R j L (u j) w) → wpOp P ops Q i (fun a' w' => ∃ v, a' = mk (upd u i v) ∧ R i (fun j => j = i ∨ L j) v w' ∧ le i w w' ∧ C (fun j => j = i ∨ L j) (upd u i v) w') (mk u) w)
    (hlast : ∀ (L : Nat → Prop) (u : Nat → Value) (w : World), C L u w → (∀ j, j < n → L j) → ¬ L n → (∀ j, j < n → R j L (u j) w) → wpOp P ops Q n (fun a' w' => Q .normal a' w') (mk u) w) :
    (Code.region id ops true).wp P Q (mk u0) w := by
  have hord : ∀ i, i < ops.size → ∀ j ∈ deps ops i, j < i := fun i hi j hj => by
    unfold ordB at ho
    rw [List.all_eq_true] at ho
    have h1 := ho i (List.mem_range.2 hi)
    rw [List.all_eq_true] at h1
    simpa using h1 j hj
  refine wp_region_inv hm (fun listed a w => (∀ i, On listed i → ∀ j ∈ deps ops i, On listed j) ∧ (On listed n → Q .normal a w) ∧ (¬ On listed n → ∃ u, a = mk u ∧ C (On listed) u w ∧ ∀ i, i < n → On listed i → R i (On listed) (u i) w)) ?_ ?_ ?_
  · refine ⟨fun i hi => ?_, fun h => ?_, fun _ => ⟨u0, rfl, ?_, fun i _ hi => ?_⟩⟩
    · unfold On at hi; rw [Array.getD_eq_getD_getElem?, Array.getElem?_replicate] at hi; split at hi <;> simp at hi
    · unfold On at h; rw [Array.getD_eq_getD_getElem?, Array.getElem?_replicate] at h; split at h <;> simp at h
    · rw [show On (Array.replicate ops.size false) = fun _ => False from funext fun j => by unfold On; rw [Array.getD_eq_getD_getElem?, Array.getElem?_replicate]; split <;> simp]; exact h0
    · unfold On at hi; rw [Array.getD_eq_getD_getElem?, Array.getElem?_replicate] at hi; split at hi <;> simp at hi
  · intro listed a w hs ⟨hc, hA, hB⟩ i hi
    obtain ⟨hi1, hi2, hi3⟩ := ready_at hs hi
    have hcov : (∀ j ∈ deps ops n, On listed j) → ∀ j, j < n → On listed j := fun hd j hj => by
      unfold lastB at hl
      rw [List.all_eq_true] at hl
      have h1 := hl j (List.mem_range.2 hj)
      exact ancs_on hc _ _ hd j (by simpa using h1)
    have hnn : ¬ On listed n := fun h => by
      rcases Nat.lt_or_ge i n with hin | hin
      · exact hi2 (hcov (hc n h) i hin)
      · have : i = n := by omega
        subst this; exact hi2 h
    obtain ⟨u, rfl, hC, hR⟩ := hB hnn
    have hi' : i < listed.size := by omega
    have hcl : ∀ i', On (listed.setIfInBounds i true) i' → ∀ j ∈ deps ops i', On (listed.setIfInBounds i true) j := fun i' h j hj => by
      rw [on_set hi'] at h ⊢
      rcases h with rfl | h
      · exact .inr (hi3 j hj)
      · exact .inr (hc i' h j hj)
    rcases Nat.lt_or_ge i n with hin | hin
    · refine wpOp_mono ?_ (hstep i hin _ u w hi2 hc hi3 hC (fun j hj => hR j (by have := hord i hi1 j hj; omega) (hi3 j hj)))
      rintro a' w' ⟨v, rfl, hRi, hle, hC'⟩
      have hfun : On (listed.setIfInBounds i true) = fun j => j = i ∨ On listed j := funext fun j => propext (on_set hi')
      refine ⟨hcl, fun h => ?_, fun _ => ⟨_, rfl, by rw [hfun]; exact hC', fun j hj hon => ?_⟩⟩
      · rw [on_set hi'] at h
        rcases h with h | h
        · omega
        · exact absurd h hnn
      · unfold upd
        rw [hfun]
        by_cases e : j = i
        · subst e; rw [if_pos rfl]; exact hRi
        · rw [if_neg e]
          rw [on_set hi'] at hon
          rcases hon with h | h
          · exact absurd h e
          · exact hst j i _ _ _ _ hj hin e h hi2 hc hi3 (hR j hj h) hle
    · have hin : i = n := by omega
      subst hin
      have hall := hcov hi3
      refine wpOp_mono ?_ (hlast _ u w hC hall hi2 (fun j hj => hR j hj (hall j hj)))
      intro a' w' hQ
      exact ⟨hcl, fun _ => hQ, fun h => absurd ((on_set hi').2 (.inl rfl)) h⟩
  · intro listed a w hs ⟨_, hA, _⟩ hr
    exact hA (all_on hs ho hr n (by omega))

/-- What stands while a value is told into a fresh box, which operation p makes and operation q tells. -/
def CU (w0 : World) (p q : Nat) (zs : Array Value) (T : TypeId) (St : Nat → World → Prop) (L : Nat → Prop) (u : Nat → Value) (W : World) : Prop :=
  Below w0.heap.size w0 W ∧ (L p → ∃ b, u p = .pointer (some ⟨b, 0, none⟩) ∧ w0.heap.size ≤ b ∧ (¬ L q → W.heap[b]? = some (.cells zs T (0, 0))) ∧ (L q → St b W))
theorem CU.keep {w0 W W' : World} {p q i : Nat} {zs : Array Value} {T : TypeId} {St : Nat → World → Prop} {L : Nat → Prop} {u : Nat → Value} (h : CU w0 p q zs T St L u W) (hp : i ≠ p) (hq : i ≠ q) (hs : ∀ b, St b W → St b W') (hb : Below W.heap.size W W') (v : Value) : CU w0 p q zs T St (fun j => j = i ∨ L j) (upd u i v) W' := by
  refine ⟨h.1.trans (hb.mono h.1.size), fun hl => ?_⟩
  obtain ⟨b, h1, h2, h3, h4⟩ := h.2 (hl.resolve_left (Ne.symm hp))
  refine ⟨b, by unfold upd; rw [if_neg (Ne.symm hp)]; exact h1, h2, fun hn => ?_, fun hl => hs b (h4 (hl.resolve_left (Ne.symm hq)))⟩
  have := h3 fun hl => hn (.inr hl)
  exact (hb.block b (Array.getElem?_eq_some_iff.1 this).1).trans this
theorem CU.same {w0 W : World} {p q i : Nat} {zs : Array Value} {T : TypeId} {St : Nat → World → Prop} {L : Nat → Prop} {u : Nat → Value} (h : CU w0 p q zs T St L u W) (hp : i ≠ p) (hq : i ≠ q) (v : Value) : CU w0 p q zs T St (fun j => j = i ∨ L j) (upd u i v) W :=
  h.keep hp hq (fun _ h => h) (Below.refl _ _) v
theorem CU.make {w0 W : World} {p q : Nat} {zs : Array Value} {T : TypeId} {St : Nat → World → Prop} {L : Nat → Prop} {u : Nat → Value} (h : CU w0 p q zs T St L u W) (hpq : p ≠ q) (hnq : ¬ L q) : CU w0 p q zs T St (fun j => j = p ∨ L j) (upd u p (.pointer (some ⟨W.heap.size, 0, none⟩))) (W.alloc (.cells zs T)) :=
  ⟨h.1.alloc h.1.size _, fun _ => ⟨W.heap.size, by simp [upd], h.1.size, fun _ => heap_alloc_new W _, fun hl => absurd (hl.resolve_left (Ne.symm hpq)) hnq⟩⟩
theorem CU.told {w0 W W' : World} {p q b : Nat} {zs : Array Value} {T : TypeId} {St : Nat → World → Prop} {L : Nat → Prop} {u : Nat → Value} (h : CU w0 p q zs T St L u W) (hpq : p ≠ q) (hu : u p = .pointer (some ⟨b, 0, none⟩)) (hb : w0.heap.size ≤ b) (hg : W.grownBy W' (some b)) (hst : St b W') (v : Value) : CU w0 p q zs T St (fun j => j = q ∨ L j) (upd u q v) W' :=
  ⟨h.1.grown hg h.1.size (fun k hk => by cases hk; exact hb), fun _ => ⟨b, by unfold upd; rw [if_neg hpq]; exact hu, hb, fun hn => absurd (.inl rfl) hn, fun _ => hst⟩⟩
def Blank (R : Value → World → Prop) : Prop := ∀ v w w', R v w → R v w'
def SteadyR (R : Value → World → Prop) : Prop := ∀ v w w', R v w → Below w.heap.size w w' → R v w'
def AllOf (P : (Value → World → Prop) → Prop) : List (Value → World → Prop) → Prop
  | [] => True
  | r :: rs => P r ∧ AllOf P rs
theorem allOf_at {P : (Value → World → Prop) → Prop} (h0 : P (fun _ _ => True)) : ∀ {Rs : List (Value → World → Prop)} {i : Nat}, AllOf P Rs → P (Rs.getD i (fun _ _ => True))
  | [], i, _ => by simpa using h0
  | r :: rs, 0, h => by simpa using h.1
  | r :: rs, i + 1, h => by simpa using allOf_at h0 (Rs := rs) (i := i) h.2
theorem blank_eq (x : Value) : Blank (fun v _ => v = x) := fun _ _ _ h => h
theorem blank_t : Blank (fun _ _ => True) := fun _ _ _ _ => trivial
theorem steadyr_t : SteadyR (fun _ _ => True) := fun _ _ _ _ _ => trivial
def RU (Es Rs : List (Value → World → Prop)) (q i : Nat) (L : Nat → Prop) (v : Value) (W : World) : Prop := Es.getD i (fun _ _ => True) v W ∧ (¬ L q → Rs.getD i (fun _ _ => True) v W)
theorem ru_stay {Es Rs : List (Value → World → Prop)} {q i j : Nat} {L : Nat → Prop} {v : Value} {w w' : World} (hE : AllOf Blank Es) (hS : AllOf SteadyR Rs) (hR : RU Es Rs q i L v w) (hle : j = q ∨ Below w.heap.size w w') : RU Es Rs q i (fun a => a = j ∨ L a) v w' :=
  ⟨allOf_at blank_t hE v w w' hR.1, fun hn => allOf_at steadyr_t hS v w w' (hR.2 fun hl => hn (.inr hl)) (hle.resolve_left fun e => hn (.inl e.symm))⟩
end Go.Proofs.YtjhgibmeokghmaaDoor
