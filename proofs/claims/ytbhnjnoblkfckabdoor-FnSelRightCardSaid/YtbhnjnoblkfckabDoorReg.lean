/- A region that draws its order, by what each operation leaves for the others: one proof an operation, whatever the order; no function of the program. -/
import Derived.Orders
import Derived.RegionTactic
import Derived.WalkKit
namespace Go.Proofs.YtbhnjnoblkfckabDoor

/-- What operation i waits for. -/
def deps (ops : Array Oper) (i : Nat) : List Nat := ((ops[i]?).map fun o => (o.after.toList.filter (Region.binds .any)).map (·.on)).getD []
def upd (u : Nat → Value) (i : Nat) (v : Value) : Nat → Value := fun j => if j = i then v else u j
/-- All that l waits for, f steps deep. -/
def ancs (ops : Array Oper) : Nat → List Nat → List Nat
  | 0, l => l
  | f + 1, l => ancs ops f (l ++ l.flatMap (deps ops))
def ordB (ops : Array Oper) : Bool := (List.range ops.size).all fun i => (deps ops i).all fun j => decide (j < i)
def lastB (ops : Array Oper) (n : Nat) : Bool := (List.range n).all fun j => (ancs ops n (deps ops n)).contains j

def On (listed : Array Bool) (j : Nat) : Prop := listed.getD j false = true

theorem ready_at {ops : Array Oper} {listed : Array Bool} (hs : listed.size = ops.size) {i : Nat} (h : i ∈ Region.ready .any ops listed) : i < ops.size ∧ ¬ On listed i ∧ ∀ j ∈ deps ops i, On listed j := by
  unfold Region.ready at h
  rw [List.mem_filter] at h
  obtain ⟨h1, h2⟩ := h
  have hi : i < ops.size := List.mem_range.1 h1
  rw [Bool.and_eq_true] at h2
  obtain ⟨h2, h3⟩ := h2
  refine ⟨hi, ?_, ?_⟩
  · intro hon
    unfold On at hon
    have hi' : i < listed.size := by omega
    rw [Array.getD_eq_getD_getElem?, Array.getElem?_eq_getElem hi'] at h2 hon
    simp at h2 hon
    rw [hon] at h2; cases h2
  · intro j hj
    unfold deps at hj
    rw [Array.getElem?_eq_getElem hi] at hj h3
    simp only [Option.map_some, Option.getD_some, List.mem_map, List.mem_filter] at hj
    obtain ⟨e, ⟨he1, he2⟩, rfl⟩ := hj
    simp only [Option.map_some, Option.getD_some, Array.all_eq_true'] at h3
    have := h3 e (by simpa using he1)
    rw [he2] at this
    simpa [On] using this

theorem ready_mk {ops : Array Oper} {listed : Array Bool} (hs : listed.size = ops.size) {i : Nat} (hi : i < ops.size) (h1 : ¬ On listed i) (h2 : ∀ j ∈ deps ops i, On listed j) : i ∈ Region.ready .any ops listed := by
  unfold Region.ready
  rw [List.mem_filter]
  refine ⟨List.mem_range.2 hi, ?_⟩
  rw [Bool.and_eq_true]
  constructor
  · unfold On at h1
    have hi' : i < listed.size := by omega
    rw [Array.getD_eq_getD_getElem?, Array.getElem?_eq_getElem hi'] at h1 ⊢
    simpa using h1
  · unfold deps at h2
    rw [Array.getElem?_eq_getElem hi] at h2 ⊢
    simp only [Option.map_some, Option.getD_some, List.mem_map, List.mem_filter] at h2 ⊢
    simp only [Array.all_eq_true']
    intro e he
    cases hb : Region.binds .any e with
    | false => simp
    | true =>
      have := h2 e.on ⟨e, ⟨by simpa using he, hb⟩, rfl⟩
      unfold On at this
      simp [this]

theorem all_on {ops : Array Oper} {listed : Array Bool} (hs : listed.size = ops.size) (ho : ordB ops = true) (hr : Region.ready .any ops listed = []) : ∀ i, i < ops.size → On listed i := by
  intro i
  induction i using Nat.strongRecOn with
  | _ i ih =>
    intro hi
    refine Classical.byContradiction fun hn => ?_
    have : i ∈ Region.ready .any ops listed := ready_mk hs hi hn fun j hj => by
      unfold ordB at ho
      rw [List.all_eq_true] at ho
      have h1 := ho i (List.mem_range.2 hi)
      rw [List.all_eq_true] at h1
      have h2 := h1 j hj
      have hj : j < i := by simpa using h2
      exact ih j hj (by omega)
    rw [hr] at this
    cases this

theorem on_set {listed : Array Bool} {i j : Nat} (hi : i < listed.size) : On (listed.setIfInBounds i true) j ↔ j = i ∨ On listed j := by
  unfold On
  rw [Array.getD_eq_getD_getElem?, Array.getD_eq_getD_getElem?, Array.getElem?_setIfInBounds]
  by_cases h : j = i
  · subst h; simp [hi]
  · simp [h, Ne.symm h]

theorem ancs_on {ops : Array Oper} {listed : Array Bool} (hc : ∀ i, On listed i → ∀ j ∈ deps ops i, On listed j) : ∀ (f : Nat) (l : List Nat), (∀ j ∈ l, On listed j) → ∀ j ∈ ancs ops f l, On listed j := by
  intro f
  induction f with
  | zero => intro l h; exact h
  | succ f ih =>
    intro l h
    refine ih _ fun j hj => ?_
    rcases List.mem_append.1 hj with hj | hj
    · exact h j hj
    · obtain ⟨i, hi, hj⟩ := List.mem_flatMap.1 hj
      exact hc i (h i hi) j hj

theorem count_set {listed : Array Bool} {i : Nat} (hi : i < listed.size) (hn : ¬ On listed i) : (listed.setIfInBounds i true).toList.count true = listed.toList.count true + 1 := by
  have hset : (listed.setIfInBounds i true).toList = listed.toList.set i true := by simp
  have hf : listed.toList[i]'(by simpa using hi) = false := by
    unfold On at hn
    rw [Array.getD_eq_getD_getElem?, Array.getElem?_eq_getElem hi] at hn
    simpa using hn
  rw [hset, List.count_set (by simpa using hi), hf]
  simp

theorem wpAny_inv {P : Program} {ops : Array Oper} {Q : Exit → Act → World → Prop} {md : Region.Mode} (Inv : Array Bool → Act → World → Prop)
    (hstep : ∀ (listed : Array Bool) a w, listed.size = ops.size → Inv listed a w → ∀ i ∈ Region.ready md ops listed, wpOp P ops Q i (fun a' w' => Inv (listed.setIfInBounds i true) a' w') a w)
    (hend : ∀ (listed : Array Bool) a w, listed.size = ops.size → Inv listed a w → Region.ready md ops listed = [] → Q .normal a w) :
    ∀ (fuel : Nat) (listed : Array Bool) (a : Act) (w : World), listed.size = ops.size → listed.toList.count false ≤ fuel → Inv listed a w → wpAny P md ops Q fuel listed a w := by
  intro fuel
  induction fuel with
  | zero =>
    intro listed a w hs hc h
    have hall : ∀ b ∈ listed.toList, b = true := fun b hb => by
      cases b with
      | true => rfl
      | false => exact absurd (List.count_pos_iff.2 hb) (by omega)
    have hr : Region.ready md ops listed = [] := by
      unfold Region.ready
      rw [List.filter_eq_nil_iff]
      intro i hi
      have hi' : i < listed.size := by rw [hs]; exact List.mem_range.1 hi
      have : listed.getD i true = true := by
        rw [Array.getD_eq_getD_getElem?, Array.getElem?_eq_getElem hi']
        exact hall _ (by simp)
      simp [this]
    exact ⟨hr, hend _ _ _ hs h hr⟩
  | succ fuel ih =>
    intro listed a w hs hc h
    refine ⟨fun hr => hend _ _ _ hs h hr, fun i hi => ?_⟩
    have hready := hi
    unfold Region.ready at hready
    rw [List.mem_filter] at hready
    have hi' : i < listed.size := by rw [hs]; exact List.mem_range.1 hready.1
    have hf : listed[i] = false := by
      have := hready.2
      rw [Bool.and_eq_true] at this
      have h1 := this.1
      rw [Array.getD_eq_getD_getElem?, Array.getElem?_eq_getElem hi'] at h1
      simpa using h1
    refine wpOp_mono (fun a' w' h' => ih _ a' w' (by simpa using hs) ?_ h') (hstep listed a w hs h i hi)
    have hset : (listed.setIfInBounds i true).toList = listed.toList.set i true := by simp
    rw [hset, List.count_set (by simpa using hi')]
    have hm : 0 < listed.toList.count false := List.count_pos_iff.2 (by rw [← hf]; simp)
    have hg : listed.toList[i]'(by simpa using hi') = false := by simpa using hf
    rw [hg]
    simp only [beq_self_eq_true, if_true, show ((true == false) = true) = False from by simp, if_false]
    omega

theorem wp_region_inv {P : Program} {ops : Array Oper} {Q : Exit → Act → World → Prop} {id : Nat} {a : Act} {w : World} (hm : P.follows .mixedOrders = true) (Inv : Array Bool → Act → World → Prop)
    (h0 : Inv (Array.replicate ops.size false) a w.drew)
    (hstep : ∀ (listed : Array Bool) a w, listed.size = ops.size → Inv listed a w → ∀ i ∈ Region.ready .any ops listed, wpOp P ops Q i (fun a' w' => Inv (listed.setIfInBounds i true) a' w') a w)
    (hend : ∀ (listed : Array Bool) a w, listed.size = ops.size → Inv listed a w → Region.ready .any ops listed = [] → Q .normal a w) : (Code.region id ops true).wp P Q a w :=
  wp_region_any hm (wpAny_inv Inv hstep hend ops.size _ _ _ (by simp) (by simp) h0)

theorem count_le {listed : Array Bool} {i : Nat} (hi : i < listed.size) (hn : ¬ On listed i) : listed.toList.count true < listed.size := by
  have h := count_set hi hn
  have h2 := List.count_le_length (a := true) (l := (listed.setIfInBounds i true).toList)
  rw [h] at h2
  have h3 : (listed.setIfInBounds i true).toList.length = listed.size := by simp
  omega

/-- A region whose last operation waits for all others. -/
theorem wp_region_last {P : Program} {ops : Array Oper} {Q : Exit → Act → World → Prop} {id : Nat} {w : World} (hm : P.follows .mixedOrders = true) (n : Nat) (hn : ops.size = n + 1) (ho : ordB ops = true) (hl : lastB ops n = true)
    (mk : (Nat → Value) → Act) (C : Nat → World → Prop) (R : Nat → Value → World → Prop) (le : World → World → Prop) (u0 : Nat → Value)
    (h0 : C 0 w.drew) (hst : ∀ i v w w', i < n → R i v w → le w w' → R i v w')
    (hstep : ∀ i, i < n → ∀ (u : Nat → Value) (w : World) (k : Nat), k ≤ n → C k w → (∀ j ∈ deps ops i, R j (u j) w) → wpOp P ops Q i (fun a' w' => ∃ v, a' = mk (upd u i v) ∧ R i v w' ∧ le w w' ∧ C (k + 1) w') (mk u) w)
    (hlast : ∀ (u : Nat → Value) (w : World) (k : Nat), k ≤ n → C k w → (∀ j, j < n → R j (u j) w) → wpOp P ops Q n (fun a' w' => Q .normal a' w') (mk u) w) :
    (Code.region id ops true).wp P Q (mk u0) w := by
  have hord : ∀ i, i < ops.size → ∀ j ∈ deps ops i, j < i := fun i hi j hj => by
    unfold ordB at ho
    rw [List.all_eq_true] at ho
    have h1 := ho i (List.mem_range.2 hi)
    rw [List.all_eq_true] at h1
    simpa using h1 j hj
  refine wp_region_inv hm (fun listed a w => (∀ i, On listed i → ∀ j ∈ deps ops i, On listed j) ∧ (On listed n → Q .normal a w) ∧ (¬ On listed n → ∃ u, a = mk u ∧ C (listed.toList.count true) w ∧ ∀ i, i < n → On listed i → R i (u i) w)) ?_ ?_ ?_
  · refine ⟨fun i hi => ?_, fun h => ?_, fun _ => ⟨u0, rfl, ?_, fun i _ hi => ?_⟩⟩
    · unfold On at hi; rw [Array.getD_eq_getD_getElem?, Array.getElem?_replicate] at hi; split at hi <;> simp at hi
    · unfold On at h; rw [Array.getD_eq_getD_getElem?, Array.getElem?_replicate] at h; split at h <;> simp at h
    · rw [show (Array.replicate ops.size false).toList.count true = 0 from by rw [Array.toList_replicate, List.count_replicate]; simp]; exact h0
    · unfold On at hi; rw [Array.getD_eq_getD_getElem?, Array.getElem?_replicate] at hi; split at hi <;> simp at hi
  · intro listed a w hs ⟨hc, hA, hB⟩ i hi
    obtain ⟨hi1, hi2, hi3⟩ := ready_at hs hi
    have hcov : (∀ j ∈ deps ops n, On listed j) → ∀ j, j < n → On listed j := fun hd j hj => by
      unfold lastB at hl
      rw [List.all_eq_true] at hl
      have h1 := hl j (List.mem_range.2 hj)
      exact ancs_on hc _ _ hd j (by simpa using h1)
    have hnn : ¬ On listed n := fun h => by
      rcases Nat.lt_or_ge i n with hin | hin
      · exact hi2 (hcov (hc n h) i hin)
      · have : i = n := by omega
        subst this; exact hi2 h
    obtain ⟨u, rfl, hC, hR⟩ := hB hnn
    have hi' : i < listed.size := by omega
    have hcl : ∀ i', On (listed.setIfInBounds i true) i' → ∀ j ∈ deps ops i', On (listed.setIfInBounds i true) j := fun i' h j hj => by
      rw [on_set hi'] at h ⊢
      rcases h with rfl | h
      · exact .inr (hi3 j hj)
      · exact .inr (hc i' h j hj)
    have hk : listed.toList.count true ≤ n := by have := count_le hi' hi2; omega
    rcases Nat.lt_or_ge i n with hin | hin
    · refine wpOp_mono ?_ (hstep i hin u w _ hk hC (fun j hj => hR j (by have := hord i hi1 j hj; omega) (hi3 j hj)))
      rintro a' w' ⟨v, rfl, hRi, hle, hC'⟩
      refine ⟨hcl, fun h => ?_, fun _ => ⟨_, rfl, by rw [count_set hi' hi2]; exact hC', fun j hj hon => ?_⟩⟩
      · rw [on_set hi'] at h
        rcases h with h | h
        · omega
        · exact absurd h hnn
      · unfold upd
        by_cases e : j = i
        · subst e; rw [if_pos rfl]; exact hRi
        · rw [if_neg e]
          rw [on_set hi'] at hon
          rcases hon with h | h
          · exact absurd h e
          · exact hst j _ _ _ hj (hR j hj h) hle
    · have hin : i = n := by omega
      subst hin
      have hall := hcov hi3
      refine wpOp_mono ?_ (hlast u w _ hk hC (fun j hj => hR j hj (hall j hj)))
      intro a' w' hQ
      exact ⟨hcl, fun _ => hQ, fun h => absurd ((on_set hi').2 (.inl rfl)) h⟩
  · intro listed a w hs ⟨_, hA, _⟩ hr
    exact hA (all_on hs ho hr n (by omega))

/-- A region, whatever its last operation. -/
theorem wp_region_all {P : Program} {ops : Array Oper} {Q : Exit → Act → World → Prop} {id : Nat} {w : World} (hm : P.follows .mixedOrders = true) (n : Nat) (hn : ops.size = n) (ho : ordB ops = true)
    (mk : (Nat → Value) → Act) (C : Nat → World → Prop) (R : Nat → Value → World → Prop) (le : World → World → Prop) (u0 : Nat → Value)
    (h0 : C 0 w.drew) (hst : ∀ i v w w', i < n → R i v w → le w w' → R i v w')
    (hstep : ∀ i, i < n → ∀ (u : Nat → Value) (w : World) (k : Nat), k < n → C k w → (∀ j ∈ deps ops i, R j (u j) w) → wpOp P ops Q i (fun a' w' => ∃ v, a' = mk (upd u i v) ∧ R i v w' ∧ le w w' ∧ C (k + 1) w') (mk u) w)
    (hend : ∀ (u : Nat → Value) (w : World) (k : Nat), k ≤ n → C k w → (∀ j, j < n → R j (u j) w) → Q .normal (mk u) w) :
    (Code.region id ops true).wp P Q (mk u0) w := by
  refine wp_region_inv hm (fun listed a w => ∃ u, a = mk u ∧ C (listed.toList.count true) w ∧ ∀ i, i < n → On listed i → R i (u i) w) ?_ ?_ ?_
  · refine ⟨u0, rfl, ?_, fun i _ hi => ?_⟩
    · rw [show (Array.replicate ops.size false).toList.count true = 0 from by rw [Array.toList_replicate, List.count_replicate]; simp]; exact h0
    · unfold On at hi; rw [Array.getD_eq_getD_getElem?, Array.getElem?_replicate] at hi; split at hi <;> simp at hi
  · rintro listed a w hs ⟨u, rfl, hC, hR⟩ i hi
    obtain ⟨hi1, hi2, hi3⟩ := ready_at hs hi
    have hi' : i < listed.size := by omega
    have hk : listed.toList.count true < n := by have := count_le hi' hi2; omega
    have hord : ∀ j ∈ deps ops i, j < i := fun j hj => by
      unfold ordB at ho
      rw [List.all_eq_true] at ho
      have h1 := ho i (List.mem_range.2 hi1)
      rw [List.all_eq_true] at h1
      simpa using h1 j hj
    refine wpOp_mono ?_ (hstep i (by omega) u w _ hk hC (fun j hj => hR j (by have := hord j hj; omega) (hi3 j hj)))
    rintro a' w' ⟨v, rfl, hRi, hle, hC'⟩
    refine ⟨_, rfl, by rw [count_set hi' hi2]; exact hC', fun j hj hon => ?_⟩
    unfold upd
    by_cases e : j = i
    · subst e; rw [if_pos rfl]; exact hRi
    · rw [if_neg e]
      rw [on_set hi'] at hon
      rcases hon with h | h
      · exact absurd h e
      · exact hst j _ _ _ hj (hR j hj h) hle
  · rintro listed a w hs ⟨u, rfl, hC, hR⟩ hr
    have hall := all_on hs ho hr
    have hk : listed.toList.count true ≤ n := by
      have h1 := List.count_le_length (a := true) (l := listed.toList)
      have h3 : listed.toList.length = listed.size := by simp
      omega
    exact hend u w _ hk hC fun j hj => hR j hj (hall j (by omega))
def depB (ops : Array Oper) (i j : Nat) : Bool := (deps ops i).contains j
theorem dep_of {ops : Array Oper} {i j : Nat} (h : depB ops i j = true) : j ∈ deps ops i := by simpa [depB] using h
end Go.Proofs.YtbhnjnoblkfckabDoor
