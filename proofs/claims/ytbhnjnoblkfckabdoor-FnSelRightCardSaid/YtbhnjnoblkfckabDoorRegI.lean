/- A region that draws its order, inside a fence: by what each operation leaves for the others; no function of the program. -/
import Derived.Test.YtbhnjnoblkfckabDoorReg
import Derived.OrdersIn
import Derived.TacticsIn
namespace Go.Proofs.YtbhnjnoblkfckabDoor

theorem wpAnyIn_inv {F : Fence} {nF : Nat} {P : Program} {ops : Array Oper} {Q : Exit → Act → World → Prop} {md : Region.Mode} (Inv : Array Bool → Act → World → Prop)
    (hstep : ∀ (listed : Array Bool) a w, listed.size = ops.size → Inv listed a w → ∀ i ∈ Region.ready md ops listed, wpOpIn F nF P ops Q i (fun a' w' => Inv (listed.setIfInBounds i true) a' w') a w)
    (hend : ∀ (listed : Array Bool) a w, listed.size = ops.size → Inv listed a w → Region.ready md ops listed = [] → Q .normal a w) :
    ∀ (fuel : Nat) (listed : Array Bool) (a : Act) (w : World), listed.size = ops.size → listed.toList.count false ≤ fuel → Inv listed a w → wpAnyIn F nF P md ops Q fuel listed a w := by
  intro fuel
  induction fuel with
  | zero =>
    intro listed a w hs hc h
    have hall : ∀ b ∈ listed.toList, b = true := fun b hb => by
      cases b with
      | true => rfl
      | false => exact absurd (List.count_pos_iff.2 hb) (by omega)
    have hr : Region.ready md ops listed = [] := by
      unfold Region.ready
      rw [List.filter_eq_nil_iff]
      intro i hi
      have hi' : i < listed.size := by rw [hs]; exact List.mem_range.1 hi
      have : listed.getD i true = true := by
        rw [Array.getD_eq_getD_getElem?, Array.getElem?_eq_getElem hi']
        exact hall _ (by simp)
      simp [this]
    exact ⟨hr, hend _ _ _ hs h hr⟩
  | succ fuel ih =>
    intro listed a w hs hc h
    refine ⟨fun hr => hend _ _ _ hs h hr, fun i hi => ?_⟩
    have hready := hi
    unfold Region.ready at hready
    rw [List.mem_filter] at hready
    have hi' : i < listed.size := by rw [hs]; exact List.mem_range.1 hready.1
    have hf : listed[i] = false := by
      have := hready.2
      rw [Bool.and_eq_true] at this
      have h1 := this.1
      rw [Array.getD_eq_getD_getElem?, Array.getElem?_eq_getElem hi'] at h1
      simpa using h1
    refine wpOpIn_mono (fun a' w' h' => ih _ a' w' (by simpa using hs) ?_ h') (hstep listed a w hs h i hi)
    have hset : (listed.setIfInBounds i true).toList = listed.toList.set i true := by simp
    rw [hset, List.count_set (by simpa using hi')]
    have hm : 0 < listed.toList.count false := List.count_pos_iff.2 (by rw [← hf]; simp)
    have hg : listed.toList[i]'(by simpa using hi') = false := by simpa using hf
    rw [hg]
    simp only [beq_self_eq_true, if_true, show ((true == false) = true) = False from by simp, if_false]
    omega

theorem wpIn_region_inv {F : Fence} {nF : Nat} {P : Program} {ops : Array Oper} {Q : Exit → Act → World → Prop} {id : Nat} {a : Act} {w : World} (hm : P.follows .mixedOrders = true) (Inv : Array Bool → Act → World → Prop)
    (h0 : Inv (Array.replicate ops.size false) a w.drew)
    (hstep : ∀ (listed : Array Bool) a w, listed.size = ops.size → Inv listed a w → ∀ i ∈ Region.ready .any ops listed, wpOpIn F nF P ops Q i (fun a' w' => Inv (listed.setIfInBounds i true) a' w') a w)
    (hend : ∀ (listed : Array Bool) a w, listed.size = ops.size → Inv listed a w → Region.ready .any ops listed = [] → Q .normal a w) : (Code.region id ops true).wpIn F nF P Q a w :=
  wpIn_region_any hm (wpAnyIn_inv Inv hstep hend ops.size _ _ _ (by simp) (by simp) h0)

theorem wpIn_region_last {F : Fence} {nF : Nat} {P : Program} {ops : Array Oper} {Q : Exit → Act → World → Prop} {id : Nat} {w : World} (hm : P.follows .mixedOrders = true) (n : Nat) (hn : ops.size = n + 1) (ho : ordB ops = true) (hl : lastB ops n = true)
    (mk : (Nat → Value) → Act) (C : Nat → World → Prop) (R : Nat → Value → World → Prop) (le : World → World → Prop) (u0 : Nat → Value)
    (h0 : C 0 w.drew) (hst : ∀ i v w w', i < n → R i v w → le w w' → R i v w')
    (hstep : ∀ i, i < n → ∀ (u : Nat → Value) (w : World) (k : Nat), k ≤ n → C k w → (∀ j ∈ deps ops i, R j (u j) w) → wpOpIn F nF P ops Q i (fun a' w' => ∃ v, a' = mk (upd u i v) ∧ R i v w' ∧ le w w' ∧ C (k + 1) w') (mk u) w)
    (hlast : ∀ (u : Nat → Value) (w : World) (k : Nat), k ≤ n → C k w → (∀ j, j < n → R j (u j) w) → wpOpIn F nF P ops Q n (fun a' w' => Q .normal a' w') (mk u) w) :
    (Code.region id ops true).wpIn F nF P Q (mk u0) w := by
  have hord : ∀ i, i < ops.size → ∀ j ∈ deps ops i, j < i := fun i hi j hj => by
    unfold ordB at ho
    rw [List.all_eq_true] at ho
    have h1 := ho i (List.mem_range.2 hi)
    rw [List.all_eq_true] at h1
    simpa using h1 j hj
  refine wpIn_region_inv hm (fun listed a w => (∀ i, On listed i → ∀ j ∈ deps ops i, On listed j) ∧ (On listed n → Q .normal a w) ∧ (¬ On listed n → ∃ u, a = mk u ∧ C (listed.toList.count true) w ∧ ∀ i, i < n → On listed i → R i (u i) w)) ?_ ?_ ?_
  · refine ⟨fun i hi => ?_, fun h => ?_, fun _ => ⟨u0, rfl, ?_, fun i _ hi => ?_⟩⟩
    · unfold On at hi; rw [Array.getD_eq_getD_getElem?, Array.getElem?_replicate] at hi; split at hi <;> simp at hi
    · unfold On at h; rw [Array.getD_eq_getD_getElem?, Array.getElem?_replicate] at h; split at h <;> simp at h
    · rw [show (Array.replicate ops.size false).toList.count true = 0 from by rw [Array.toList_replicate, List.count_replicate]; simp]; exact h0
    · unfold On at hi; rw [Array.getD_eq_getD_getElem?, Array.getElem?_replicate] at hi; split at hi <;> simp at hi
  · intro listed a w hs ⟨hc, hA, hB⟩ i hi
    obtain ⟨hi1, hi2, hi3⟩ := ready_at hs hi
    have hcov : (∀ j ∈ deps ops n, On listed j) → ∀ j, j < n → On listed j := fun hd j hj => by
      unfold lastB at hl
      rw [List.all_eq_true] at hl
      have h1 := hl j (List.mem_range.2 hj)
      exact ancs_on hc _ _ hd j (by simpa using h1)
    have hnn : ¬ On listed n := fun h => by
      rcases Nat.lt_or_ge i n with hin | hin
      · exact hi2 (hcov (hc n h) i hin)
      · have : i = n := by omega
        subst this; exact hi2 h
    obtain ⟨u, rfl, hC, hR⟩ := hB hnn
    have hi' : i < listed.size := by omega
    have hcl : ∀ i', On (listed.setIfInBounds i true) i' → ∀ j ∈ deps ops i', On (listed.setIfInBounds i true) j := fun i' h j hj => by
      rw [on_set hi'] at h ⊢
      rcases h with rfl | h
      · exact .inr (hi3 j hj)
      · exact .inr (hc i' h j hj)
    have hk : listed.toList.count true ≤ n := by have := count_le hi' hi2; omega
    rcases Nat.lt_or_ge i n with hin | hin
    · refine wpOpIn_mono ?_ (hstep i hin u w _ hk hC (fun j hj => hR j (by have := hord i hi1 j hj; omega) (hi3 j hj)))
      rintro a' w' ⟨v, rfl, hRi, hle, hC'⟩
      refine ⟨hcl, fun h => ?_, fun _ => ⟨_, rfl, by rw [count_set hi' hi2]; exact hC', fun j hj hon => ?_⟩⟩
      · rw [on_set hi'] at h
        rcases h with h | h
        · omega
        · exact absurd h hnn
      · unfold upd
        by_cases e : j = i
        · subst e; rw [if_pos rfl]; exact hRi
        · rw [if_neg e]
          rw [on_set hi'] at hon
          rcases hon with h | h
          · exact absurd h e
          · exact hst j _ _ _ hj (hR j hj h) hle
    · have hin : i = n := by omega
      subst hin
      have hall := hcov hi3
      refine wpOpIn_mono ?_ (hlast u w _ hk hC (fun j hj => hR j hj (hall j hj)))
      intro a' w' hQ
      exact ⟨hcl, fun _ => hQ, fun h => absurd ((on_set hi').2 (.inl rfl)) h⟩
  · intro listed a w hs ⟨_, hA, _⟩ hr
    exact hA (all_on hs ho hr n (by omega))

theorem wpIn_region_all {F : Fence} {nF : Nat} {P : Program} {ops : Array Oper} {Q : Exit → Act → World → Prop} {id : Nat} {w : World} (hm : P.follows .mixedOrders = true) (n : Nat) (hn : ops.size = n) (ho : ordB ops = true)
    (mk : (Nat → Value) → Act) (C : Nat → World → Prop) (R : Nat → Value → World → Prop) (le : World → World → Prop) (u0 : Nat → Value)
    (h0 : C 0 w.drew) (hst : ∀ i v w w', i < n → R i v w → le w w' → R i v w')
    (hstep : ∀ i, i < n → ∀ (u : Nat → Value) (w : World) (k : Nat), k < n → C k w → (∀ j ∈ deps ops i, R j (u j) w) → wpOpIn F nF P ops Q i (fun a' w' => ∃ v, a' = mk (upd u i v) ∧ R i v w' ∧ le w w' ∧ C (k + 1) w') (mk u) w)
    (hend : ∀ (u : Nat → Value) (w : World) (k : Nat), k ≤ n → C k w → (∀ j, j < n → R j (u j) w) → Q .normal (mk u) w) :
    (Code.region id ops true).wpIn F nF P Q (mk u0) w := by
  refine wpIn_region_inv hm (fun listed a w => ∃ u, a = mk u ∧ C (listed.toList.count true) w ∧ ∀ i, i < n → On listed i → R i (u i) w) ?_ ?_ ?_
  · refine ⟨u0, rfl, ?_, fun i _ hi => ?_⟩
    · rw [show (Array.replicate ops.size false).toList.count true = 0 from by rw [Array.toList_replicate, List.count_replicate]; simp]; exact h0
    · unfold On at hi; rw [Array.getD_eq_getD_getElem?, Array.getElem?_replicate] at hi; split at hi <;> simp at hi
  · rintro listed a w hs ⟨u, rfl, hC, hR⟩ i hi
    obtain ⟨hi1, hi2, hi3⟩ := ready_at hs hi
    have hi' : i < listed.size := by omega
    have hk : listed.toList.count true < n := by have := count_le hi' hi2; omega
    have hord : ∀ j ∈ deps ops i, j < i := fun j hj => by
      unfold ordB at ho
      rw [List.all_eq_true] at ho
      have h1 := ho i (List.mem_range.2 hi1)
      rw [List.all_eq_true] at h1
      simpa using h1 j hj
    refine wpOpIn_mono ?_ (hstep i (by omega) u w _ hk hC (fun j hj => hR j (by have := hord j hj; omega) (hi3 j hj)))
    rintro a' w' ⟨v, rfl, hRi, hle, hC'⟩
    refine ⟨_, rfl, by rw [count_set hi' hi2]; exact hC', fun j hj hon => ?_⟩
    unfold upd
    by_cases e : j = i
    · subst e; rw [if_pos rfl]; exact hRi
    · rw [if_neg e]
      rw [on_set hi'] at hon
      rcases hon with h | h
      · exact absurd h e
      · exact hst j _ _ _ hj (hR j hj h) hle
  · rintro listed a w hs ⟨u, rfl, hC, hR⟩ hr
    have hall := all_on hs ho hr
    have hk : listed.toList.count true ≤ n := by
      have h1 := List.count_le_length (a := true) (l := listed.toList)
      have h3 : listed.toList.length = listed.size := by simp
      omega
    exact hend u w _ hk hC fun j hj => hR j hj (hall j (by omega))

/-- A region whose last operation waits for all others; what is told of the world may look at which operations have run. -/
theorem wpIn_region_lastL {F : Fence} {nF : Nat} {P : Program} {ops : Array Oper} {Q : Exit → Act → World → Prop} {id : Nat} {w : World} (hm : P.follows .mixedOrders = true) (n : Nat) (hn : ops.size = n + 1) (ho : ordB ops = true) (hl : lastB ops n = true)
    (mk : (Nat → Value) → Act) (C : (Nat → Prop) → Nat → World → Prop) (R : Nat → Value → World → Prop) (le : Nat → World → World → Prop) (u0 : Nat → Value)
    (h0 : C (fun _ => False) 0 w.drew) (hst : ∀ i j v w w', i < n → j < n → i ≠ j → R i v w → le j w w' → R i v w')
    (hstep : ∀ i, i < n → ∀ (L : Nat → Prop) (u : Nat → Value) (w : World) (k : Nat), k ≤ n → ¬ L i → C L k w → (∀ j ∈ deps ops i, R j (u j) w) → wpOpIn F nF P ops Q i (fun a' w' => ∃ v, a' = mk (upd u i v) ∧ R i v w' ∧ le i w w' ∧ C (fun j => j = i ∨ L j) (k + 1) w') (mk u) w)
    (hlast : ∀ (L : Nat → Prop) (u : Nat → Value) (w : World) (k : Nat), k ≤ n → C L k w → (∀ j, j < n → R j (u j) w) → wpOpIn F nF P ops Q n (fun a' w' => Q .normal a' w') (mk u) w) :
    (Code.region id ops true).wpIn F nF P Q (mk u0) w := by
  have hord : ∀ i, i < ops.size → ∀ j ∈ deps ops i, j < i := fun i hi j hj => by
    unfold ordB at ho
    rw [List.all_eq_true] at ho
    have h1 := ho i (List.mem_range.2 hi)
    rw [List.all_eq_true] at h1
    simpa using h1 j hj
  refine wpIn_region_inv hm (fun listed a w => (∀ i, On listed i → ∀ j ∈ deps ops i, On listed j) ∧ (On listed n → Q .normal a w) ∧ (¬ On listed n → ∃ u, a = mk u ∧ C (On listed) (listed.toList.count true) w ∧ ∀ i, i < n → On listed i → R i (u i) w)) ?_ ?_ ?_
  · refine ⟨fun i hi => ?_, fun h => ?_, fun _ => ⟨u0, rfl, ?_, fun i _ hi => ?_⟩⟩
    · unfold On at hi; rw [Array.getD_eq_getD_getElem?, Array.getElem?_replicate] at hi; split at hi <;> simp at hi
    · unfold On at h; rw [Array.getD_eq_getD_getElem?, Array.getElem?_replicate] at h; split at h <;> simp at h
    · rw [show (Array.replicate ops.size false).toList.count true = 0 from by rw [Array.toList_replicate, List.count_replicate]; simp]; rw [show On (Array.replicate ops.size false) = fun _ => False from funext fun j => by unfold On; rw [Array.getD_eq_getD_getElem?, Array.getElem?_replicate]; split <;> simp]; exact h0
    · unfold On at hi; rw [Array.getD_eq_getD_getElem?, Array.getElem?_replicate] at hi; split at hi <;> simp at hi
  · intro listed a w hs ⟨hc, hA, hB⟩ i hi
    obtain ⟨hi1, hi2, hi3⟩ := ready_at hs hi
    have hcov : (∀ j ∈ deps ops n, On listed j) → ∀ j, j < n → On listed j := fun hd j hj => by
      unfold lastB at hl
      rw [List.all_eq_true] at hl
      have h1 := hl j (List.mem_range.2 hj)
      exact ancs_on hc _ _ hd j (by simpa using h1)
    have hnn : ¬ On listed n := fun h => by
      rcases Nat.lt_or_ge i n with hin | hin
      · exact hi2 (hcov (hc n h) i hin)
      · have : i = n := by omega
        subst this; exact hi2 h
    obtain ⟨u, rfl, hC, hR⟩ := hB hnn
    have hi' : i < listed.size := by omega
    have hcl : ∀ i', On (listed.setIfInBounds i true) i' → ∀ j ∈ deps ops i', On (listed.setIfInBounds i true) j := fun i' h j hj => by
      rw [on_set hi'] at h ⊢
      rcases h with rfl | h
      · exact .inr (hi3 j hj)
      · exact .inr (hc i' h j hj)
    have hk : listed.toList.count true ≤ n := by have := count_le hi' hi2; omega
    rcases Nat.lt_or_ge i n with hin | hin
    · refine wpOpIn_mono ?_ (hstep i hin _ u w _ hk hi2 hC (fun j hj => hR j (by have := hord i hi1 j hj; omega) (hi3 j hj)))
      rintro a' w' ⟨v, rfl, hRi, hle, hC'⟩
      refine ⟨hcl, fun h => ?_, fun _ => ⟨_, rfl, by rw [count_set hi' hi2, show On (listed.setIfInBounds i true) = fun j => j = i ∨ On listed j from funext fun j => propext (on_set hi')]; exact hC', fun j hj hon => ?_⟩⟩
      · rw [on_set hi'] at h
        rcases h with h | h
        · omega
        · exact absurd h hnn
      · unfold upd
        by_cases e : j = i
        · subst e; rw [if_pos rfl]; exact hRi
        · rw [if_neg e]
          rw [on_set hi'] at hon
          rcases hon with h | h
          · exact absurd h e
          · exact hst j i _ _ _ hj hin e (hR j hj h) hle
    · have hin : i = n := by omega
      subst hin
      have hall := hcov hi3
      refine wpOpIn_mono ?_ (hlast _ u w _ hk hC (fun j hj => hR j hj (hall j hj)))
      intro a' w' hQ
      exact ⟨hcl, fun _ => hQ, fun h => absurd ((on_set hi').2 (.inl rfl)) h⟩
  · intro listed a w hs ⟨_, hA, _⟩ hr
    exact hA (all_on hs ho hr n (by omega))

end Go.Proofs.YtbhnjnoblkfckabDoor
