/- Houses and names: pure. -/
import Derived.Test.YtojmfcpkmknleaaDoorCfDr
import Derived.Test.YtojmfcpkmknleaaDoorCfgI4
import Derived.Test.YtojmfcpkmknleaaDoorCfgS5
namespace Go.Proofs.YtojmfcpkmknleaaDoor
open Go.RowKit

theorem route_at {hs : List Hs} {i : Nat} {h : Hs} {x : ByteArray} (hc : cfgB hs = true) (hi : hs[i]? = some h) (hx : x ∈ h.names) : routeI hs x = (i : Int) := by
  unfold routeI
  rw [if_pos hc, find_some hi hx fun y hy hxy => ?_]
  · rfl
  · have d := (cfgB_iff.1 hc).2.2
    have e : namesL hs = namesL (hs.take i) ++ namesL (hs.drop i) := by
      unfold namesL; rw [← List.flatMap_append, List.take_append_drop]
    rw [e] at d
    have h1 : x ∈ namesL (hs.take i) := List.mem_flatMap.2 ⟨y, hy, hxy⟩
    have h2 : x ∈ namesL (hs.drop i) := List.mem_flatMap.2 ⟨h, by
      have hl := (List.getElem?_eq_some_iff.1 hi)
      obtain ⟨hlt, rfl⟩ := hl
      rw [List.drop_eq_getElem_cons hlt]; exact List.mem_cons_self .., hx⟩
    exact (List.nodup_append.1 d).2.2 x h1 x h2 rfl
theorem route_hit {hs : List Hs} {s : ByteArray} {k : Nat} (h : routeI hs s = (k : Int)) : ∃ x, hs[k]? = some x ∧ s ∈ x.names := by
  unfold routeI at h
  split at h
  · cases hf : findI hs s with
    | none => rw [hf] at h; simp only [optI] at h; omega
    | some j =>
      rw [hf] at h
      have : j = k := by simp only [optI] at h; omega
      subst this
      unfold findI at hf
      obtain ⟨hlt, h1, _⟩ := List.findIdx?_eq_some_iff_getElem.1 hf
      exact ⟨hs[j], List.getElem?_eq_getElem hlt, hasL_iff.1 h1⟩
  · omega
theorem route_cases (hs : List Hs) (s : ByteArray) : routeI hs s = -1 ∨ ∃ k : Nat, routeI hs s = (k : Int) := by
  unfold routeI
  split
  · unfold optI
    split
    · exact .inr ⟨_, rfl⟩
    · exact .inl rfl
  · exact .inl rfl
theorem route_bad {hs : List Hs} {s : ByteArray} (h : cfgB hs = false) : routeI hs s = -1 := by
  unfold routeI; rw [if_neg (by rw [h]; decide)]
theorem hasL_step {L : List ByteArray} {k : Nat} {x s : ByteArray} (hk : L[k]? = some x) : hasL (L.take (k + 1)) s = (hasL (L.take k) s || decide (x = s)) := by
  rw [List.take_add_one, hk]
  unfold hasL
  rw [List.any_append]; simp

def BlindC (R : Value → World → Prop) : Prop := ∀ v w w', R v w → R v w'
theorem blind_atC {Rs : List (Value → World → Prop)} (h : ∀ R ∈ Rs, BlindC R) {i : Nat} {v : Value} {w w' : World} (hR : RAt Rs i v w) : RAt Rs i v w' := by
  unfold RAt at *
  by_cases hi : i < Rs.length
  · rw [List.getD_eq_getElem?_getD, List.getElem?_eq_getElem hi] at hR ⊢
    exact h _ (List.getElem_mem hi) v w w' hR
  · rw [List.getD_eq_getElem?_getD, List.getElem?_eq_none (by omega)]; trivial
theorem blind_eqC (x : Value) : BlindC (REq x) := fun _ _ _ h => h
theorem blind_tC : BlindC (fun _ _ => True) := fun _ _ _ _ => trivial
theorem upd_self (u : Nat → Value) (i : Nat) : upd u i (u i) = u := by funext j; unfold upd; split <;> simp_all
def BlindAllC : List (Value → World → Prop) → Prop
  | [] => True
  | r :: rs => BlindC r ∧ BlindAllC rs
theorem blind_allC : ∀ {Rs : List (Value → World → Prop)} {i : Nat}, BlindAllC Rs → BlindC (RAt Rs i)
  | [], i, _ => fun _ _ _ _ => by simp [RAt]
  | r :: rs, 0, h => by simpa [RAt] using h.1
  | r :: rs, i + 1, h => by simpa [RAt] using blind_allC (Rs := rs) (i := i) h.2
theorem hoks3C {hs : List Hs} (h : ∀ x ∈ hs, HSm3 x) {K : Nat} (hK : 40 ≤ K) : HOks hs K := fun x hx s hs => Nat.le_trans ((h x hx).1 s hs) hK
end Go.Proofs.YtojmfcpkmknleaaDoor
