/- Where names lead, as a map holds it; no function of the program. -/
import Derived.Test.YtojmfcpkmknleaaDoorCfgP
import Derived.Maps.OwnSet
import Derived.Maps.OwnIn
import Derived.Maps.Views
namespace Go.Proofs.YtojmfcpkmknleaaDoor
open Go.RowKit Go.Maps

def lookL (L : List (ByteArray × Int)) (s : ByteArray) : Option Int := (L.find? fun p => decide (p.1 = s)).map (·.2)
/-- The map reads as such a list of names and numbers, no name twice. -/
def MapIs (D : DataW Unit) (L : List (ByteArray × Int)) : Prop :=
  IsMap D ∧ ∀ s : ByteArray, Maps.has D (.string s.data.toList) = (lookL L s).isSome ∧ D.atKey (.string s.data.toList) (.lit (.int .i64 0)) = .lit (.int .i64 ((lookL L s).getD 0))

theorem look_snoc (L : List (ByteArray × Int)) (s : ByteArray) (x : Int) (t : ByteArray) : lookL (L ++ [(s, x)]) t = (lookL L t).or (if s = t then some x else none) := by
  unfold lookL
  rw [List.find?_append]
  cases h : L.find? fun p => decide (p.1 = t) with
  | some p => simp
  | none =>
    by_cases e : s = t
    · subst e; simp
    · simp [e]
theorem look_none {L : List (ByteArray × Int)} {s : ByteArray} : lookL L s = none ↔ s ∉ L.map (·.1) := by
  unfold lookL
  rw [Option.map_eq_none_iff, List.find?_eq_none]
  simp only [decide_eq_true_eq, List.mem_map, not_exists, not_and]
theorem mapis_empty : MapIs (.map []) [] := ⟨isMap_empty, fun _ => ⟨rfl, rfl⟩⟩
theorem mstr_inj {a b : ByteArray} (h : a.data.toList = b.data.toList) : a = b := by
  cases a; cases b; simpa [Array.toList_inj] using h
theorem mapis_put {D : DataW Unit} {L : List (ByteArray × Int)} {s : ByteArray} {x : Int} (h : MapIs D L) (hn : lookL L s = none) : MapIs (D.put (.string s.data.toList) (.lit (.int .i64 x))) (L ++ [(s, x)]) := by
  obtain ⟨h1, h2⟩ := h
  refine ⟨h1.put _ _, fun t => ?_⟩
  rw [look_snoc]
  by_cases e : s = t
  · subst e
    rw [has_put_same h1 (by exact trivial), atKey_put_same h1 (by exact trivial), hn]
    simp
  · have ne : (Lit.string t.data.toList) ≠ .string s.data.toList := fun k => e (mstr_inj (by injection k with k; exact k.symm))
    rw [has_put_other ne, atKey_put_other ne, if_neg e, Option.or_none]
    exact h2 t

/-- The names of the houses at such places, each with its place. -/
def namesAt (hs : List Hs) (i : Nat) : List ByteArray := match hs[i]? with | some h => h.names | none => []
def asc (hs : List Hs) (pre : List Nat) : List (ByteArray × Int) := pre.flatMap fun i => (namesAt hs i).map fun s => (s, (i : Int))
theorem asc_snoc (hs : List Hs) (pre : List Nat) (i : Nat) : asc hs (pre ++ [i]) = asc hs pre ++ (namesAt hs i).map fun s => (s, (i : Int)) := by simp [asc]
theorem namesAt_at {hs : List Hs} {i : Nat} {h : Hs} (hi : hs[i]? = some h) : namesAt hs i = h.names := by simp [namesAt, hi]
theorem asc_names (hs : List Hs) (k : Nat) (hk : k ≤ hs.length) : (asc hs (List.range k)).map (·.1) = namesL (hs.take k) := by
  induction k with
  | zero => simp [asc, namesL]
  | succ k ih =>
    have hg : hs[k]? = some hs[k] := List.getElem?_eq_getElem (by omega)
    rw [List.range_succ, asc_snoc, List.map_append, ih (by omega), namesL_take hg, namesAt_at hg, List.map_map]
    congr 1
    simp [Function.comp_def]
theorem look_append (L M : List (ByteArray × Int)) (s : ByteArray) : lookL (L ++ M) s = (lookL L s).or (lookL M s) := by
  unfold lookL
  rw [List.find?_append]
  cases h : L.find? fun p => decide (p.1 = s) <;> simp
theorem look_const (N : List ByteArray) (x : Int) (s : ByteArray) : lookL (N.map fun t => (t, x)) s = if hasL N s = true then some x else none := by
  induction N with
  | nil => rfl
  | cons t N ih =>
    have : lookL (List.map (fun t => (t, x)) (t :: N)) s = (if t = s then some x else lookL (N.map fun t => (t, x)) s) := by
      unfold lookL
      by_cases e : t = s
      · simp [e]
      · simp [e]
    rw [this, ih]
    have h2 : hasL (t :: N) s = (decide (t = s) || hasL N s) := rfl
    rw [h2]
    by_cases e : t = s
    · simp [e]
    · simp [e]
theorem find_take_succ {hs : List Hs} {k : Nat} {h : Hs} (hk : hs[k]? = some h) (s : ByteArray) : findI (hs.take (k + 1)) s = (findI (hs.take k) s).or (if hasL h.names s = true then some k else none) := by
  have hlt := (List.getElem?_eq_some_iff.1 hk).1
  unfold findI
  rw [List.take_add_one, hk, List.findIdx?_append]
  congr 1
  by_cases e : hasL h.names s = true
  · simp [e, List.findIdx?_cons]; omega
  · simp [e, List.findIdx?_cons]
theorem look_asc (hs : List Hs) (s : ByteArray) (k : Nat) (hk : k ≤ hs.length) : lookL (asc hs (List.range k)) s = (findI (hs.take k) s).map fun j => (j : Int) := by
  induction k with
  | zero => simp [asc, lookL, findI]
  | succ k ih =>
    have hg : hs[k]? = some hs[k] := List.getElem?_eq_getElem (by omega)
    rw [List.range_succ, asc_snoc, look_append, ih (by omega), find_take_succ hg, namesAt_at hg, look_const]
    cases findI (hs.take k) s with
    | some j => simp
    | none => by_cases e : hasL hs[k].names s = true <;> simp [e]
theorem look_all (hs : List Hs) (s : ByteArray) : lookL (asc hs (List.range hs.length)) s = (findI hs s).map fun j => (j : Int) := by
  have := look_asc hs s hs.length (Nat.le_refl _)
  rwa [List.take_length] at this
theorem asc_len (hs : List Hs) (k : Nat) (hk : k ≤ hs.length) : (asc hs (List.range k)).length = (namesL (hs.take k)).length := by
  rw [← asc_names hs k hk, List.length_map]

/-- So far all houses are ok, and no name stands twice. -/
def goodTo (hs : List Hs) (k : Nat) : Prop := (∀ h ∈ hs.take k, houseB h = true) ∧ (namesL (hs.take k)).Nodup
theorem good_cfg {hs : List Hs} : cfgB hs = true ↔ (1 ≤ hs.length ∧ hs.length ≤ 4) ∧ goodTo hs hs.length := by
  unfold goodTo
  rw [List.take_length]
  exact cfgB_iff
theorem good_less {hs : List Hs} {k n : Nat} (hk : k ≤ n) (h : goodTo hs n) : goodTo hs k := by
  have e : hs.take k = (hs.take n).take k := by rw [List.take_take, Nat.min_eq_left hk]
  refine ⟨fun x hx => h.1 x (by rw [e] at hx; exact List.mem_of_mem_take hx), ?_⟩
  have e2 : hs.take n = hs.take k ++ (hs.take n).drop k := by rw [e, List.take_append_drop]
  have := h.2
  rw [e2] at this
  unfold namesL at this ⊢
  rw [List.flatMap_append, List.nodup_append] at this
  exact this.1
end Go.Proofs.YtojmfcpkmknleaaDoor
