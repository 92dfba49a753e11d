import Derived.Test.YtbhnjnoblkfckaaGreatDoorGZ00
import Derived.Maps.OwnSet
import Derived.Maps.OwnIn
import Derived.Maps.Views
import Derived.Test.YtbhnjnoblkfckaaGreatDoorShelf
import Derived.Lib.TrimByte
import Derived.Stop.LaidErr
-- from XCfgP
/- Houses: what is said of them, and rows of them in memory; no function of the program. -/
namespace Go.Proofs.YtbhnjnoblkfckaaGreatDoor
open Go.RowKit

/-- A house: its names, its key, its bounds. -/
structure Hs where
  names : List ByteArray
  key : Int
  maxN : Int
  maxB : Int

def inI (n a b : Int) : Bool := decide (a ≤ n) && decide (n ≤ b)
def namesB (L : List ByteArray) : Bool := L.all fun s => hostB s.data.toList
def houseB (h : Hs) : Bool := inI h.names.length 1 3 && (inI h.key 1 9999 && (inI h.maxN 1 6 && (inI h.maxB 1 120 && namesB h.names)))
def namesL (hs : List Hs) : List ByteArray := hs.flatMap (·.names)
def cfgB (hs : List Hs) : Bool := inI hs.length 1 4 && (hs.all houseB && decide (namesL hs).Nodup)
def hasL (L : List ByteArray) (s : ByteArray) : Bool := L.any fun t => decide (t = s)
def findI (hs : List Hs) (s : ByteArray) : Option Nat := hs.findIdx? fun h => hasL h.names s
def optI (o : Option Nat) : Int := match o with | some k => (k : Int) | none => -1
def routeI (hs : List Hs) (s : ByteArray) : Int := if cfgB hs = true then optI (findI hs s) else -1

theorem hasL_iff {L : List ByteArray} {s : ByteArray} : hasL L s = true ↔ s ∈ L := by simp [hasL]
theorem hasL_false {L : List ByteArray} {s : ByteArray} : hasL L s = false ↔ s ∉ L := by rw [← Bool.not_eq_true, hasL_iff]
theorem inI_iff {n a b : Int} : inI n a b = true ↔ a ≤ n ∧ n ≤ b := by simp [inI]
theorem houseB_iff {h : Hs} : houseB h = true ↔ (1 ≤ h.names.length ∧ h.names.length ≤ 3) ∧ (1 ≤ h.key ∧ h.key ≤ 9999) ∧ (1 ≤ h.maxN ∧ h.maxN ≤ 6) ∧ (1 ≤ h.maxB ∧ h.maxB ≤ 120) ∧ ∀ s ∈ h.names, hostB s.data.toList = true := by
  unfold houseB namesB
  simp only [Bool.and_eq_true, inI_iff, List.all_eq_true]
  constructor
  · rintro ⟨⟨a, b⟩, ⟨c, d⟩, ⟨e, f⟩, ⟨g, i⟩, j⟩; exact ⟨⟨by omega, by omega⟩, ⟨c, d⟩, ⟨e, f⟩, ⟨g, i⟩, j⟩
  · rintro ⟨⟨a, b⟩, ⟨c, d⟩, ⟨e, f⟩, ⟨g, i⟩, j⟩; exact ⟨⟨by omega, by omega⟩, ⟨c, d⟩, ⟨e, f⟩, ⟨g, i⟩, j⟩
theorem cfgB_iff {hs : List Hs} : cfgB hs = true ↔ (1 ≤ hs.length ∧ hs.length ≤ 4) ∧ (∀ h ∈ hs, houseB h = true) ∧ (namesL hs).Nodup := by
  unfold cfgB
  simp only [Bool.and_eq_true, inI_iff, List.all_eq_true, decide_eq_true_eq]
  constructor
  · rintro ⟨⟨a, b⟩, c, d⟩; exact ⟨⟨by omega, by omega⟩, c, d⟩
  · rintro ⟨⟨a, b⟩, c, d⟩; exact ⟨⟨by omega, by omega⟩, c, d⟩

theorem namesL_snoc (hs : List Hs) (h : Hs) : namesL (hs ++ [h]) = namesL hs ++ h.names := by simp [namesL]
theorem namesL_take {hs : List Hs} {k : Nat} {h : Hs} (hk : hs[k]? = some h) : namesL (hs.take (k + 1)) = namesL (hs.take k) ++ h.names := by
  rw [List.take_add_one, hk]; exact namesL_snoc _ _
theorem names_len {hs : List Hs} (h : ∀ x ∈ hs, houseB x = true) : (namesL hs).length ≤ 3 * hs.length := by
  induction hs with
  | nil => simp [namesL]
  | cons x t ih =>
    have := (houseB_iff.1 (h x (by simp))).1
    have := ih (fun y hy => h y (by simp [hy]))
    simp only [namesL, List.flatMap_cons, List.length_append, List.length_cons] at *
    omega

/-- A list of texts in memory. -/
def NRow (w : World) (v : Value) (L : List ByteArray) : Prop :=
  ∃ a c, v = .slice a L.length c ∧ L.length ≤ c ∧ c ≤ maxLen ∧ ∀ j s, L[j]? = some s → ∃ b o, a = some ⟨b, o, none⟩ ∧ b < w.heap.size ∧ w.cell? ⟨b, o + j, none⟩ = some (.string s)
/-- A list of houses in memory. -/
def HRow (w : World) (v : Value) (hs : List Hs) : Prop :=
  ∃ a c, v = .slice a hs.length c ∧ hs.length ≤ c ∧ c ≤ maxLen ∧ ∀ j h, hs[j]? = some h → ∃ b o u, a = some ⟨b, o, none⟩ ∧ b < w.heap.size ∧ w.cell? ⟨b, o + j * 4, none⟩ = some u ∧ NRow w u h.names ∧
    w.cell? ⟨b, o + j * 4 + 1, none⟩ = some (.int .i64 h.key) ∧ w.cell? ⟨b, o + j * 4 + 2, none⟩ = some (.int .i64 h.maxN) ∧ w.cell? ⟨b, o + j * 4 + 3, none⟩ = some (.int .i64 h.maxB)

theorem NRow.below {w w' : World} {v : Value} {L : List ByteArray} (h : NRow w v L) {B : Nat} (hB : w.heap.size ≤ B) (hb : Below B w w') : NRow w' v L := by
  obtain ⟨a, c, rfl, h1, h2, h3⟩ := h
  refine ⟨a, c, rfl, h1, h2, fun j s hj => ?_⟩
  obtain ⟨b, o, rfl, hlt, c1⟩ := h3 j s hj
  exact ⟨b, o, rfl, Nat.lt_of_lt_of_le hlt hb.size, (hb.cell (p := ⟨b, o + j, none⟩) (Nat.lt_of_lt_of_le hlt hB)).trans c1⟩
theorem HRow.below {w w' : World} {v : Value} {hs : List Hs} (h : HRow w v hs) {B : Nat} (hB : w.heap.size ≤ B) (hb : Below B w w') : HRow w' v hs := by
  obtain ⟨a, c, rfl, h1, h2, h3⟩ := h
  refine ⟨a, c, rfl, h1, h2, fun j f hj => ?_⟩
  obtain ⟨b, o, u, rfl, hlt, c1, hs, c2, c3, c4⟩ := h3 j f hj
  have hb' := Nat.lt_of_lt_of_le hlt hB
  exact ⟨b, o, u, rfl, Nat.lt_of_lt_of_le hlt hb.size, (hb.cell (p := ⟨b, o + j * 4, none⟩) hb').trans c1, hs.below hB hb, (hb.cell (p := ⟨b, o + j * 4 + 1, none⟩) hb').trans c2,
    (hb.cell (p := ⟨b, o + j * 4 + 2, none⟩) hb').trans c3, (hb.cell (p := ⟨b, o + j * 4 + 3, none⟩) hb').trans c4⟩

/-- How long the names are. -/
def NOk (L : List ByteArray) (K : Nat) : Prop := ∀ s ∈ L, s.size ≤ K
def HOks (hs : List Hs) (K : Nat) : Prop := ∀ h ∈ hs, NOk h.names K

theorem nrow_get {w : World} {v : Value} {L : List ByteArray} (h : NRow w v L) : ∃ a c, v = .slice a L.length c ∧ L.length ≤ c ∧ c ≤ maxLen := by
  obtain ⟨a, c, rfl, h1, h2, _⟩ := h
  exact ⟨a, c, rfl, h1, h2⟩
/-- A row of texts of the call's own. -/
theorem nrow_own {w : World} {B : Nat} {T : TypeId} {v : Value} {L : List ByteArray} (h : w.ownsRow B T 1 v L.length (L.map Value.string)) : NRow w v L := by
  rcases h.2 with ⟨rfl, h0⟩ | ⟨b, cap, cur, rfl, hb, hh, hn, hm, _, _⟩
  · have : L = [] := List.eq_nil_of_length_eq_zero h0
    subst this
    exact ⟨none, 0, rfl, Nat.le_refl _, Nat.zero_le _, fun j f hj => by simp at hj⟩
  · refine ⟨_, cap, rfl, hn, hm, fun j s hj => ⟨b, 0, rfl, (Array.getElem?_eq_some_iff.1 hh).1, ?_⟩⟩
    rw [Nat.zero_add]
    exact own_cell h (by rw [List.getElem?_map, hj]; rfl)

/-- The first house that has a name. -/
theorem find_none {hs : List Hs} {s : ByteArray} (h : ∀ x ∈ hs, s ∉ x.names) : findI hs s = none := by
  unfold findI; rw [List.findIdx?_eq_none_iff]; intro x hx; exact hasL_false.2 (h x hx)
theorem find_some {hs : List Hs} {s : ByteArray} {k : Nat} {h : Hs} (hk : hs[k]? = some h) (hin : s ∈ h.names) (hno : ∀ x ∈ hs.take k, s ∉ x.names) : findI hs s = some k := by
  unfold findI
  rw [List.findIdx?_eq_some_iff_getElem]
  obtain ⟨hlt, rfl⟩ := List.getElem?_eq_some_iff.1 hk
  refine ⟨hlt, hasL_iff.2 hin, fun j hj => ?_⟩
  have := hno (hs[j]'(by omega)) (List.mem_take_iff_getElem.2 ⟨j, by omega, rfl⟩)
  rw [hasL_false.2 this]; decide
end Go.Proofs.YtbhnjnoblkfckaaGreatDoor

-- from XCfgM
/- Where names lead, as a map holds it; no function of the program. -/
namespace Go.Proofs.YtbhnjnoblkfckaaGreatDoor
open Go.RowKit Go.Maps

def lookL (L : List (ByteArray × Int)) (s : ByteArray) : Option Int := (L.find? fun p => decide (p.1 = s)).map (·.2)
/-- The map reads as such a list of names and numbers, no name twice. -/
def MapIs (D : DataW Unit) (L : List (ByteArray × Int)) : Prop :=
  IsMap D ∧ ∀ s : ByteArray, Maps.has D (.string s.data.toList) = (lookL L s).isSome ∧ D.atKey (.string s.data.toList) (.lit (.int .i64 0)) = .lit (.int .i64 ((lookL L s).getD 0))

theorem look_snoc (L : List (ByteArray × Int)) (s : ByteArray) (x : Int) (t : ByteArray) : lookL (L ++ [(s, x)]) t = (lookL L t).or (if s = t then some x else none) := by
  unfold lookL
  rw [List.find?_append]
  cases h : L.find? fun p => decide (p.1 = t) with
  | some p => simp
  | none =>
    by_cases e : s = t
    · subst e; simp
    · simp [e]
theorem look_none {L : List (ByteArray × Int)} {s : ByteArray} : lookL L s = none ↔ s ∉ L.map (·.1) := by
  unfold lookL
  rw [Option.map_eq_none_iff, List.find?_eq_none]
  simp only [decide_eq_true_eq, List.mem_map, not_exists, not_and]
theorem mapis_empty : MapIs (.map []) [] := ⟨isMap_empty, fun _ => ⟨rfl, rfl⟩⟩
theorem mstr_inj {a b : ByteArray} (h : a.data.toList = b.data.toList) : a = b := by
  cases a; cases b; simpa [Array.toList_inj] using h
theorem mapis_put {D : DataW Unit} {L : List (ByteArray × Int)} {s : ByteArray} {x : Int} (h : MapIs D L) (hn : lookL L s = none) : MapIs (D.put (.string s.data.toList) (.lit (.int .i64 x))) (L ++ [(s, x)]) := by
  obtain ⟨h1, h2⟩ := h
  refine ⟨h1.put _ _, fun t => ?_⟩
  rw [look_snoc]
  by_cases e : s = t
  · subst e
    rw [has_put_same h1 (by exact trivial), atKey_put_same h1 (by exact trivial), hn]
    simp
  · have ne : (Lit.string t.data.toList) ≠ .string s.data.toList := fun k => e (mstr_inj (by injection k with k; exact k.symm))
    rw [has_put_other ne, atKey_put_other ne, if_neg e, Option.or_none]
    exact h2 t

/-- The names of the houses at such places, each with its place. -/
def namesAt (hs : List Hs) (i : Nat) : List ByteArray := match hs[i]? with | some h => h.names | none => []
def asc (hs : List Hs) (pre : List Nat) : List (ByteArray × Int) := pre.flatMap fun i => (namesAt hs i).map fun s => (s, (i : Int))
theorem asc_snoc (hs : List Hs) (pre : List Nat) (i : Nat) : asc hs (pre ++ [i]) = asc hs pre ++ (namesAt hs i).map fun s => (s, (i : Int)) := by simp [asc]
theorem namesAt_at {hs : List Hs} {i : Nat} {h : Hs} (hi : hs[i]? = some h) : namesAt hs i = h.names := by simp [namesAt, hi]
theorem asc_names (hs : List Hs) (k : Nat) (hk : k ≤ hs.length) : (asc hs (List.range k)).map (·.1) = namesL (hs.take k) := by
  induction k with
  | zero => simp [asc, namesL]
  | succ k ih =>
    have hg : hs[k]? = some hs[k] := List.getElem?_eq_getElem (by omega)
    rw [List.range_succ, asc_snoc, List.map_append, ih (by omega), namesL_take hg, namesAt_at hg, List.map_map]
    congr 1
    simp [Function.comp_def]
theorem look_append (L M : List (ByteArray × Int)) (s : ByteArray) : lookL (L ++ M) s = (lookL L s).or (lookL M s) := by
  unfold lookL
  rw [List.find?_append]
  cases h : L.find? fun p => decide (p.1 = s) <;> simp
theorem look_const (N : List ByteArray) (x : Int) (s : ByteArray) : lookL (N.map fun t => (t, x)) s = if hasL N s = true then some x else none := by
  induction N with
  | nil => rfl
  | cons t N ih =>
    have : lookL (List.map (fun t => (t, x)) (t :: N)) s = (if t = s then some x else lookL (N.map fun t => (t, x)) s) := by
      unfold lookL
      by_cases e : t = s
      · simp [e]
      · simp [e]
    rw [this, ih]
    have h2 : hasL (t :: N) s = (decide (t = s) || hasL N s) := rfl
    rw [h2]
    by_cases e : t = s
    · simp [e]
    · simp [e]
theorem find_take_succ {hs : List Hs} {k : Nat} {h : Hs} (hk : hs[k]? = some h) (s : ByteArray) : findI (hs.take (k + 1)) s = (findI (hs.take k) s).or (if hasL h.names s = true then some k else none) := by
  have hlt := (List.getElem?_eq_some_iff.1 hk).1
  unfold findI
  rw [List.take_add_one, hk, List.findIdx?_append]
  congr 1
  by_cases e : hasL h.names s = true
  · simp [e, List.findIdx?_cons]; omega
  · simp [e, List.findIdx?_cons]
theorem look_asc (hs : List Hs) (s : ByteArray) (k : Nat) (hk : k ≤ hs.length) : lookL (asc hs (List.range k)) s = (findI (hs.take k) s).map fun j => (j : Int) := by
  induction k with
  | zero => simp [asc, lookL, findI]
  | succ k ih =>
    have hg : hs[k]? = some hs[k] := List.getElem?_eq_getElem (by omega)
    rw [List.range_succ, asc_snoc, look_append, ih (by omega), find_take_succ hg, namesAt_at hg, look_const]
    cases findI (hs.take k) s with
    | some j => simp
    | none => by_cases e : hasL hs[k].names s = true <;> simp [e]
theorem look_all (hs : List Hs) (s : ByteArray) : lookL (asc hs (List.range hs.length)) s = (findI hs s).map fun j => (j : Int) := by
  have := look_asc hs s hs.length (Nat.le_refl _)
  rwa [List.take_length] at this
theorem asc_len (hs : List Hs) (k : Nat) (hk : k ≤ hs.length) : (asc hs (List.range k)).length = (namesL (hs.take k)).length := by
  rw [← asc_names hs k hk, List.length_map]

/-- So far all houses are ok, and no name stands twice. -/
def goodTo (hs : List Hs) (k : Nat) : Prop := (∀ h ∈ hs.take k, houseB h = true) ∧ (namesL (hs.take k)).Nodup
theorem good_cfg {hs : List Hs} : cfgB hs = true ↔ (1 ≤ hs.length ∧ hs.length ≤ 4) ∧ goodTo hs hs.length := by
  unfold goodTo
  rw [List.take_length]
  exact cfgB_iff
theorem good_less {hs : List Hs} {k n : Nat} (hk : k ≤ n) (h : goodTo hs n) : goodTo hs k := by
  have e : hs.take k = (hs.take n).take k := by rw [List.take_take, Nat.min_eq_left hk]
  refine ⟨fun x hx => h.1 x (by rw [e] at hx; exact List.mem_of_mem_take hx), ?_⟩
  have e2 : hs.take n = hs.take k ++ (hs.take n).drop k := by rw [e, List.take_append_drop]
  have := h.2
  rw [e2] at this
  unfold namesL at this ⊢
  rw [List.flatMap_append, List.nodup_append] at this
  exact this.1
end Go.Proofs.YtbhnjnoblkfckaaGreatDoor

-- from XTrim
/- Walks: cutting spaces off. -/
namespace Go.Proofs.YtbhnjnoblkfckaaGreatDoor
open Go.RowKit

def Head32 (l : List UInt8) (k : Nat) : Prop := ∀ (j : Nat) b, j < k → l[j]? = some b → b = 32
def Stop32 (l : List UInt8) (k : Nat) : Prop := ∀ b, l[k]? = some b → b ≠ 32
def Tail32 (l : List UInt8) (m : Nat) : Prop := ∀ (j : Nat) b, m ≤ j → l[j]? = some b → b = 32

theorem byte_ne32 {b : UInt8} (h : b ≠ 32) : ((b.toNat : Int) == 32) = false := by
  rw [beq_eq_false_iff_ne]
  intro e
  apply h
  apply UInt8.toNat_inj.mp
  have : (32 : UInt8).toNat = 32 := rfl
  omega
theorem byte_eq32 {b : UInt8} (h : b = 32) : ((b.toNat : Int) == 32) = true := by subst h; rfl
theorem head32_step {s : ByteArray} {k : Nat} (hk : k < s.size) (h : Head32 s.data.toList k) (hb : s[k] = 32) : Head32 s.data.toList (k + 1) := by
  intro j b hj hjb
  rcases Nat.lt_or_ge j k with h1 | h1
  · exact h j b h1 hjb
  · have : j = k := by omega
    subst this
    rw [at_get s j hk] at hjb
    injection hjb with e
    rw [← e, hb]
theorem tail32_end (s : ByteArray) : Tail32 s.data.toList s.size := by
  intro j b hj hjb
  rw [List.getElem?_eq_none (by rw [← size_len]; exact hj)] at hjb; cases hjb
theorem tail32_step {s : ByteArray} {m : Nat} (hm : m < s.size) (h : Tail32 s.data.toList (m + 1)) (hb : s[m] = 32) : Tail32 s.data.toList m := by
  intro j b hj hjb
  rcases Nat.lt_or_ge m j with h1 | h1
  · exact h j b h1 hjb
  · have : j = m := by omega
    subst this
    rw [at_get s j hm] at hjb
    injection hjb with e
    rw [← e, hb]

theorem trim_fin (s : ByteArray) (k m : Nat) (hkm : k ≤ m) (hm : m ≤ s.size) (h1 : Head32 s.data.toList k) (h2 : Stop32 s.data.toList k) (h3 : Tail32 s.data.toList m)
    (h4 : m = k ∨ ∀ b, s.data.toList[m - 1]? = some b → b ≠ 32) : s.extract k m = ⟨(Lib.trimB s.data.toList 32).toArray⟩ := by
  have hlen := size_len s
  have hex : s.extract k m = ⟨((s.data.toList.take m).drop k).toArray⟩ := by
    apply ByteArray.ext
    apply Array.toList_inj.mp
    rw [ByteArray.data_extract, Array.toList_extract, List.extract_eq_take_drop, List.drop_take]
  rw [hex]
  congr 2
  unfold Lib.trimB
  rcases Nat.lt_or_ge k m with hlt | hge
  · have h4' := h4.resolve_left (by omega)
    rw [Lib.trimRightB_take s.data.toList 32 m (by omega) (fun j b hj hb => h3 j b hj hb) (fun b _ hb => h4' b hb)]
    rw [Lib.trimLeftB_drop (s.data.toList.take m) 32 k (by rw [List.length_take]; omega) (fun j b hj hb => ?_) (fun b hb => ?_)]
    · rw [List.getElem?_take, if_pos (by omega)] at hb
      exact h1 j b hj hb
    · rw [List.getElem?_take, if_pos hlt] at hb
      exact h2 b hb
  · have e : m = k := by omega
    subst e
    have hall : ∀ (j : Nat) b, s.data.toList[j]? = some b → b = 32 := fun j b hb => by
      rcases Nat.lt_or_ge j m with h | h
      · exact h1 j b h hb
      · exact h3 j b h hb
    rw [Lib.trimRightB_take s.data.toList 32 0 (by omega) (fun j b _ hb => hall j b hb) (fun b h0 _ => by omega)]
    rw [List.drop_of_length_le (by rw [List.length_take]; omega)]
    rfl

set_option maxHeartbeats 400000 in
theorem fresh_t (s : ByteArray) (w : World) (hs : s.size ≤ 281474976710656) :
    Calls Tryz.prog 106 #[.string s] w fun e w' => e = .returned (.string s) ∧ Below w.heap.size w w' := by
  go_enter Tryz.func106, Tryz.ntmps106
  go_wp2_with (first | (go_at_call 136; refine (Tryz.stringslite_Clone _ _ hs).mono ?_; rintro e w' ⟨rfl, hb⟩) | go_in)
  go_ret
  exact ⟨rfl, hb⟩

theorem trimB_len (l : List UInt8) (c : UInt8) : (Lib.trimB l c).length ≤ l.length := by
  unfold Lib.trimB Lib.trimLeftB Lib.trimRightB
  have h1 := (List.dropWhile_sublist (· == c) (l := (l.reverse.dropWhile (· == c)).reverse)).length_le
  have h2 := (List.dropWhile_sublist (· == c) (l := l.reverse)).length_le
  simp at h1 h2 ⊢
  omega

namespace Lw
end Lw
end Go.Proofs.YtbhnjnoblkfckaaGreatDoor

-- from XLaid
/- What the rows' lists of package-level variables give; a world that has them. -/
namespace Go.Proofs.YtbhnjnoblkfckaaGreatDoor
open Go.RowKit

theorem gCls : Tryz.prog.globalNamed "loop.example/godown/impl.byteClasses" = some 0 := by kernel_rfl
theorem gClsT : (Tryz.prog.globals[0]?).map (·.type) = some 162 := by kernel_rfl
theorem cellsCls : Tryz.prog.cellsOf 162 = 123 := by kernel_rfl
theorem cellsCls1 : Tryz.prog.cellsOf 126 = 1 := by kernel_rfl

theorem cls_of_tab {W : World} (h : Lib.TabIs Tryz.prog W "loop.example/godown/impl.byteClasses" .u8 clsTab) : Cls W := by
  have hc : ∀ i, i < 123 → W.cell? ⟨0, i, none⟩ = some (.int .u8 (clsOf i)) := fun i hi => h.cell gCls i (by simp [clsTab]; exact hi)
  exact ⟨World.block_lt_of_cell? W _ (hc 0 (by omega)), hc⟩

theorem cls_of_head {W : World} {rest : List (String × DataW Unit)} (h : laidMet Tryz.prog (("loop.example/godown/impl.byteClasses", Rows.laid_loop_example_godown_impl_byteClasses) :: rest) W) : Cls W :=
  cls_of_tab (Lib.tabIs_of_head (rest := rest) gCls gClsT Tryz.underlying162 Tryz.underlying126 cellsCls1 cellsCls (by
    rw [show Lib.tabData .u8 clsTab = Rows.laid_loop_example_godown_impl_byteClasses from by kernel_rfl]; exact h))

def litV : DataW Unit → Value
  | .lit (.int k n) => .int k n
  | .lit (.bool b) => .bool b
  | .lit (.string s) => .string ⟨s.toArray⟩
  | _ => undef
def rowV : DataW Unit → List Value
  | .agg ps => ps.map litV
  | d => [litV d]
def cellsV : DataW Unit → Array Value
  | .agg ps => (ps.flatMap rowV).toArray
  | d => #[litV d]
def layC (cs : Array Value) : Obj → Obj
  | .cells _ t frozen => .cells cs t frozen
  | o => o

/-- The new blocks of the sentinels. -/
def sentinels : Array Obj := #[
  ]

/-- The settled world, the tables laid. -/
noncomputable def laidWorld (os : Os) : World :=
  let w0 := World.holding Tryz.prog os ⟨sentinels, #[], []⟩
  let h := w0.heap
  let h := h.modify 0 (layC (cellsV Rows.laid_loop_example_godown_impl_byteClasses))
  { w0 with heap := h }
end Go.Proofs.YtbhnjnoblkfckaaGreatDoor

-- from XFv
/- Fields: which are valid. -/
namespace Go.Proofs.YtbhnjnoblkfckaaGreatDoor
open Go.RowKit

def printC (c : UInt8) : Bool := decide (32 ≤ c.toNat) && decide (c.toNat ≤ 126)
def printB (l : List UInt8) : Bool := l.all printC
def valB (l : List UInt8) : Bool := decide (l.length ≤ 30) && printB l && decide (Lib.trimB l 32 = l)
def fdB (f : ByteArray × ByteArray) : Bool := tokB f.1.data.toList && valB f.2.data.toList

theorem str_inj2 {a b : ByteArray} (h : a.data.toList = b.data.toList) : a = b := by
  cases a; cases b; simpa [Array.toList_inj] using h
theorem mk_same {l : List UInt8} {s : ByteArray} (h : l = s.data.toList) : (⟨l.toArray⟩ : ByteArray) = s := by rw [h, mk_toList]
theorem mk_ne {l : List UInt8} {s : ByteArray} (h : l ≠ s.data.toList) : ((⟨l.toArray⟩ : ByteArray).toList == s.toList) = false := by
  rw [Lib.toList_data, Lib.toList_data]
  simpa using h

set_option maxHeartbeats 400000 in
theorem printable (s : ByteArray) (w : World) (hs : s.size ≤ maxLen) :
    Calls Tryz.prog 135 #[.string s] w fun e w' => e = .returned (.bool (printB s.data.toList)) ∧ w = w' := by
  unfold maxLen at hs
  go_enter Tryz.func135, Tryz.ntmps135
  go_wp2_with fail
  go_loop [6] (fun i => ∃ k : Nat, k ≤ s.size ∧ i = .int .i64 k ∧ (s.data.toList.take k).all printC = true) (fun i => s.size - (intOf i).toNat)
  case atStart => exact ⟨0, Nat.zero_le _, rfl, by simp⟩
  case round =>
    obtain ⟨k, hk, rfl, hall⟩ := hrel
    by_cases hlt : k < s.size
    · by_cases hp : printC s[k] = true
      · have hstep := all_take_succ hlt hall hp
        simp only [printC, Bool.and_eq_true, decide_eq_true_eq] at hp
        obtain ⟨p1, p2⟩ := hp
        have HS := Lib.hid hstep
        clear hstep hall
        go_wp2
        go_round
        case rel => exact ⟨k + 1, by omega, by go_num, HS.out⟩
        case measure => simp [intOf]; omega
      · have hf : printB s.data.toList = false := all_false_at hlt (by simpa using hp)
        have HF := Lib.hid hf
        have hp' : s[k].toNat < 32 ∨ 126 < s[k].toNat := by
          simp only [printC, Bool.and_eq_true, decide_eq_true_eq] at hp; omega
        clear hf hp hall
        rcases hp' with hp' | hp'
        · go_wp2
          go_ret
          rw [HF.out]; exact ⟨rfl, rfl⟩
        · have hp2 : 32 ≤ s[k].toNat := by omega
          go_wp2
          go_ret
          rw [HF.out]; exact ⟨rfl, rfl⟩
    · go_wp2
      go_ret
      have hf : printB s.data.toList = true := all_of_take (by omega) hall
      rw [hf]; exact ⟨rfl, rfl⟩

theorem valB_len {l : List UInt8} (h : ¬ l.length ≤ 30) : valB l = false := by simp [valB, h]
theorem valB_print {l : List UInt8} (h : printB l = false) : valB l = false := by simp [valB, h]
theorem valB_trim {l : List UInt8} (h : ¬ Lib.trimB l 32 = l) : valB l = false := by simp [valB, h]
theorem valB_yes {l : List UInt8} (h1 : l.length ≤ 30) (h2 : printB l = true) (h3 : Lib.trimB l 32 = l) : valB l = true := by simp [valB, h1, h2, h3]

end Go.Proofs.YtbhnjnoblkfckaaGreatDoor

-- from XFok
/- Fields: the program and the specification on which are valid; their texts. -/
namespace Go.Proofs.YtbhnjnoblkfckaaGreatDoor
open Go.RowKit

theorem Cls.alloc {w : World} (h : Cls w) (o : Obj) : Cls (w.alloc o) := h.below ((Below.refl _ _).alloc (Nat.le_refl _) o) (Nat.le_refl _)

/-- The text of a field. -/
def fdT (f : ByteArray × ByteArray) : ByteArray := if fdB f = true then f.1 ++ ⟨#[58, 32]⟩ ++ f.2 else ⟨#[]⟩

theorem fdB_len {a b : ByteArray} (h : fdB (a, b) = true) : a.size ≤ 12 ∧ b.size ≤ 30 := by
  simp only [fdB, tokB, valB, Bool.and_eq_true, decide_eq_true_eq] at h
  rw [size_len, size_len]
  omega

end Go.Proofs.YtbhnjnoblkfckaaGreatDoor

-- from XCutI
/- Walks: the program's cut of a text. -/
namespace Go.Proofs.YtbhnjnoblkfckaaGreatDoor
open Go.RowKit

end Go.Proofs.YtbhnjnoblkfckaaGreatDoor

-- from XFrd
/- Fields: read from a line. -/
namespace Go.Proofs.YtbhnjnoblkfckaaGreatDoor
open Go.RowKit

/-- What a line says, be it valid or not. -/
def rdF (l : List UInt8) : ByteArray × ByteArray := (⟨(lowL (cutL l 58).1).toArray⟩, ⟨(Lib.trimB (cutL l 58).2.1 32).toArray⟩)
def rdB (l : List UInt8) : Bool := (cutL l 58).2.2 && fdB (rdF l)
def rdR (l : List UInt8) : (ByteArray × ByteArray) × Bool := if rdB l = true then (rdF l, true) else ((⟨#[]⟩, ⟨#[]⟩), false)
def fdV (r : (ByteArray × ByteArray) × Bool) : Value := .tuple #[.agg #[.string r.1.1, .string r.1.2], .bool r.2]

theorem rd_no {l : List UInt8} (h : (cutL l 58).2.2 = false) : rdR l = ((⟨#[]⟩, ⟨#[]⟩), false) := by simp [rdR, rdB, h]
theorem rd_bad {l : List UInt8} (h : fdB (rdF l) = false) : rdR l = ((⟨#[]⟩, ⟨#[]⟩), false) := by simp [rdR, rdB, h]
theorem rd_yes {l : List UInt8} (h1 : (cutL l 58).2.2 = true) (h2 : fdB (rdF l) = true) : rdR l = (rdF l, true) := by simp [rdR, rdB, h1, h2]

theorem low_len (l : List UInt8) : (lowL l).length = l.length := by simp [lowL]

/-- The block of a result, as it lies behind calls that leave it alone. -/
theorem res_block {w w' : World} {x y : Value} {T : TypeId} (h : Below (w.heap.size + 1) (w.alloc (.cells #[x, y] T)) w') : w'.heap[w.heap.size]? = some (.cells #[x, y] T (0, 0)) :=
  (h.block w.heap.size (Nat.lt_succ_self _)).trans (heap_alloc_new w _)
theorem res_facts {w' : World} {g : Nat} {x y : Value} {T : TypeId} (h : w'.heap[g]? = some (.cells #[x, y] T (0, 0))) : w'.cell? ⟨g, 0, none⟩ = some x ∧ w'.cell? ⟨g, 1, none⟩ = some y ∧ w'.frozen? ⟨g, 0, none⟩ = false ∧ w'.frozen? ⟨g, 1, none⟩ = false := by
  refine ⟨?_, ?_, ?_, ?_⟩ <;> simp [World.cell?, World.frozen?, h]
theorem res_set {w' : World} {g : Nat} {x y : Value} {T : TypeId} (h : w'.heap[g]? = some (.cells #[x, y] T (0, 0))) (a b : Value) : ((w'.setCell ⟨g, 0, none⟩ a).setCell ⟨g, 1, none⟩ b).cell? ⟨g, 0, none⟩ = some a ∧ ((w'.setCell ⟨g, 0, none⟩ a).setCell ⟨g, 1, none⟩ b).cell? ⟨g, 1, none⟩ = some b := by
  have h1 := heap_setCell_same w' g 0 _ _ a h
  have h2 := heap_setCell_same _ g 1 _ _ b h1
  constructor <;> simp [World.cell?, h2]
theorem below_set2 {w w3 : World} {b : Nat} {x y : Value} (h : Below b w w3) : Below b w ((w3.setCell ⟨b, 0, none⟩ x).setCell ⟨b, 1, none⟩ y) :=
  ⟨h.os, h.tape, h.output, by simpa using h.size, fun j hj => (heap_setCell_other _ ⟨b, 1, none⟩ j _ (by simp; omega)).trans ((heap_setCell_other w3 ⟨b, 0, none⟩ j _ (by simp; omega)).trans (h.block j hj))⟩

end Go.Proofs.YtbhnjnoblkfckaaGreatDoor

