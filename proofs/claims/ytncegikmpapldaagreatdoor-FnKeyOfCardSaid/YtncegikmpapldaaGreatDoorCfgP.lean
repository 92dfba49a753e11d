/- Houses: what is said of them, and rows of them in memory; no function of the program. -/
import Derived.Test.YtncegikmpapldaaGreatDoorHstP
import Derived.Test.YtncegikmpapldaaGreatDoorOwn2
namespace Go.Proofs.YtncegikmpapldaaGreatDoor
open Go.RowKit

/-- A house: its names, its key, its bounds. -/
structure Hs where
  names : List ByteArray
  key : Int
  maxN : Int
  maxB : Int

def inI (n a b : Int) : Bool := decide (a ≤ n) && decide (n ≤ b)
def namesB (L : List ByteArray) : Bool := L.all fun s => hostB s.data.toList
def houseB (h : Hs) : Bool := inI h.names.length 1 3 && (inI h.key 1 9999 && (inI h.maxN 1 6 && (inI h.maxB 1 120 && namesB h.names)))
def namesL (hs : List Hs) : List ByteArray := hs.flatMap (·.names)
def cfgB (hs : List Hs) : Bool := inI hs.length 1 4 && (hs.all houseB && decide (namesL hs).Nodup)
def hasL (L : List ByteArray) (s : ByteArray) : Bool := L.any fun t => decide (t = s)
def findI (hs : List Hs) (s : ByteArray) : Option Nat := hs.findIdx? fun h => hasL h.names s
def optI (o : Option Nat) : Int := match o with | some k => (k : Int) | none => -1
def routeI (hs : List Hs) (s : ByteArray) : Int := if cfgB hs = true then optI (findI hs s) else -1

theorem hasL_iff {L : List ByteArray} {s : ByteArray} : hasL L s = true ↔ s ∈ L := by simp [hasL]
theorem hasL_false {L : List ByteArray} {s : ByteArray} : hasL L s = false ↔ s ∉ L := by rw [← Bool.not_eq_true, hasL_iff]
theorem inI_iff {n a b : Int} : inI n a b = true ↔ a ≤ n ∧ n ≤ b := by simp [inI]
theorem houseB_iff {h : Hs} : houseB h = true ↔ (1 ≤ h.names.length ∧ h.names.length ≤ 3) ∧ (1 ≤ h.key ∧ h.key ≤ 9999) ∧ (1 ≤ h.maxN ∧ h.maxN ≤ 6) ∧ (1 ≤ h.maxB ∧ h.maxB ≤ 120) ∧ ∀ s ∈ h.names, hostB s.data.toList = true := by
  unfold houseB namesB
  simp only [Bool.and_eq_true, inI_iff, List.all_eq_true]
  constructor
  · rintro ⟨⟨a, b⟩, ⟨c, d⟩, ⟨e, f⟩, ⟨g, i⟩, j⟩; exact ⟨⟨by omega, by omega⟩, ⟨c, d⟩, ⟨e, f⟩, ⟨g, i⟩, j⟩
  · rintro ⟨⟨a, b⟩, ⟨c, d⟩, ⟨e, f⟩, ⟨g, i⟩, j⟩; exact ⟨⟨by omega, by omega⟩, ⟨c, d⟩, ⟨e, f⟩, ⟨g, i⟩, j⟩
theorem cfgB_iff {hs : List Hs} : cfgB hs = true ↔ (1 ≤ hs.length ∧ hs.length ≤ 4) ∧ (∀ h ∈ hs, houseB h = true) ∧ (namesL hs).Nodup := by
  unfold cfgB
  simp only [Bool.and_eq_true, inI_iff, List.all_eq_true, decide_eq_true_eq]
  constructor
  · rintro ⟨⟨a, b⟩, c, d⟩; exact ⟨⟨by omega, by omega⟩, c, d⟩
  · rintro ⟨⟨a, b⟩, c, d⟩; exact ⟨⟨by omega, by omega⟩, c, d⟩

theorem namesL_snoc (hs : List Hs) (h : Hs) : namesL (hs ++ [h]) = namesL hs ++ h.names := by simp [namesL]
theorem namesL_take {hs : List Hs} {k : Nat} {h : Hs} (hk : hs[k]? = some h) : namesL (hs.take (k + 1)) = namesL (hs.take k) ++ h.names := by
  rw [List.take_add_one, hk]; exact namesL_snoc _ _
theorem names_len {hs : List Hs} (h : ∀ x ∈ hs, houseB x = true) : (namesL hs).length ≤ 3 * hs.length := by
  induction hs with
  | nil => simp [namesL]
  | cons x t ih =>
    have := (houseB_iff.1 (h x (by simp))).1
    have := ih (fun y hy => h y (by simp [hy]))
    simp only [namesL, List.flatMap_cons, List.length_append, List.length_cons] at *
    omega

/-- A list of texts in memory. -/
def NRow (w : World) (v : Value) (L : List ByteArray) : Prop :=
  ∃ a c, v = .slice a L.length c ∧ L.length ≤ c ∧ c ≤ maxLen ∧ ∀ j s, L[j]? = some s → ∃ b o, a = some ⟨b, o, none⟩ ∧ b < w.heap.size ∧ w.cell? ⟨b, o + j, none⟩ = some (.string s)
/-- A list of houses in memory. -/
def HRow (w : World) (v : Value) (hs : List Hs) : Prop :=
  ∃ a c, v = .slice a hs.length c ∧ hs.length ≤ c ∧ c ≤ maxLen ∧ ∀ j h, hs[j]? = some h → ∃ b o u, a = some ⟨b, o, none⟩ ∧ b < w.heap.size ∧ w.cell? ⟨b, o + j * 4, none⟩ = some u ∧ NRow w u h.names ∧
    w.cell? ⟨b, o + j * 4 + 1, none⟩ = some (.int .i64 h.key) ∧ w.cell? ⟨b, o + j * 4 + 2, none⟩ = some (.int .i64 h.maxN) ∧ w.cell? ⟨b, o + j * 4 + 3, none⟩ = some (.int .i64 h.maxB)

theorem NRow.below {w w' : World} {v : Value} {L : List ByteArray} (h : NRow w v L) {B : Nat} (hB : w.heap.size ≤ B) (hb : Below B w w') : NRow w' v L := by
  obtain ⟨a, c, rfl, h1, h2, h3⟩ := h
  refine ⟨a, c, rfl, h1, h2, fun j s hj => ?_⟩
  obtain ⟨b, o, rfl, hlt, c1⟩ := h3 j s hj
  exact ⟨b, o, rfl, Nat.lt_of_lt_of_le hlt hb.size, (hb.cell (p := ⟨b, o + j, none⟩) (Nat.lt_of_lt_of_le hlt hB)).trans c1⟩
theorem HRow.below {w w' : World} {v : Value} {hs : List Hs} (h : HRow w v hs) {B : Nat} (hB : w.heap.size ≤ B) (hb : Below B w w') : HRow w' v hs := by
  obtain ⟨a, c, rfl, h1, h2, h3⟩ := h
  refine ⟨a, c, rfl, h1, h2, fun j f hj => ?_⟩
  obtain ⟨b, o, u, rfl, hlt, c1, hs, c2, c3, c4⟩ := h3 j f hj
  have hb' := Nat.lt_of_lt_of_le hlt hB
  exact ⟨b, o, u, rfl, Nat.lt_of_lt_of_le hlt hb.size, (hb.cell (p := ⟨b, o + j * 4, none⟩) hb').trans c1, hs.below hB hb, (hb.cell (p := ⟨b, o + j * 4 + 1, none⟩) hb').trans c2,
    (hb.cell (p := ⟨b, o + j * 4 + 2, none⟩) hb').trans c3, (hb.cell (p := ⟨b, o + j * 4 + 3, none⟩) hb').trans c4⟩

/-- How long the names are. -/
def NOk (L : List ByteArray) (K : Nat) : Prop := ∀ s ∈ L, s.size ≤ K
def HOks (hs : List Hs) (K : Nat) : Prop := ∀ h ∈ hs, NOk h.names K

theorem nrow_get {w : World} {v : Value} {L : List ByteArray} (h : NRow w v L) : ∃ a c, v = .slice a L.length c ∧ L.length ≤ c ∧ c ≤ maxLen := by
  obtain ⟨a, c, rfl, h1, h2, _⟩ := h
  exact ⟨a, c, rfl, h1, h2⟩
/-- A row of texts of the call's own. -/
theorem nrow_own {w : World} {B : Nat} {T : TypeId} {v : Value} {L : List ByteArray} (h : w.ownsRow B T 1 v L.length (L.map Value.string)) : NRow w v L := by
  rcases h.2 with ⟨rfl, h0⟩ | ⟨b, cap, cur, rfl, hb, hh, hn, hm, _, _⟩
  · have : L = [] := List.eq_nil_of_length_eq_zero h0
    subst this
    exact ⟨none, 0, rfl, Nat.le_refl _, Nat.zero_le _, fun j f hj => by simp at hj⟩
  · refine ⟨_, cap, rfl, hn, hm, fun j s hj => ⟨b, 0, rfl, (Array.getElem?_eq_some_iff.1 hh).1, ?_⟩⟩
    rw [Nat.zero_add]
    exact own_cell h (by rw [List.getElem?_map, hj]; rfl)

/-- The first house that has a name. -/
theorem find_none {hs : List Hs} {s : ByteArray} (h : ∀ x ∈ hs, s ∉ x.names) : findI hs s = none := by
  unfold findI; rw [List.findIdx?_eq_none_iff]; intro x hx; exact hasL_false.2 (h x hx)
theorem find_some {hs : List Hs} {s : ByteArray} {k : Nat} {h : Hs} (hk : hs[k]? = some h) (hin : s ∈ h.names) (hno : ∀ x ∈ hs.take k, s ∉ x.names) : findI hs s = some k := by
  unfold findI
  rw [List.findIdx?_eq_some_iff_getElem]
  obtain ⟨hlt, rfl⟩ := List.getElem?_eq_some_iff.1 hk
  refine ⟨hlt, hasL_iff.2 hin, fun j hj => ?_⟩
  have := hno (hs[j]'(by omega)) (List.mem_take_iff_getElem.2 ⟨j, by omega, rfl⟩)
  rw [hasL_false.2 this]; decide
end Go.Proofs.YtncegikmpapldaaGreatDoor
