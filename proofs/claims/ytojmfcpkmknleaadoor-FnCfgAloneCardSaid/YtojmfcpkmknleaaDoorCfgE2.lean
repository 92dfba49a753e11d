/- The laws' own helpers over houses: copies, each list in a block of its own. -/
import Derived.Test.YtojmfcpkmknleaaDoorCfgE
import Derived.Test.YtojmfcpkmknleaaDoorEq
namespace Go.Proofs.YtojmfcpkmknleaaDoor
open Go.RowKit Go.Maps

def sget (L : List ByteArray) (i : Nat) : ByteArray := (L[i]?).getD ⟨#[]⟩
theorem sget_at {L : List ByteArray} {i : Nat} {s : ByteArray} (h : L[i]? = some s) : sget L i = s := by simp [sget, h]
/-- Block g holds n texts; none is frozen. -/
def SC (w : World) (g n : Nat) (F : Nat → ByteArray) : Prop :=
  ∃ cur, w.heap[g]? = some (.cells cur 9 (0, 0)) ∧ cur.size = n ∧ ∀ i, i < n → cur[i]? = some (.string (F i))
theorem SC.lt {w : World} {g n : Nat} {F : Nat → ByteArray} (h : SC w g n F) : g < w.heap.size := by
  obtain ⟨cur, hh, _⟩ := h
  exact (Array.getElem?_eq_some_iff.1 hh).1
theorem SC.keep {w w' : World} {g n : Nat} {F : Nat → ByteArray} (h : SC w g n F) (hk : w'.heap[g]? = w.heap[g]?) : SC w' g n F := by
  obtain ⟨cur, hh, r⟩ := h
  exact ⟨cur, hk.trans hh, r⟩
theorem SC.congr {w : World} {g n : Nat} {F F' : Nat → ByteArray} (h : SC w g n F) (he : ∀ i, i < n → F i = F' i) : SC w g n F' := by
  obtain ⟨cur, hh, hs, hc⟩ := h
  exact ⟨cur, hh, hs, fun i hi => by rw [← he i hi]; exact hc i hi⟩
theorem SC.cell {w : World} {g n : Nat} {F : Nat → ByteArray} (h : SC w g n F) {i : Nat} (hi : i < n) : w.cell? ⟨g, i, none⟩ = some (.string (F i)) := by
  obtain ⟨cur, hh, hs, hc⟩ := h
  simp [World.cell?, hh, hc i hi]
theorem SC.frozen {w : World} {g n : Nat} {F : Nat → ByteArray} (h : SC w g n F) (j : Nat) : w.frozen? ⟨g, j, none⟩ = false := by
  obtain ⟨cur, hh, hs, hc⟩ := h
  simp [World.frozen?, hh]
def updS (F : Nat → ByteArray) (i : Nat) (s : ByteArray) : Nat → ByteArray := fun j => if j = i then s else F j
theorem SC.set {w : World} {g n : Nat} {F : Nat → ByteArray} (h : SC w g n F) {i : Nat} (_hi : i < n) (s : ByteArray) : SC (w.setCell ⟨g, i, none⟩ (.string s)) g n (updS F i s) := by
  obtain ⟨cur, hh, hs, hc⟩ := h
  refine ⟨_, heap_setCell_same w g i cur _ _ hh, by simpa using hs, fun j hj => ?_⟩
  rw [Array.getElem?_setIfInBounds]
  unfold updS
  by_cases e : j = i
  · subst e
    simp only [if_true, show j < cur.size from by omega]
  · rw [if_neg (fun k => e k.symm), if_neg e]
    exact hc j hj
theorem SC.row {w : World} {g : Nat} {L : List ByteArray} (h : SC w g L.length (sget L)) (hn : L.length ≤ maxLen) : SRow w (.slice (some ⟨g, 0, none⟩) L.length L.length) L := by
  refine ⟨_, _, rfl, Nat.le_refl _, hn, fun j s hj => ⟨g, 0, rfl, h.lt, ?_⟩⟩
  have := h.cell (i := j) (List.getElem?_eq_some_iff.1 hj).1
  rw [sget_at hj] at this
  rw [Nat.zero_add]; exact this

def uptoS (L : List ByteArray) (k : Nat) : Nat → ByteArray := fun i => if i < k then sget L i else ⟨#[]⟩
theorem uptoS_step {L : List ByteArray} {k : Nat} {a : ByteArray} (h : L[k]? = some a) : updS (uptoS L k) k a = uptoS L (k + 1) := by
  funext i
  unfold updS uptoS
  by_cases e : i = k
  · subst e; simp [sget_at h]
  · rw [if_neg e]
    by_cases hi : i < k
    · rw [if_pos hi, if_pos (by omega)]
    · rw [if_neg hi, if_neg (by omega)]
theorem made_str (n : Nat) : (madeCells (Value.string ⟨#[]⟩).cells (n * 1)).size = n ∧ ∀ i, i < n → (madeCells (Value.string ⟨#[]⟩).cells (n * 1))[i]? = some (.string ⟨#[]⟩) := by
  have h1 : (madeCells (Value.string ⟨#[]⟩).cells (n * 1)).size = n * 1 := size_madeCells _ _
  refine ⟨by omega, fun i hi => ?_⟩
  have hc : (Value.string ⟨#[]⟩).cells = #[.string ⟨#[]⟩] := by rfl
  unfold madeCells
  rw [hc]
  rw [Array.getElem?_map, Array.getElem?_range, if_pos (by omega)]
  simp [Nat.mod_one]

set_option maxHeartbeats 800000 in
theorem to_strs (v : Value) (L : List ByteArray) (w : World) (hS : SRow w v L) (hn : L.length ≤ 1048576) :
    Calls Tryd.prog 65 #[v] w fun e w' => e = .returned (.slice (some ⟨w.heap.size, 0, none⟩) L.length L.length) ∧ SC w' w.heap.size L.length (sget L) ∧ Below w.heap.size w w' := by
  obtain ⟨i0, hi, hz0, hz1, hz2⟩ := info_parts Tryd.infoStrC
  obtain ⟨a, c, rfl, h1, h2, h3⟩ := hS
  unfold maxLen at h2
  have H3 := Lib.hid h3; clear h3
  have hmk := fun W => run_make (P := Tryd.prog) W 31 9 i0 _ Tryd.underlying31 hi hz0 .i64 .i64 (L.length : Int) (L.length : Int) (by omega) (by omega) (by rw [hz2]; omega) (by omega)
  rw [hz1, Int.toNat_natCast] at hmk
  obtain ⟨m1, m2⟩ := made_str L.length
  generalize madeCells (Value.string ⟨#[]⟩).cells (L.length * 1) = M at hmk m1 m2
  have HM1 := Lib.hid m1; have HM2 := Lib.hid m2; clear m1 m2
  go_enter Tryd.func65, Tryd.ntmps65
  go_wp2
  go_loopw [4] (fun i wr => ∃ k : Nat, k ≤ L.length ∧ i = .int .i64 k ∧ SC wr w.heap.size L.length (uptoS L k) ∧ Below w.heap.size w wr) (fun i _ => L.length - (intOf i).toNat)
  case atStart => exact ⟨0, Nat.zero_le _, rfl, ⟨M, heap_alloc_new w _, HM1.out, fun i hi => by simpa [uptoS] using HM2.out i hi⟩, (Below.refl _ _).alloc (Nat.le_refl _) _⟩
  case round =>
    obtain ⟨k, hk, rfl, hown, hnx⟩ := hrel
    by_cases hlt : k < L.length
    · obtain ⟨s, hg⟩ : ∃ s, L[k]? = some s := ⟨_, List.getElem?_eq_getElem hlt⟩
      obtain ⟨b1, o1, ea, hb1, c1⟩ := H3.out k s hg
      subst ea
      have k1 := (hnx.cell (p := ⟨b1, o1 + k, none⟩) hb1).trans c1
      have q0 := hown.cell hlt
      have f0 := hown.frozen k
      have hst := hown.set hlt s
      rw [uptoS_step hg] at hst
      have HS := Lib.hid hst; have HN := Lib.hid hnx
      clear hown hst hnx c1 hg
      go_wp2
      go_roundw
      case rel => exact ⟨k + 1, by omega, by go_num, HS.out, (HN.out).setCell (p := ⟨w.heap.size, k, none⟩) (Nat.le_refl _) _⟩
      case measure => simp [intOf]; omega
    · have hkn : k = L.length := by omega
      subst hkn
      go_wp2
      go_ret
      exact ⟨rfl, hown.congr (fun i hi => by simp [uptoS, hi]), hnx⟩

set_option maxHeartbeats 800000 in
theorem eq_strs (v1 v2 : Value) (L : List ByteArray) (w : World) (h1 : SRow w v1 L) (h2 : SRow w v2 L) :
    Calls Tryd.prog 66 #[v1, v2] w fun e w' => e = .returned (.bool true) ∧ Below w.heap.size w w' := by
  have hr : ∀ v, SRow w v L → 0 < L.length → Rd1 w v ((L.map fun s => s.data.toList).map strV) := fun v hv hp => by
    obtain ⟨b, o, c, rfl, m1, m2, _, hcs⟩ := srow_cells hv hp
    refine .inr ⟨b, o, c, by simp, by simpa using m1, m2, fun j u hu => ?_⟩
    have e : (L.map fun s => s.data.toList).map strV = L.map Value.string := by
      rw [List.map_map]
      refine List.map_congr_left fun s _ => ?_
      simp [strV]
    rw [e] at hu
    have := hcs j u hu
    have ea : (⟨b, o, none⟩ : Addr).add j = ⟨b, o + j, none⟩ := by unfold Addr.add; split <;> simp_all
    rwa [ea] at this
  by_cases hp : 0 < L.length
  · refine (eq_strings v1 v2 (L.map fun s => s.data.toList) w (hr v1 h1 hp) (hr v2 h2 hp)).mono ?_
    rintro e w' ⟨rfl, n, rfl⟩
    exact ⟨rfl, below_drewN (Below.refl _ _)⟩
  · have hl : L = [] := List.eq_nil_of_length_eq_zero (by omega)
    subst hl
    obtain ⟨a1, c1, rfl, _⟩ := srow_get h1
    obtain ⟨a2, c2, rfl, _⟩ := srow_get h2
    clear h1 h2 hr hp
    go_enter Tryd.func66, Tryd.ntmps66
    go_wp2
    go_loopw [5] (fun i wr => i = .int .i64 0 ∧ wr = w) (fun _ _ => 0)
    case atStart => exact ⟨rfl, rfl⟩
    case round =>
      obtain ⟨rfl, rfl⟩ := hrel
      go_wp2
      go_ret
      exact ⟨rfl, Below.refl _ _⟩
end Go.Proofs.YtojmfcpkmknleaaDoor
