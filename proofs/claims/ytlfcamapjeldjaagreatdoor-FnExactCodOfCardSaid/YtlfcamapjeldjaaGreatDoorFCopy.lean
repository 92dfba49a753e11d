/- The laws' own helpers over lists of fields: copied, equal, marked. -/
import Derived.Test.YtlfcamapjeldjaaGreatDoorFHelp
namespace Go.Proofs.YtlfcamapjeldjaaGreatDoor
open Go.RowKit Go.Maps

def noFd : Fd := (⟨#[]⟩, ⟨#[]⟩)
/-- Block g holds n fields, the i-th one F i; none is frozen. -/
def FCells (w : World) (g n : Nat) (F : Nat → Fd) : Prop :=
  ∃ cur t, w.heap[g]? = some (.cells cur t (0, 0)) ∧ cur.size = n * 2 ∧ ∀ i, i < n → cur[i * 2]? = some (.string (F i).1) ∧ cur[i * 2 + 1]? = some (.string (F i).2)

theorem FCells.lt {w : World} {g n : Nat} {F : Nat → Fd} (h : FCells w g n F) : g < w.heap.size := by
  obtain ⟨cur, t, hh, _⟩ := h
  exact (Array.getElem?_eq_some_iff.1 hh).1
theorem FCells.keep {w w' : World} {g n : Nat} {F : Nat → Fd} (h : FCells w g n F) (hk : w'.heap[g]? = w.heap[g]?) : FCells w' g n F := by
  obtain ⟨cur, t, hh, r⟩ := h
  exact ⟨cur, t, hk.trans hh, r⟩
theorem FCells.congr {w : World} {g n : Nat} {F F' : Nat → Fd} (h : FCells w g n F) (he : ∀ i, i < n → F i = F' i) : FCells w g n F' := by
  obtain ⟨cur, t, hh, hs, hc⟩ := h
  exact ⟨cur, t, hh, hs, fun i hi => by rw [← he i hi]; exact hc i hi⟩
theorem FCells.cell0 {w : World} {g n : Nat} {F : Nat → Fd} (h : FCells w g n F) {i : Nat} (hi : i < n) : w.cell? ⟨g, i * 2, none⟩ = some (.string (F i).1) := by
  obtain ⟨cur, t, hh, hs, hc⟩ := h
  simp [World.cell?, hh, (hc i hi).1]
theorem FCells.cell1 {w : World} {g n : Nat} {F : Nat → Fd} (h : FCells w g n F) {i : Nat} (hi : i < n) : w.cell? ⟨g, i * 2 + 1, none⟩ = some (.string (F i).2) := by
  obtain ⟨cur, t, hh, hs, hc⟩ := h
  simp [World.cell?, hh, (hc i hi).2]
theorem FCells.frozen {w : World} {g n : Nat} {F : Nat → Fd} (h : FCells w g n F) (j : Nat) : w.frozen? ⟨g, j, none⟩ = false := by
  obtain ⟨cur, t, hh, hs, hc⟩ := h
  simp [World.frozen?, hh]
def upd0 (F : Nat → Fd) (i : Nat) (s : ByteArray) : Nat → Fd := fun j => if j = i then (s, (F j).2) else F j
def upd1 (F : Nat → Fd) (i : Nat) (s : ByteArray) : Nat → Fd := fun j => if j = i then ((F j).1, s) else F j
theorem FCells.set0 {w : World} {g n : Nat} {F : Nat → Fd} (h : FCells w g n F) {i : Nat} (_hi : i < n) (s : ByteArray) : FCells (w.setCell ⟨g, i * 2, none⟩ (.string s)) g n (upd0 F i s) := by
  obtain ⟨cur, t, hh, hs, hc⟩ := h
  refine ⟨_, t, heap_setCell_same w g (i * 2) cur t _ hh, by simpa using hs, fun j hj => ?_⟩
  obtain ⟨h0, h1⟩ := hc j hj
  rw [Array.getElem?_setIfInBounds, Array.getElem?_setIfInBounds]
  unfold upd0
  by_cases e : j = i
  · subst e
    simp only [if_true, show ¬ (j * 2 = j * 2 + 1) from by omega, show j * 2 < cur.size from by omega, if_false]
    exact ⟨trivial, h1⟩
  · simp only [show ¬ (i * 2 = j * 2 + 1) from by omega, show ¬ (i * 2 = j * 2) from by omega, if_neg e, if_false]
    exact ⟨h0, h1⟩
theorem FCells.set1 {w : World} {g n : Nat} {F : Nat → Fd} (h : FCells w g n F) {i : Nat} (_hi : i < n) (s : ByteArray) : FCells (w.setCell ⟨g, i * 2 + 1, none⟩ (.string s)) g n (upd1 F i s) := by
  obtain ⟨cur, t, hh, hs, hc⟩ := h
  refine ⟨_, t, heap_setCell_same w g (i * 2 + 1) cur t _ hh, by simpa using hs, fun j hj => ?_⟩
  obtain ⟨h0, h1⟩ := hc j hj
  rw [Array.getElem?_setIfInBounds, Array.getElem?_setIfInBounds]
  unfold upd1
  by_cases e : j = i
  · subst e
    simp only [if_true, show ¬ (j * 2 + 1 = j * 2) from by omega, show j * 2 + 1 < cur.size from by omega, if_false]
    exact ⟨h0, trivial⟩
  · simp only [show ¬ (i * 2 + 1 = j * 2 + 1) from by omega, show ¬ (i * 2 + 1 = j * 2) from by omega, if_neg e, if_false]
    exact ⟨h0, h1⟩
def fget (fs : List Fd) (i : Nat) : Fd := (fs[i]?).getD noFd
theorem fget_at {fs : List Fd} {i : Nat} {f : Fd} (h : fs[i]? = some f) : fget fs i = f := by simp [fget, h]
theorem FCells.row {w : World} {g : Nat} {fs : List Fd} (h : FCells w g fs.length (fget fs)) (hn : fs.length ≤ maxLen) : FRow w (.slice (some ⟨g, 0, none⟩) fs.length fs.length) fs := by
  refine ⟨_, _, rfl, Nat.le_refl _, hn, fun j f hj => ⟨g, 0, rfl, h.lt, ?_, ?_⟩⟩
  · have := h.cell0 (i := j) (List.getElem?_eq_some_iff.1 hj).1
    rw [fget_at hj] at this
    rw [Nat.zero_add]; exact this
  · have := h.cell1 (i := j) (List.getElem?_eq_some_iff.1 hj).1
    rw [fget_at hj] at this
    rw [Nat.zero_add]; exact this

theorem Tryz.infoFd : (Tryz.prog.info? 27).map (fun i => (i.zero, i.size, i.bytes)) = some (some (.agg #[.string ⟨#[]⟩, .string ⟨#[]⟩]), 2, 32) := by kernel_rfl

theorem made_fd (n : Nat) : (madeCells (Value.agg #[.string ⟨#[]⟩, .string ⟨#[]⟩]).cells (n * 2)).size = n * 2 ∧ ∀ i, i < n → (madeCells (Value.agg #[.string ⟨#[]⟩, .string ⟨#[]⟩]).cells (n * 2))[i * 2]? = some (.string noFd.1) ∧ (madeCells (Value.agg #[.string ⟨#[]⟩, .string ⟨#[]⟩]).cells (n * 2))[i * 2 + 1]? = some (.string noFd.2) := by
  refine ⟨size_madeCells _ _, fun i hi => ?_⟩
  have hc : (Value.agg #[.string ⟨#[]⟩, .string ⟨#[]⟩]).cells = #[.string ⟨#[]⟩, .string ⟨#[]⟩] := by rfl
  unfold madeCells
  rw [hc]
  constructor
  · rw [Array.getElem?_map, Array.getElem?_range, if_pos (by omega)]
    simp [noFd]
  · rw [Array.getElem?_map, Array.getElem?_range, if_pos (by omega)]
    have : (i * 2 + 1) % 2 = 1 := by omega
    simp [noFd, this]

set_option maxHeartbeats 400000 in
theorem to_field (f : Fd) (w : World) :
    Calls Tryz.prog 30 #[.agg #[.string f.1, .string f.2]] w fun e w' => e = .returned (.agg #[.string f.1, .string f.2]) ∧ Below w.heap.size w w' := by
  obtain ⟨a, b⟩ := f
  go_enter Tryz.func30, Tryz.ntmps30
  go_wp2
  exact bodyPost_ret (v := .agg #[.string a, .string b]) (by simp [results, Tryz.results30, go_sem]) rfl ⟨rfl, (((Below.refl _ _).alloc (Nat.le_refl _) _).alloc (by simp) _).alloc (by simp; omega) _⟩

def upto (fs : List Fd) (k : Nat) : Nat → Fd := fun i => if i < k then fget fs i else noFd
theorem upto_step {fs : List Fd} {k : Nat} {a b : ByteArray} (h : fs[k]? = some (a, b)) : upd1 (upd0 (upto fs k) k a) k b = upto fs (k + 1) := by
  funext i
  unfold upd1 upd0 upto
  by_cases e : i = k
  · subst e
    simp [fget_at h]
  · rw [if_neg e, if_neg e]
    by_cases hi : i < k
    · rw [if_pos hi, if_pos (by omega)]
    · rw [if_neg hi, if_neg (by omega)]

set_option maxHeartbeats 800000 in
theorem to_fields (v : Value) (fs : List Fd) (w : World) (hF : FRow w v fs) (hn : fs.length ≤ 1048576) :
    Calls Tryz.prog 14 #[v] w fun e w' => e = .returned (.slice (some ⟨w.heap.size, 0, none⟩) fs.length fs.length) ∧ FCells w' w.heap.size fs.length (fget fs) ∧ Below w.heap.size w w' := by
  obtain ⟨i0, hi, hz0, hz1, hz2⟩ := info_parts Tryz.infoFd
  obtain ⟨a, c, rfl, h1, h2, h3⟩ := hF
  unfold maxLen at h2
  have H3 := Lib.hid h3; clear h3
  have hmk := fun W => run_make (P := Tryz.prog) W 23 27 i0 _ Tryz.underlying23 hi hz0 .i64 .i64 (fs.length : Int) (fs.length : Int) (by omega) (by omega) (by rw [hz2]; omega) (by omega)
  rw [hz1, Int.toNat_natCast] at hmk
  obtain ⟨m1, m2⟩ := made_fd fs.length
  generalize madeCells (Value.agg #[.string ⟨#[]⟩, .string ⟨#[]⟩]).cells (fs.length * 2) = M at hmk m1 m2
  have HM1 := Lib.hid m1; have HM2 := Lib.hid m2; clear m1 m2
  go_enter Tryz.func14, Tryz.ntmps14
  go_wp2
  go_loopw [4] (fun i wr => ∃ k : Nat, k ≤ fs.length ∧ i = .int .i64 k ∧ FCells wr w.heap.size fs.length (upto fs k) ∧ Below w.heap.size w wr) (fun i _ => fs.length - (intOf i).toNat)
  case atStart => exact ⟨0, Nat.zero_le _, rfl, ⟨M, _, heap_alloc_new w _, HM1.out, fun i hi => by simpa [upto] using HM2.out i hi⟩, (Below.refl _ _).alloc (Nat.le_refl _) _⟩
  case round =>
    obtain ⟨k, hk, rfl, hown, hnx⟩ := hrel
    by_cases hlt : k < fs.length
    · obtain ⟨b1, o1, rfl, hb1, c1, c2⟩ := H3.out k fs[k] (List.getElem?_eq_getElem hlt)
      obtain ⟨f, hf⟩ : ∃ f, f = fs[k] := ⟨_, rfl⟩
      rw [← hf] at c1 c2
      have hfk : fs[k]? = some f := by rw [hf]; exact List.getElem?_eq_getElem hlt
      clear hf
      have k1 := (hnx.cell (p := ⟨b1, o1 + k * 2, none⟩) hb1).trans c1
      have k2 := (hnx.cell (p := ⟨b1, o1 + k * 2 + 1, none⟩) hb1).trans c2
      have hc := to_field f
      obtain ⟨nm, vl⟩ := f
      have HK := Lib.hid hfk; have HC := Lib.hid hc
      clear c1 c2 hfk hc
      go_wp2_with fail
      refine (HC.out _).mono ?_
      rintro e w1 ⟨rfl, hb1'⟩
      have hnx1 := hnx.trans (hb1'.mono hnx.size)
      have hown1 := hown.keep (hb1'.block _ hown.lt)
      have q0 := hown1.cell0 hlt
      have q1 := hown1.cell1 hlt
      have f0 := hown1.frozen (k * 2)
      have f1 := hown1.frozen (k * 2 + 1)
      have hst := (hown1.set0 hlt nm).set1 hlt vl
      rw [upto_step HK.out] at hst
      have HS := Lib.hid hst; have HN := Lib.hid hnx1
      clear hown hown1 hst hnx hnx1 hb1'
      go_wp2
      go_roundw
      case rel => exact ⟨k + 1, by omega, by go_num, HS.out, below_set (below_set HN.out)⟩
      case measure => simp [intOf]; omega
    · have hkn : k = fs.length := by omega
      subst hkn
      go_wp2
      go_ret
      exact ⟨rfl, hown.congr (fun i hi => by simp [upto, hi]), hnx⟩
end Go.Proofs.YtlfcamapjeldjaaGreatDoor
