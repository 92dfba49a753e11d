/- The laws' own helpers over lists of fields: sized, copied, equal, marked, held. -/
import Derived.Test.YtiepobifbkleaaaGreatDoorVals
import Derived.Test.YtiepobifbkleaaaGreatDoorEq
import Derived.Test.YtiepobifbkleaaaGreatDoorDrawL
import Derived.Test.YtiepobifbkleaaaGreatDoorRegR
import Derived.Test.YtiepobifbkleaaaGreatDoorBln
import Derived.Laws.MakeOwn
namespace Go.Proofs.YtiepobifbkleaaaGreatDoor
open Go.RowKit Go.Maps

/-- How much is left behind a field. -/
def szF (f : Fd) (left : Int) : Int := if left - (f.1.size : Int) < 0 then -1 else if left - (f.1.size : Int) - (f.2.size : Int) < 0 then -1 else left - (f.1.size : Int) - (f.2.size : Int)

set_option maxHeartbeats 400000 in
theorem sz_field (f : Fd) (left : Int) (w : World) (h0 : 0 ≤ left) (h1 : left ≤ 1000000000) (hf : f.1.size ≤ maxLen ∧ f.2.size ≤ maxLen) :
    Calls Tryz.prog 150 #[.agg #[.string f.1, .string f.2], .int .i64 left] w fun e w' => e = .returned (.int .i64 (szF f left)) ∧ Below w.heap.size w w' := by
  obtain ⟨a, b⟩ := f
  obtain ⟨ha, hb⟩ := hf
  unfold maxLen at ha hb
  simp only at ha hb
  by_cases c1 : left - (a.size : Int) < 0
  · go_enter Tryz.func150, Tryz.ntmps150
    go_wp2
    go_ret
    exact ⟨by unfold szF; rw [if_pos (by simp only; omega)]; rfl, (Below.refl _ _).alloc (Nat.le_refl _) _⟩
  · by_cases c2 : left - (a.size : Int) - (b.size : Int) < 0
    · go_enter Tryz.func150, Tryz.ntmps150
      go_wp2
      go_ret
      exact ⟨by unfold szF; rw [if_neg (by simp only; omega), if_pos (by simp only; omega)]; rfl, (Below.refl _ _).alloc (Nat.le_refl _) _⟩
    · go_enter Tryz.func150, Tryz.ntmps150
      go_wp2
      go_ret
      exact ⟨by unfold szF; rw [if_neg (by simp only; omega), if_neg (by simp only; omega)]; rfl, (Below.refl _ _).alloc (Nat.le_refl _) _⟩

theorem szF_cases (f : Fd) (left : Int) : (szF f left < 0 ∧ szF f left = -1) ∨ (0 ≤ szF f left ∧ szF f left ≤ left ∧ (f.1.size : Int) ≤ left ∧ (f.2.size : Int) ≤ left) := by
  unfold szF
  split
  · exact .inl ⟨by omega, rfl⟩
  · split
    · exact .inl ⟨by omega, rfl⟩
    · exact .inr ⟨by omega, by omega, by omega, by omega⟩

set_option maxHeartbeats 800000 in
theorem sz_fields (v : Value) (fs : List Fd) (L : Int) (hL0 : 0 ≤ L) (hL1 : L ≤ 1048576) (w : World) (hF : FRow w v fs) (hok : FOk fs maxLen) :
    Calls Tryz.prog 95 #[v, .int .i64 L] w fun e w' => (∃ r : Int, e = .returned (.int .i64 r) ∧ (r = -1 ∨ (0 ≤ r ∧ r ≤ L ∧ FOk fs 1048576 ∧ fs.length ≤ 1048576))) ∧ Below w.heap.size w w' := by
  obtain ⟨a, c, rfl, h1, h2, h3⟩ := hF
  unfold maxLen at h2
  have H3 := Lib.hid h3; have HOK := Lib.hid hok
  clear h3 hok
  by_cases hbig : L < fs.length
  · go_enter Tryz.func95, Tryz.ntmps95
    go_wp2
    go_ret
    exact ⟨⟨-1, rfl, .inl rfl⟩, Below.refl _ _⟩
  · go_enter Tryz.func95, Tryz.ntmps95
    go_wp2
    go_loopw [1, 5] (fun x i wr => ∃ (k : Nat) (r : Int), k ≤ fs.length ∧ i = .int .i64 k ∧ x = .int .i64 r ∧ 0 ≤ r ∧ r ≤ L ∧ Hid (∀ (j : Nat) (f : Fd), j < k → fs[j]? = some f → f.1.size ≤ 1048576 ∧ f.2.size ≤ 1048576) ∧ Below w.heap.size w wr) (fun _ i _ => fs.length - (intOf i).toNat)
    case atStart => exact ⟨0, _, Nat.zero_le _, rfl, rfl, by omega, by omega, Lib.hid (fun j f hj => by omega), Below.refl _ _⟩
    case round =>
      obtain ⟨k, r, hk, rfl, rfl, hr0, hr1, hall, hnx⟩ := hrel
      by_cases hlt : k < fs.length
      · obtain ⟨b1, o1, rfl, hb1, c1, c2⟩ := H3.out k fs[k] (List.getElem?_eq_getElem hlt)
        obtain ⟨f, hf⟩ : ∃ f, f = fs[k] := ⟨_, rfl⟩
        rw [← hf] at c1 c2
        have hfk : fs[k]? = some f := by rw [hf]; exact List.getElem?_eq_getElem hlt
        clear hf
        have hfo := HOK.out f (List.mem_of_getElem? hfk)
        have k1 := (hnx.cell (p := ⟨b1, o1 + k * 2, none⟩) hb1).trans c1
        have k2 := (hnx.cell (p := ⟨b1, o1 + k * 2 + 1, none⟩) hb1).trans c2
        have hc := sz_field f r
        have hz := szF_cases f r
        obtain ⟨nm, vl⟩ := f
        clear c1 c2
        have HK := Lib.hid hfk; clear hfk
        have HO := Lib.hid hfo; clear hfo
        generalize szF (nm, vl) r = q at hc hz
        simp only at hz
        have HC := Lib.hid hc; clear hc
        go_wp2_with fail
        refine (HC.out _ (by omega) (by omega) HO.out).mono ?_
        rintro e w1 ⟨rfl, hb1'⟩
        have hnx1 := hnx.trans (hb1'.mono hnx.size)
        rcases hz with ⟨hq, rfl⟩ | ⟨q1, q2, q3, q4⟩
        · go_wp2
          go_ret
          exact ⟨⟨-1, rfl, .inl rfl⟩, hnx1⟩
        · go_wp2
          go_roundw
          case rel =>
            refine ⟨k + 1, q, by omega, by go_num, rfl, q1, by omega, Lib.hid (fun j f hj hjf => ?_), hnx1⟩
            rcases Nat.lt_or_ge j k with h | h
            · exact hall.out j f h hjf
            · have : j = k := by omega
              subst this
              rw [HK.out] at hjf
              cases hjf
              simp only; omega
          case measure => simp [intOf]; omega
      · have hkn : k = fs.length := by omega
        subst hkn
        go_wp2
        go_ret
        refine ⟨⟨r, rfl, .inr ⟨hr0, hr1, fun f hf => ?_, by omega⟩⟩, hnx⟩
        obtain ⟨j, hj, hjf⟩ := List.getElem_of_mem hf
        exact hall.out j f hj (by rw [List.getElem?_eq_getElem hj, hjf])

def noFd : Fd := (⟨#[]⟩, ⟨#[]⟩)
/-- Block g holds n fields, the i-th one F i; none is frozen. -/
def FCells (w : World) (g n : Nat) (F : Nat → Fd) : Prop :=
  ∃ cur t, w.heap[g]? = some (.cells cur t (0, 0)) ∧ n * 2 ≤ cur.size ∧ ∀ i, i < n → cur[i * 2]? = some (.string (F i).1) ∧ cur[i * 2 + 1]? = some (.string (F i).2)

theorem FCells.lt {w : World} {g n : Nat} {F : Nat → Fd} (h : FCells w g n F) : g < w.heap.size := by
  obtain ⟨cur, t, hh, _⟩ := h
  exact (Array.getElem?_eq_some_iff.1 hh).1
theorem FCells.keep {w w' : World} {g n : Nat} {F : Nat → Fd} (h : FCells w g n F) (hk : w'.heap[g]? = w.heap[g]?) : FCells w' g n F := by
  obtain ⟨cur, t, hh, r⟩ := h
  exact ⟨cur, t, hk.trans hh, r⟩
theorem FCells.congr {w : World} {g n : Nat} {F F' : Nat → Fd} (h : FCells w g n F) (he : ∀ i, i < n → F i = F' i) : FCells w g n F' := by
  obtain ⟨cur, t, hh, hs, hc⟩ := h
  exact ⟨cur, t, hh, hs, fun i hi => by rw [← he i hi]; exact hc i hi⟩
theorem FCells.cell0 {w : World} {g n : Nat} {F : Nat → Fd} (h : FCells w g n F) {i : Nat} (hi : i < n) : w.cell? ⟨g, i * 2, none⟩ = some (.string (F i).1) := by
  obtain ⟨cur, t, hh, hs, hc⟩ := h
  simp [World.cell?, hh, (hc i hi).1]
theorem FCells.cell1 {w : World} {g n : Nat} {F : Nat → Fd} (h : FCells w g n F) {i : Nat} (hi : i < n) : w.cell? ⟨g, i * 2 + 1, none⟩ = some (.string (F i).2) := by
  obtain ⟨cur, t, hh, hs, hc⟩ := h
  simp [World.cell?, hh, (hc i hi).2]
theorem FCells.frozen {w : World} {g n : Nat} {F : Nat → Fd} (h : FCells w g n F) (j : Nat) : w.frozen? ⟨g, j, none⟩ = false := by
  obtain ⟨cur, t, hh, hs, hc⟩ := h
  simp [World.frozen?, hh]
def upd0 (F : Nat → Fd) (i : Nat) (s : ByteArray) : Nat → Fd := fun j => if j = i then (s, (F j).2) else F j
def upd1 (F : Nat → Fd) (i : Nat) (s : ByteArray) : Nat → Fd := fun j => if j = i then ((F j).1, s) else F j
theorem FCells.set0 {w : World} {g n : Nat} {F : Nat → Fd} (h : FCells w g n F) {i : Nat} (_hi : i < n) (s : ByteArray) : FCells (w.setCell ⟨g, i * 2, none⟩ (.string s)) g n (upd0 F i s) := by
  obtain ⟨cur, t, hh, hs, hc⟩ := h
  refine ⟨_, t, heap_setCell_same w g (i * 2) cur t _ hh, by simpa using hs, fun j hj => ?_⟩
  obtain ⟨h0, h1⟩ := hc j hj
  rw [Array.getElem?_setIfInBounds, Array.getElem?_setIfInBounds]
  unfold upd0
  by_cases e : j = i
  · subst e
    simp only [if_true, show ¬ (j * 2 = j * 2 + 1) from by omega, show j * 2 < cur.size from by omega, if_false]
    exact ⟨trivial, h1⟩
  · simp only [show ¬ (i * 2 = j * 2 + 1) from by omega, show ¬ (i * 2 = j * 2) from by omega, if_neg e, if_false]
    exact ⟨h0, h1⟩
theorem FCells.set1 {w : World} {g n : Nat} {F : Nat → Fd} (h : FCells w g n F) {i : Nat} (_hi : i < n) (s : ByteArray) : FCells (w.setCell ⟨g, i * 2 + 1, none⟩ (.string s)) g n (upd1 F i s) := by
  obtain ⟨cur, t, hh, hs, hc⟩ := h
  refine ⟨_, t, heap_setCell_same w g (i * 2 + 1) cur t _ hh, by simpa using hs, fun j hj => ?_⟩
  obtain ⟨h0, h1⟩ := hc j hj
  rw [Array.getElem?_setIfInBounds, Array.getElem?_setIfInBounds]
  unfold upd1
  by_cases e : j = i
  · subst e
    simp only [if_true, show ¬ (j * 2 + 1 = j * 2) from by omega, show j * 2 + 1 < cur.size from by omega, if_false]
    exact ⟨h0, trivial⟩
  · simp only [show ¬ (i * 2 + 1 = j * 2 + 1) from by omega, show ¬ (i * 2 + 1 = j * 2) from by omega, if_neg e, if_false]
    exact ⟨h0, h1⟩
def fget (fs : List Fd) (i : Nat) : Fd := (fs[i]?).getD noFd
theorem fget_at {fs : List Fd} {i : Nat} {f : Fd} (h : fs[i]? = some f) : fget fs i = f := by simp [fget, h]
theorem FCells.row {w : World} {g : Nat} {fs : List Fd} (h : FCells w g fs.length (fget fs)) (hn : fs.length ≤ maxLen) : FRow w (.slice (some ⟨g, 0, none⟩) fs.length fs.length) fs := by
  refine ⟨_, _, rfl, Nat.le_refl _, hn, fun j f hj => ⟨g, 0, rfl, h.lt, ?_, ?_⟩⟩
  · have := h.cell0 (i := j) (List.getElem?_eq_some_iff.1 hj).1
    rw [fget_at hj] at this
    rw [Nat.zero_add]; exact this
  · have := h.cell1 (i := j) (List.getElem?_eq_some_iff.1 hj).1
    rw [fget_at hj] at this
    rw [Nat.zero_add]; exact this

theorem made_fd (n : Nat) : (madeCells (Value.agg #[.string ⟨#[]⟩, .string ⟨#[]⟩]).cells (n * 2)).size = n * 2 ∧ ∀ i, i < n → (madeCells (Value.agg #[.string ⟨#[]⟩, .string ⟨#[]⟩]).cells (n * 2))[i * 2]? = some (.string noFd.1) ∧ (madeCells (Value.agg #[.string ⟨#[]⟩, .string ⟨#[]⟩]).cells (n * 2))[i * 2 + 1]? = some (.string noFd.2) := by
  refine ⟨size_madeCells _ _, fun i hi => ?_⟩
  have hc : (Value.agg #[.string ⟨#[]⟩, .string ⟨#[]⟩]).cells = #[.string ⟨#[]⟩, .string ⟨#[]⟩] := by rfl
  unfold madeCells
  rw [hc]
  constructor
  · rw [Array.getElem?_map, Array.getElem?_range, if_pos (by omega)]
    simp [noFd]
  · rw [Array.getElem?_map, Array.getElem?_range, if_pos (by omega)]
    have : (i * 2 + 1) % 2 = 1 := by omega
    simp [noFd, this]

set_option maxHeartbeats 400000 in
theorem to_field (f : Fd) (w : World) :
    Calls Tryz.prog 152 #[.agg #[.string f.1, .string f.2]] w fun e w' => e = .returned (.agg #[.string f.1, .string f.2]) ∧ Below w.heap.size w w' := by
  obtain ⟨a, b⟩ := f
  go_enter Tryz.func152, Tryz.ntmps152
  go_wp2
  exact bodyPost_ret (v := .agg #[.string a, .string b]) (by simp [results, Tryz.results152, go_sem]) rfl ⟨rfl, (((Below.refl _ _).alloc (Nat.le_refl _) _).alloc (by simp) _).alloc (by simp; omega) _⟩

def upto (fs : List Fd) (k : Nat) : Nat → Fd := fun i => if i < k then fget fs i else noFd
theorem upto_step {fs : List Fd} {k : Nat} {a b : ByteArray} (h : fs[k]? = some (a, b)) : upd1 (upd0 (upto fs k) k a) k b = upto fs (k + 1) := by
  funext i
  unfold upd1 upd0 upto
  by_cases e : i = k
  · subst e
    simp [fget_at h]
  · rw [if_neg e, if_neg e]
    by_cases hi : i < k
    · rw [if_pos hi, if_pos (by omega)]
    · rw [if_neg hi, if_neg (by omega)]

set_option maxHeartbeats 800000 in
theorem to_fields (v : Value) (fs : List Fd) (w : World) (hF : FRow w v fs) (hn : fs.length ≤ 1048576) :
    Calls Tryz.prog 97 #[v] w fun e w' => e = .returned (.slice (some ⟨w.heap.size, 0, none⟩) fs.length fs.length) ∧ FCells w' w.heap.size fs.length (fget fs) ∧ Below w.heap.size w w' := by
  obtain ⟨i0, hi, hz0, hz1, hz2⟩ := info_parts Tryz.infoFd
  obtain ⟨a, c, rfl, h1, h2, h3⟩ := hF
  unfold maxLen at h2
  have H3 := Lib.hid h3; clear h3
  have hmk := fun W => run_make (P := Tryz.prog) W 38 50 i0 _ Tryz.underlying38 hi hz0 .i64 .i64 (fs.length : Int) (fs.length : Int) (by omega) (by omega) (by rw [hz2]; omega) (by omega)
  rw [hz1, Int.toNat_natCast] at hmk
  obtain ⟨m1, m2⟩ := made_fd fs.length
  generalize madeCells (Value.agg #[.string ⟨#[]⟩, .string ⟨#[]⟩]).cells (fs.length * 2) = M at hmk m1 m2
  have HM1 := Lib.hid m1; have HM2 := Lib.hid m2; clear m1 m2
  go_enter Tryz.func97, Tryz.ntmps97
  go_wp2
  go_loopw [4] (fun i wr => ∃ k : Nat, k ≤ fs.length ∧ i = .int .i64 k ∧ FCells wr w.heap.size fs.length (upto fs k) ∧ Below w.heap.size w wr) (fun i _ => fs.length - (intOf i).toNat)
  case atStart => exact ⟨0, Nat.zero_le _, rfl, ⟨M, _, heap_alloc_new w _, Nat.le_of_eq HM1.out.symm, fun i hi => by simpa [upto] using HM2.out i hi⟩, (Below.refl _ _).alloc (Nat.le_refl _) _⟩
  case round =>
    obtain ⟨k, hk, rfl, hown, hnx⟩ := hrel
    by_cases hlt : k < fs.length
    · obtain ⟨b1, o1, rfl, hb1, c1, c2⟩ := H3.out k fs[k] (List.getElem?_eq_getElem hlt)
      obtain ⟨f, hf⟩ : ∃ f, f = fs[k] := ⟨_, rfl⟩
      rw [← hf] at c1 c2
      have hfk : fs[k]? = some f := by rw [hf]; exact List.getElem?_eq_getElem hlt
      clear hf
      have k1 := (hnx.cell (p := ⟨b1, o1 + k * 2, none⟩) hb1).trans c1
      have k2 := (hnx.cell (p := ⟨b1, o1 + k * 2 + 1, none⟩) hb1).trans c2
      have hc := to_field f
      obtain ⟨nm, vl⟩ := f
      have HK := Lib.hid hfk; have HC := Lib.hid hc
      clear c1 c2 hfk hc
      go_wp2_with fail
      refine (HC.out _).mono ?_
      rintro e w1 ⟨rfl, hb1'⟩
      have hnx1 := hnx.trans (hb1'.mono hnx.size)
      have hown1 := hown.keep (hb1'.block _ hown.lt)
      have q0 := hown1.cell0 hlt
      have q1 := hown1.cell1 hlt
      have f0 := hown1.frozen (k * 2)
      have f1 := hown1.frozen (k * 2 + 1)
      have hst := (hown1.set0 hlt nm).set1 hlt vl
      rw [upto_step HK.out] at hst
      have HS := Lib.hid hst; have HN := Lib.hid hnx1
      clear hown hown1 hst hnx hnx1 hb1'
      go_wp2
      go_roundw
      case rel => exact ⟨k + 1, by omega, by go_num, HS.out, below_set (below_set HN.out)⟩
      case measure => simp [intOf]; omega
    · have hkn : k = fs.length := by omega
      subst hkn
      go_wp2
      go_ret
      exact ⟨rfl, hown.congr (fun i hi => by simp [upto, hi]), hnx⟩

theorem str_refl (a : ByteArray) : (a.toList != a.toList) = false := by simp

set_option maxHeartbeats 400000 in
theorem eq_field (f : Fd) (w : World) :
    Calls Tryz.prog 154 #[.agg #[.string f.1, .string f.2], .agg #[.string f.1, .string f.2]] w fun e w' => e = .returned (.bool true) ∧ Below w.heap.size w w' := by
  obtain ⟨a, b⟩ := f
  go_enter Tryz.func154, Tryz.ntmps154
  go_wp2
  go_ret
  exact ⟨rfl, ((Below.refl _ _).alloc (Nat.le_refl _) _).alloc (by simp) _⟩

set_option maxHeartbeats 1600000 in
theorem eq_fields (v1 v2 : Value) (fs : List Fd) (w : World) (hF1 : FRow w v1 fs) (hF2 : FRow w v2 fs) (hn : fs.length ≤ 2000000) :
    Calls Tryz.prog 99 #[v1, v2] w fun e w' => e = .returned (.bool true) ∧ Below w.heap.size w w' := by
  obtain ⟨a1, c1, rfl, _, _, h1⟩ := hF1
  obtain ⟨a2, c2, rfl, _, _, h2⟩ := hF2
  have H1 := Lib.hid h1; have H2 := Lib.hid h2; clear h1 h2
  go_enter Tryz.func99, Tryz.ntmps99
  go_wp2
  go_loopw [5] (fun i wr => ∃ k : Nat, k ≤ fs.length ∧ i = .int .i64 k ∧ Below w.heap.size w wr) (fun i _ => fs.length - (intOf i).toNat)
  case atStart => exact ⟨0, Nat.zero_le _, rfl, Below.refl _ _⟩
  case round =>
    obtain ⟨k, hk, rfl, hnx⟩ := hrel
    by_cases hlt : k < fs.length
    · obtain ⟨b1, o1, rfl, hb1, c1, d1⟩ := H1.out k fs[k] (List.getElem?_eq_getElem hlt)
      obtain ⟨b2, o2, rfl, hb2, c2, d2⟩ := H2.out k fs[k] (List.getElem?_eq_getElem hlt)
      generalize fs[k] = f at *
      have hc := eq_field f
      have HC : ∀ W, Below w.heap.size w W → W.cell? ⟨b1, o1 + k * 2, none⟩ = some (.string f.1) ∧ W.cell? ⟨b1, o1 + k * 2 + 1, none⟩ = some (.string f.2) ∧ W.cell? ⟨b2, o2 + k * 2, none⟩ = some (.string f.1) ∧ W.cell? ⟨b2, o2 + k * 2 + 1, none⟩ = some (.string f.2) := fun W hW =>
        ⟨(hW.cell (p := ⟨b1, o1 + k * 2, none⟩) hb1).trans c1, (hW.cell (p := ⟨b1, o1 + k * 2 + 1, none⟩) hb1).trans d1, (hW.cell (p := ⟨b2, o2 + k * 2, none⟩) hb2).trans c2, (hW.cell (p := ⟨b2, o2 + k * 2 + 1, none⟩) hb2).trans d2⟩
      obtain ⟨k1, k2, k3, k4⟩ := HC wr hnx
      clear c1 c2 d1 d2 HC H1 H2
      obtain ⟨nm, vl⟩ := f
      simp only at k1 k2 k3 k4 hc
      have HE := Lib.hid hc; clear hc
      have i1 : (k : Int) < (fs.length : Int) := by omega
      have hs := hnx.size
      have HN := Lib.hid hnx; clear hnx
      go_wp2_with fail
      go_region_with (go_at_call 154; refine (HE.out _).mono ?_; rintro e w1 ⟨rfl, hbx⟩; have hbz := HN.out.trans (below_drew_left (hbx.mono hs)))
      all_goals go_wp2
      all_goals go_roundw
      all_goals first
        | (case rel => exact ⟨k + 1, by omega, by go_num, hbz⟩)
        | (simp [intOf]; omega)
    · have hkn : k = fs.length := by omega
      subst hkn
      go_wp2
      go_ret
      exact ⟨rfl, hnx⟩

theorem mark_nat (k : Nat) (x : Int) (hx : x = (k : Int)) (w : World) (hk : k < 10000000) :
    Calls Tryz.prog 156 #[.int .i64 x] w fun e w' => e = .returned (.string ⟨(markS k).toArray⟩) ∧ Below w.heap.size w w' := by
  subst hx; exact mark_text k w hk


/-- The marks of a field, and a list whose first j fields are marked. -/
def mkFd (k i : Nat) : Fd := (⟨(markS (k + 2 * i)).toArray⟩, ⟨(markS (k + 2 * i + 1)).toArray⟩)
def mkUp (k : Nat) (F : Nat → Fd) (j : Nat) : Nat → Fd := fun i => if i < j then mkFd k i else F i
theorem mkUp_step (k : Nat) (F : Nat → Fd) (j : Nat) : upd1 (upd0 (mkUp k F j) j ⟨(markS (k + 2 * j)).toArray⟩) j ⟨(markS (k + 2 * j + 1)).toArray⟩ = mkUp k F (j + 1) := by
  funext i
  unfold upd1 upd0 mkUp
  by_cases e : i = j
  · subst e; simp [mkFd]
  · rw [if_neg e, if_neg e]
    by_cases hi : i < j
    · rw [if_pos hi, if_pos (by omega)]
    · rw [if_neg hi, if_neg (by omega)]

set_option maxHeartbeats 800000 in
theorem mark_fields (g n c k : Nat) (F : Nat → Fd) (w : World) (h : FCells w g n F) (hk : k + 2 * n < 10000000) :
    Calls Tryz.prog 101 #[.slice (some ⟨g, 0, none⟩) n c, .int .i64 k] w fun e w' => e = .returned (.int .i64 ((k : Int) + 2 * (n : Int))) ∧ FCells w' g n (mkUp k F n) ∧ w.grownBy w' (some g) := by
  go_enter Tryz.func101, Tryz.ntmps101
  go_wp2
  go_loopw [1, 5] (fun q i wr => ∃ j : Nat, j ≤ n ∧ i = .int .i64 j ∧ q = .int .i64 ((k : Int) + 2 * (j : Int)) ∧ FCells wr g n (mkUp k F j) ∧ w.grownBy wr (some g)) (fun _ i _ => n - (intOf i).toNat)
  case atStart => exact ⟨0, Nat.zero_le _, rfl, by simp, h.congr (fun i _ => by simp [mkUp]), World.grownBy.refl _ _⟩
  case round =>
    obtain ⟨j, hj, rfl, rfl, hown, hg⟩ := hrel
    by_cases hlt : j < n
    · have j1 : (j : Int) < (n : Int) := by omega
      go_wp2_with fail
      refine (mark_nat (k + 2 * j) _ (by omega) _ (by omega)).mono ?_
      rintro e w1 ⟨rfl, hb1⟩
      have hown1 := hown.keep (hb1.block _ hown.lt)
      have hg1 := grown_trans hg (grown_of_below hb1 (some g))
      have q0 := hown1.cell0 hlt
      have f0 := hown1.frozen (j * 2)
      have hst := hown1.set0 hlt ⟨(markS (k + 2 * j)).toArray⟩
      have hg2 := grown_trans hg1 (grown_set w1 g (j * 2) (.string ⟨(markS (k + 2 * j)).toArray⟩))
      have hstep := mkUp_step k F j
      generalize (ByteArray.mk (markS (k + 2 * j)).toArray) = x1 at *
      have HS := Lib.hid hst; have HG := Lib.hid hg2; have HStep := Lib.hid hstep
      clear hown hown1 hst hg hg1 hg2 hb1 h hstep
      go_wp2_with fail
      refine (mark_nat (k + 2 * j + 1) _ (by omega) _ (by omega)).mono ?_
      rintro e w2 ⟨rfl, hb2⟩
      have hown2 := HS.out.keep (hb2.block _ HS.out.lt)
      have hg3 := grown_trans HG.out (grown_of_below hb2 (some g))
      have q1 := hown2.cell1 hlt
      have f1 := hown2.frozen (j * 2 + 1)
      have hst := hown2.set1 hlt ⟨(markS (k + 2 * j + 1)).toArray⟩
      rw [HStep.out] at hst
      have hg4 := grown_trans hg3 (grown_set w2 g (j * 2 + 1) (.string ⟨(markS (k + 2 * j + 1)).toArray⟩))
      generalize (ByteArray.mk (markS (k + 2 * j + 1)).toArray) = x2 at *
      have HS2 := Lib.hid hst; have HG2 := Lib.hid hg4
      clear hown2 hst hg3 hg4 hb2 HS HG
      go_wp2
      go_roundw
      case rel => exact ⟨j + 1, by omega, by go_num, by go_num, HS2.out, HG2.out⟩
      case measure => simp [intOf]; omega
    · have hjn : j = n := by omega
      subst hjn
      go_wp2
      go_ret
      exact ⟨rfl, hown, hg⟩

set_option maxRecDepth 100000 in
set_option maxHeartbeats 1600000 in
theorem held_fields (g n c k : Nat) (w : World) (h : FCells w g n (mkFd k)) (hk : k + 2 * n < 10000000) :
    Calls Tryz.prog 102 #[.slice (some ⟨g, 0, none⟩) n c, .int .i64 k] w fun e w' => e = .returned (.int .i64 ((k : Int) + 2 * (n : Int))) ∧ Below w.heap.size w w' := by
  have hglt := h.lt
  have HH := Lib.hid h
  clear h
  go_enter Tryz.func102, Tryz.ntmps102
  go_wp2
  go_loopw [1, 5] (fun q i wr => ∃ j : Nat, j ≤ n ∧ i = .int .i64 j ∧ q = .int .i64 ((k : Int) + 2 * (j : Int)) ∧ Below w.heap.size w wr) (fun _ i _ => n - (intOf i).toNat)
  case atStart => exact ⟨0, Nat.zero_le _, rfl, by simp, Below.refl _ _⟩
  case round =>
    obtain ⟨j, hj, rfl, rfl, hbel⟩ := hrel
    by_cases hlt : j < n
    · have j1 : (j : Int) < (n : Int) := by omega
      have hcell : ∀ W, Below w.heap.size w W → W.cell? ⟨g, j * 2, none⟩ = some (.string ⟨(markS (k + 2 * j)).toArray⟩) ∧ W.cell? ⟨g, j * 2 + 1, none⟩ = some (.string ⟨(markS (k + 2 * j + 1)).toArray⟩) := fun W hW => by
        have hc := HH.out.keep (hW.block g hglt)
        exact ⟨hc.cell0 hlt, hc.cell1 hlt⟩
      have HC := Lib.hid hcell; clear hcell
      have hm1 := fun W => mark_nat (k + 2 * j) ((k : Int) + 2 * (j : Int)) (by omega) W (by omega)
      have hm2 := fun W => mark_nat (k + 2 * j + 1) ((k : Int) + 2 * (j : Int) + 1) (by omega) W (by omega)
      generalize (ByteArray.mk (markS (k + 2 * j)).toArray) = x1 at *
      generalize (ByteArray.mk (markS (k + 2 * j + 1)).toArray) = x2 at *
      have e1 := str_refl x1
      have e2 := str_refl x2
      go_wp2_with fail
      refine wp_region_last (by kernel_rfl) 7 (by kernel_rfl) (by kernel_rfl) (by kernel_rfl)
        (fun u => { tmps := #[.slice (some ⟨g, 0, none⟩) n c, .int .i64 ((k : Int) + 2 * (j : Int)), undef, undef, u4, .int .i64 (j : Int), .int .i64 (j : Int), .slice (some ⟨g, 0, none⟩) n c, .int .i64 (n : Int), .bool true, u10, u11, u 0, u 1, u 2, u 3, u 4, u 5, u 6, u19, u20, u21, u22, u23, u24, u25, u26, u27, u28, u29, u30, u31, undef], defers := [] })
        (fun _ W => Below w.heap.size w W)
        (RAt [REq (.slice (some ⟨g, 0, none⟩) n c), REq (.int .i64 (j : Int)), REq (.pointer (some ⟨g, j * 2, none⟩)), REq (.pointer (some ⟨g, j * 2, none⟩)), REq (.string x1), REq (.int .i64 ((k : Int) + 2 * (j : Int))), REq (.string x1)])
        (fun _ _ => True) (fun i => [u12, u13, u14, u15, u16, u17, u18].getD i undef) hbel.drew
        (fun i v w w' _ hR _ => blind_at (by intro R hR; simp only [List.mem_cons, List.not_mem_nil, or_false] at hR; rcases hR with rfl | rfl | rfl | rfl | rfl | rfl | rfl <;> exact blind_eq _) hR) ?_ ?_
      · intro i hi u w1 kk hkk hC hd
        obtain ⟨c0, c1⟩ := HC.out w1 hC
        match i, hi with
        | 0, _ =>
          refine wpOp_step rfl (fun K hK => ?_)
          clear hd
          go_simp
          exact hK _ _ ⟨_, rfl, rfl, trivial, hC⟩
        | 1, _ =>
          refine wpOp_step rfl (fun K hK => ?_)
          clear hd
          go_simp
          exact hK _ _ ⟨_, rfl, rfl, trivial, hC⟩
        | 2, _ =>
          have e0 : u 0 = .slice (some ⟨g, 0, none⟩) n c := hd 0 (dep_of (by kernel_rfl))
          have e1 : u 1 = .int .i64 (j : Int) := hd 1 (dep_of (by kernel_rfl))
          refine wpOp_step rfl (fun K hK => ?_)
          clear hd
          go_simp
          exact hK _ _ ⟨_, by simp [upd, e0, e1], rfl, trivial, hC⟩
        | 3, _ =>
          have e2 : u 2 = .pointer (some ⟨g, j * 2, none⟩) := hd 2 (dep_of (by kernel_rfl))
          refine wpOp_step rfl (fun K hK => ?_)
          clear hd
          go_simp
          exact hK _ _ ⟨_, by simp [upd, e2], rfl, trivial, hC⟩
        | 4, _ =>
          have e3 : u 3 = .pointer (some ⟨g, j * 2, none⟩) := hd 3 (dep_of (by kernel_rfl))
          refine wpOp_step rfl (fun K hK => ?_)
          clear hd
          go_simp
          exact hK _ _ ⟨_, by simp [upd, e3], rfl, trivial, hC⟩
        | 5, _ =>
          refine wpOp_step rfl (fun K hK => ?_)
          clear hd
          go_simp
          exact hK _ _ ⟨_, rfl, rfl, trivial, hC⟩
        | 6, _ =>
          have e5 : u 5 = .int .i64 ((k : Int) + 2 * (j : Int)) := hd 5 (dep_of (by kernel_rfl))
          refine wpOp_step rfl (fun K hK => ?_)
          clear hd
          go_simp
          refine (hm1 _).mono ?_
          rintro e w2 ⟨rfl, hb2⟩
          exact hK _ _ ⟨_, by simp [upd, e5], rfl, trivial, hC.trans (hb2.mono hC.size)⟩
      intro u w1 kk hkk hC hd
      have e4 : u 4 = .string x1 := hd 4 (by decide)
      have e6 : u 6 = .string x1 := hd 6 (by decide)
      refine wpOp_step rfl (fun K hK => ?_)
      clear hd
      go_simp
      refine hK _ _ ?_
      clear hK K e4 e6
      go_wp2_with fail
      refine wp_region_last (by kernel_rfl) 7 (by kernel_rfl) (by kernel_rfl) (by kernel_rfl)
        (fun U => { tmps := #[.slice (some ⟨g, 0, none⟩) n c, .int .i64 ((k : Int) + 2 * (j : Int) + 1), undef, undef, u4, .int .i64 (j : Int), .int .i64 (j : Int), .slice (some ⟨g, 0, none⟩) n c, .int .i64 (n : Int), .bool true, u10, u11, u 0, u 1, u 2, u 3, .string x1, u 5, .string x1, .bool false, .int .i64 ((k : Int) + 2 * (j : Int)), .int .i64 ((k : Int) + 2 * (j : Int) + 1), U 0, U 1, U 2, U 3, U 4, U 5, U 6, u29, u30, u31, undef], defers := [] })
        (fun _ W => Below w.heap.size w W)
        (RAt [REq (.slice (some ⟨g, 0, none⟩) n c), REq (.int .i64 (j : Int)), REq (.pointer (some ⟨g, j * 2, none⟩)), REq (.pointer (some ⟨g, j * 2 + 1, none⟩)), REq (.string x2), REq (.int .i64 ((k : Int) + 2 * (j : Int) + 1)), REq (.string x2)])
        (fun _ _ => True) (fun i => [u22, u23, u24, u25, u26, u27, u28].getD i undef) hC.drew
        (fun i v w w' _ hR _ => blind_at (by intro R hR; simp only [List.mem_cons, List.not_mem_nil, or_false] at hR; rcases hR with rfl | rfl | rfl | rfl | rfl | rfl | rfl <;> exact blind_eq _) hR) ?_ ?_
      · intro i hi U w2 kk hkk hC2 hd
        obtain ⟨c0, c1⟩ := HC.out w2 hC2
        match i, hi with
        | 0, _ =>
          refine wpOp_step rfl (fun K hK => ?_)
          clear hd
          go_simp
          exact hK _ _ ⟨_, rfl, rfl, trivial, hC2⟩
        | 1, _ =>
          refine wpOp_step rfl (fun K hK => ?_)
          clear hd
          go_simp
          exact hK _ _ ⟨_, rfl, rfl, trivial, hC2⟩
        | 2, _ =>
          have d0 : U 0 = .slice (some ⟨g, 0, none⟩) n c := hd 0 (dep_of (by kernel_rfl))
          have d1 : U 1 = .int .i64 (j : Int) := hd 1 (dep_of (by kernel_rfl))
          refine wpOp_step rfl (fun K hK => ?_)
          clear hd
          go_simp
          exact hK _ _ ⟨_, by simp [upd, d0, d1], rfl, trivial, hC2⟩
        | 3, _ =>
          have d2 : U 2 = .pointer (some ⟨g, j * 2, none⟩) := hd 2 (dep_of (by kernel_rfl))
          refine wpOp_step rfl (fun K hK => ?_)
          clear hd
          go_simp
          exact hK _ _ ⟨_, by simp [upd, d2], rfl, trivial, hC2⟩
        | 4, _ =>
          have d3 : U 3 = .pointer (some ⟨g, j * 2 + 1, none⟩) := hd 3 (dep_of (by kernel_rfl))
          refine wpOp_step rfl (fun K hK => ?_)
          clear hd
          go_simp
          exact hK _ _ ⟨_, by simp [upd, d3], rfl, trivial, hC2⟩
        | 5, _ =>
          refine wpOp_step rfl (fun K hK => ?_)
          clear hd
          go_simp
          exact hK _ _ ⟨_, rfl, rfl, trivial, hC2⟩
        | 6, _ =>
          have d5 : U 5 = .int .i64 ((k : Int) + 2 * (j : Int) + 1) := hd 5 (dep_of (by kernel_rfl))
          refine wpOp_step rfl (fun K hK => ?_)
          clear hd
          go_simp
          refine (hm2 _).mono ?_
          rintro e w3 ⟨rfl, hb2⟩
          exact hK _ _ ⟨_, by simp [upd, d5], rfl, trivial, hC2.trans (hb2.mono hC2.size)⟩
      intro U w2 kk hkk hC2 hd
      have d4 : U 4 = .string x2 := hd 4 (by decide)
      have d6 : U 6 = .string x2 := hd 6 (by decide)
      refine wpOp_step rfl (fun K hK => ?_)
      clear hd
      go_simp
      refine hK _ _ ?_
      clear hK K d4 d6
      go_wp2
      go_roundw
      case rel => exact ⟨j + 1, by omega, by go_num, by go_num, hC2⟩
      case measure => simp [intOf]; omega
    · have hjn : j = n := by omega
      subst hjn
      go_wp2
      go_ret
      exact ⟨rfl, hbel⟩
end Go.Proofs.YtiepobifbkleaaaGreatDoor
