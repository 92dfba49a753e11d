import Derived.Test.YtbhnjnoblkfckabGreatDoorGA00
import Derived.Test.YtbhnjnoblkfckabGreatDoorRows
import Derived.WalkKit
import Derived.WalkSpells
import Derived.WalkLawsBesides
import Derived.BigQuiet
import Derived.Deep.RegionWith
import Derived.Lib.Hide
import Derived.Test.YtbhnjnoblkfckabGreatDoorGA09
import Derived.Test.YtbhnjnoblkfckabGreatDoorGA02
import Derived.Laws.MakeOwn
import Derived.Test.YtbhnjnoblkfckabGreatDoorGA10
-- from XEq
/- Walks: the laws' own helpers over slices of texts: equal, marked, held. -/
namespace Go.Proofs.YtbhnjnoblkfckabGreatDoor
open Go.RowKit

/-- A slice that reads as a list of values of one cell each. -/
def Rd1 (w : World) (v : Value) (xs : List Value) : Prop :=
  (v = .slice none 0 0 ∧ xs = []) ∨ ∃ b o c, v = .slice (some ⟨b, o, none⟩) xs.length c ∧ xs.length ≤ c ∧ c ≤ maxLen ∧ ∀ j u, xs[j]? = some u → w.cell? ⟨b, o + j, none⟩ = some u

theorem Rd1.of_own {w : World} {base : Nat} {e : TypeId} {v : Value} {n : Nat} {xs : List Value} (h : w.ownsRow base e 1 v n xs) : Rd1 w v xs := by
  obtain ⟨hl, h | ⟨g, cap, cur, rfl, _, hh, hn, hm, hs, ht⟩⟩ := h
  · obtain ⟨rfl, rfl⟩ := h
    exact .inl ⟨rfl, List.eq_nil_of_length_eq_zero (by simpa using hl)⟩
  · have hl' : xs.length = n := by simpa using hl
    refine .inr ⟨g, 0, cap, by rw [hl'], by omega, hm, fun j u hu => ?_⟩
    have ho : w.ownsRow g e 1 (.slice (some ⟨g, 0, none⟩) n cap) n xs := ⟨hl, .inr ⟨g, cap, cur, rfl, Nat.le_refl _, hh, hn, hm, hs, ht⟩⟩
    have hj : j < xs.length := by
      rcases Nat.lt_or_ge j xs.length with h | h
      · exact h
      · rw [List.getElem?_eq_none h] at hu; cases hu
    have := ho.cellAt j (by omega)
    rw [Nat.zero_add, this, hu]

theorem Rd1.keep {w w' : World} {v : Value} {xs : List Value} (h : Rd1 w v xs) (hk : ∀ a, v.ownBlock = some a → w'.heap[a]? = w.heap[a]?) : Rd1 w' v xs := by
  rcases h with h | ⟨b, o, c, rfl, h1, h2, h3⟩
  · exact .inl h
  · exact .inr ⟨b, o, c, rfl, h1, h2, fun j u hu => (World.cell?_of_block (w := w) (hk b rfl)).trans (h3 j u hu)⟩

theorem Rd1.drewN {w : World} {v : Value} {xs : List Value} (h : Rd1 w v xs) (n : Nat) : Rd1 (w.drewN n) v xs := h

def markD : Nat → Nat → List UInt8 → List UInt8
  | 0, _, acc => acc
  | f + 1, k, acc => if k = 0 then acc else markD f (k / 10) ((48 + UInt8.ofNat (k % 10)) :: acc)
def markS (k : Nat) : List UInt8 := if k = 0 then [109, 48] else 109 :: markD 7 k []

theorem markD_zero (f : Nat) (acc : List UInt8) : markD f 0 acc = acc := by cases f <;> simp [markD]

def marks (k n : Nat) : List Value := (List.range n).map fun i => strV (markS (k + i))
theorem marks_length (k n : Nat) : (marks k n).length = n := by simp [marks]
theorem marks_get (k n i : Nat) (h : i < n) : (marks k n)[i]? = some (strV (markS (k + i))) := by simp [marks, h]
theorem marks_step (k n i : Nat) (xs : List Value) (hl : xs.length = n) (h : i < n) : ((marks k n).take i ++ xs.drop i).set i (strV (markS (k + i))) = (marks k n).take (i + 1) ++ xs.drop (i + 1) := by
  have hm := marks_length k n
  have hi : ((marks k n).take i).length = i := by rw [List.length_take]; omega
  rw [List.set_append_right _ _ (by omega), hi, Nat.sub_self, List.take_add_one, marks_get k n i h, List.append_assoc]
  rw [List.drop_eq_getElem_cons (by omega)]
  rfl

theorem rd_marks_at {w : World} {v : Value} {k n : Nat} (h : Rd1 w v (marks k n)) : (v = .slice none 0 0 ∧ n = 0) ∨ ∃ b o c, v = .slice (some ⟨b, o, none⟩) n c ∧ ∀ j, j < n → w.cell? ⟨b, o + j, none⟩ = some (strV (markS (k + j))) := by
  rcases h with ⟨rfl, hn⟩ | ⟨b, o, c, rfl, _, _, hc⟩
  · have := marks_length k n; rw [hn] at this; exact .inl ⟨rfl, this.symm⟩
  · exact .inr ⟨b, o, c, by rw [marks_length], fun j hj => hc j _ (marks_get k n j hj)⟩

end Go.Proofs.YtbhnjnoblkfckabGreatDoor

-- from XBln
/- What does not look at the world. -/
namespace Go.Proofs.YtbhnjnoblkfckabGreatDoor
open Go.RowKit

/-- What does not look at the world. -/
def Blind (R : Value → World → Prop) : Prop := ∀ v w w', R v w → R v w'
theorem blind_at {Rs : List (Value → World → Prop)} (h : ∀ R ∈ Rs, Blind R) {i : Nat} {v : Value} {w w' : World} (hR : RAt Rs i v w) : RAt Rs i v w' := by
  unfold RAt at *
  by_cases hi : i < Rs.length
  · rw [List.getD_eq_getElem?_getD, List.getElem?_eq_getElem hi] at hR ⊢
    exact h _ (List.getElem_mem hi) v w w' hR
  · rw [List.getD_eq_getElem?_getD, List.getElem?_eq_none (by omega)]; trivial
theorem blind_eq (x : Value) : Blind (REq x) := fun _ _ _ h => h

end Go.Proofs.YtbhnjnoblkfckabGreatDoor

-- from XHxA
/- The laws' own helpers over lists of fields: sized, copied, equal, marked, held. -/
namespace Go.Proofs.YtbhnjnoblkfckabGreatDoor
open Go.RowKit Go.Maps

/-- How much is left behind a field. -/
def szF (f : Fd) (left : Int) : Int := if left - (f.1.size : Int) < 0 then -1 else if left - (f.1.size : Int) - (f.2.size : Int) < 0 then -1 else left - (f.1.size : Int) - (f.2.size : Int)

set_option maxHeartbeats 400000 in
theorem sz_field (f : Fd) (left : Int) (w : World) (h0 : 0 ≤ left) (h1 : left ≤ 1000000000) (hf : f.1.size ≤ maxLen ∧ f.2.size ≤ maxLen) :
    Calls Tryz.prog 85 #[.agg #[.string f.1, .string f.2], .int .i64 left] w fun e w' => e = .returned (.int .i64 (szF f left)) ∧ Below w.heap.size w w' := by
  obtain ⟨a, b⟩ := f
  obtain ⟨ha, hb⟩ := hf
  unfold maxLen at ha hb
  simp only at ha hb
  by_cases c1 : left - (a.size : Int) < 0
  · go_enter Tryz.func85, Tryz.ntmps85
    go_wp2
    go_ret
    exact ⟨by unfold szF; rw [if_pos (by simp only; omega)]; rfl, (Below.refl _ _).alloc (Nat.le_refl _) _⟩
  · by_cases c2 : left - (a.size : Int) - (b.size : Int) < 0
    · go_enter Tryz.func85, Tryz.ntmps85
      go_wp2
      go_ret
      exact ⟨by unfold szF; rw [if_neg (by simp only; omega), if_pos (by simp only; omega)]; rfl, (Below.refl _ _).alloc (Nat.le_refl _) _⟩
    · go_enter Tryz.func85, Tryz.ntmps85
      go_wp2
      go_ret
      exact ⟨by unfold szF; rw [if_neg (by simp only; omega), if_neg (by simp only; omega)]; rfl, (Below.refl _ _).alloc (Nat.le_refl _) _⟩

theorem szF_cases (f : Fd) (left : Int) : (szF f left < 0 ∧ szF f left = -1) ∨ (0 ≤ szF f left ∧ szF f left ≤ left ∧ (f.1.size : Int) ≤ left ∧ (f.2.size : Int) ≤ left) := by
  unfold szF
  split
  · exact .inl ⟨by omega, rfl⟩
  · split
    · exact .inl ⟨by omega, rfl⟩
    · exact .inr ⟨by omega, by omega, by omega, by omega⟩

set_option maxHeartbeats 800000 in
theorem sz_fields (v : Value) (fs : List Fd) (L : Int) (hL0 : 0 ≤ L) (hL1 : L ≤ 1048576) (w : World) (hF : FRow w v fs) (hok : FOk fs maxLen) :
    Calls Tryz.prog 34 #[v, .int .i64 L] w fun e w' => (∃ r : Int, e = .returned (.int .i64 r) ∧ (r = -1 ∨ (0 ≤ r ∧ r ≤ L ∧ FOk fs 1048576 ∧ fs.length ≤ 1048576))) ∧ Below w.heap.size w w' := by
  obtain ⟨a, c, rfl, h1, h2, h3⟩ := hF
  unfold maxLen at h2
  have H3 := Lib.hid h3; have HOK := Lib.hid hok
  clear h3 hok
  by_cases hbig : L < fs.length
  · go_enter Tryz.func34, Tryz.ntmps34
    go_wp2
    go_ret
    exact ⟨⟨-1, rfl, .inl rfl⟩, Below.refl _ _⟩
  · go_enter Tryz.func34, Tryz.ntmps34
    go_wp2
    go_loopw [1, 5] (fun x i wr => ∃ (k : Nat) (r : Int), k ≤ fs.length ∧ i = .int .i64 k ∧ x = .int .i64 r ∧ 0 ≤ r ∧ r ≤ L ∧ Hid (∀ (j : Nat) (f : Fd), j < k → fs[j]? = some f → f.1.size ≤ 1048576 ∧ f.2.size ≤ 1048576) ∧ Below w.heap.size w wr) (fun _ i _ => fs.length - (intOf i).toNat)
    case atStart => exact ⟨0, _, Nat.zero_le _, rfl, rfl, by omega, by omega, Lib.hid (fun j f hj => by omega), Below.refl _ _⟩
    case round =>
      obtain ⟨k, r, hk, rfl, rfl, hr0, hr1, hall, hnx⟩ := hrel
      by_cases hlt : k < fs.length
      · obtain ⟨b1, o1, rfl, hb1, c1, c2⟩ := H3.out k fs[k] (List.getElem?_eq_getElem hlt)
        obtain ⟨f, hf⟩ : ∃ f, f = fs[k] := ⟨_, rfl⟩
        rw [← hf] at c1 c2
        have hfk : fs[k]? = some f := by rw [hf]; exact List.getElem?_eq_getElem hlt
        clear hf
        have hfo := HOK.out f (List.mem_of_getElem? hfk)
        have k1 := (hnx.cell (p := ⟨b1, o1 + k * 2, none⟩) hb1).trans c1
        have k2 := (hnx.cell (p := ⟨b1, o1 + k * 2 + 1, none⟩) hb1).trans c2
        have hc := sz_field f r
        have hz := szF_cases f r
        obtain ⟨nm, vl⟩ := f
        clear c1 c2
        have HK := Lib.hid hfk; clear hfk
        have HO := Lib.hid hfo; clear hfo
        generalize szF (nm, vl) r = q at hc hz
        simp only at hz
        have HC := Lib.hid hc; clear hc
        go_wp2_with fail
        refine (HC.out _ (by omega) (by omega) HO.out).mono ?_
        rintro e w1 ⟨rfl, hb1'⟩
        have hnx1 := hnx.trans (hb1'.mono hnx.size)
        rcases hz with ⟨hq, rfl⟩ | ⟨q1, q2, q3, q4⟩
        · go_wp2
          go_ret
          exact ⟨⟨-1, rfl, .inl rfl⟩, hnx1⟩
        · go_wp2
          go_roundw
          case rel =>
            refine ⟨k + 1, q, by omega, by go_num, rfl, q1, by omega, Lib.hid (fun j f hj hjf => ?_), hnx1⟩
            rcases Nat.lt_or_ge j k with h | h
            · exact hall.out j f h hjf
            · have : j = k := by omega
              subst this
              rw [HK.out] at hjf
              cases hjf
              simp only; omega
          case measure => simp [intOf]; omega
      · have hkn : k = fs.length := by omega
        subst hkn
        go_wp2
        go_ret
        refine ⟨⟨r, rfl, .inr ⟨hr0, hr1, fun f hf => ?_, by omega⟩⟩, hnx⟩
        obtain ⟨j, hj, hjf⟩ := List.getElem_of_mem hf
        exact hall.out j f hj (by rw [List.getElem?_eq_getElem hj, hjf])

def noFd : Fd := (⟨#[]⟩, ⟨#[]⟩)
/-- Block g holds n fields, the i-th one F i; none is frozen. -/
def FCells (w : World) (g n : Nat) (F : Nat → Fd) : Prop :=
  ∃ cur t, w.heap[g]? = some (.cells cur t (0, 0)) ∧ n * 2 ≤ cur.size ∧ ∀ i, i < n → cur[i * 2]? = some (.string (F i).1) ∧ cur[i * 2 + 1]? = some (.string (F i).2)

theorem FCells.lt {w : World} {g n : Nat} {F : Nat → Fd} (h : FCells w g n F) : g < w.heap.size := by
  obtain ⟨cur, t, hh, _⟩ := h
  exact (Array.getElem?_eq_some_iff.1 hh).1
theorem FCells.keep {w w' : World} {g n : Nat} {F : Nat → Fd} (h : FCells w g n F) (hk : w'.heap[g]? = w.heap[g]?) : FCells w' g n F := by
  obtain ⟨cur, t, hh, r⟩ := h
  exact ⟨cur, t, hk.trans hh, r⟩
theorem FCells.congr {w : World} {g n : Nat} {F F' : Nat → Fd} (h : FCells w g n F) (he : ∀ i, i < n → F i = F' i) : FCells w g n F' := by
  obtain ⟨cur, t, hh, hs, hc⟩ := h
  exact ⟨cur, t, hh, hs, fun i hi => by rw [← he i hi]; exact hc i hi⟩
theorem FCells.cell0 {w : World} {g n : Nat} {F : Nat → Fd} (h : FCells w g n F) {i : Nat} (hi : i < n) : w.cell? ⟨g, i * 2, none⟩ = some (.string (F i).1) := by
  obtain ⟨cur, t, hh, hs, hc⟩ := h
  simp [World.cell?, hh, (hc i hi).1]
theorem FCells.cell1 {w : World} {g n : Nat} {F : Nat → Fd} (h : FCells w g n F) {i : Nat} (hi : i < n) : w.cell? ⟨g, i * 2 + 1, none⟩ = some (.string (F i).2) := by
  obtain ⟨cur, t, hh, hs, hc⟩ := h
  simp [World.cell?, hh, (hc i hi).2]
theorem FCells.frozen {w : World} {g n : Nat} {F : Nat → Fd} (h : FCells w g n F) (j : Nat) : w.frozen? ⟨g, j, none⟩ = false := by
  obtain ⟨cur, t, hh, hs, hc⟩ := h
  simp [World.frozen?, hh]
def upd0 (F : Nat → Fd) (i : Nat) (s : ByteArray) : Nat → Fd := fun j => if j = i then (s, (F j).2) else F j
def upd1 (F : Nat → Fd) (i : Nat) (s : ByteArray) : Nat → Fd := fun j => if j = i then ((F j).1, s) else F j
theorem FCells.set0 {w : World} {g n : Nat} {F : Nat → Fd} (h : FCells w g n F) {i : Nat} (_hi : i < n) (s : ByteArray) : FCells (w.setCell ⟨g, i * 2, none⟩ (.string s)) g n (upd0 F i s) := by
  obtain ⟨cur, t, hh, hs, hc⟩ := h
  refine ⟨_, t, heap_setCell_same w g (i * 2) cur t _ hh, by simpa using hs, fun j hj => ?_⟩
  obtain ⟨h0, h1⟩ := hc j hj
  rw [Array.getElem?_setIfInBounds, Array.getElem?_setIfInBounds]
  unfold upd0
  by_cases e : j = i
  · subst e
    simp only [if_true, show ¬ (j * 2 = j * 2 + 1) from by omega, show j * 2 < cur.size from by omega, if_false]
    exact ⟨trivial, h1⟩
  · simp only [show ¬ (i * 2 = j * 2 + 1) from by omega, show ¬ (i * 2 = j * 2) from by omega, if_neg e, if_false]
    exact ⟨h0, h1⟩
theorem FCells.set1 {w : World} {g n : Nat} {F : Nat → Fd} (h : FCells w g n F) {i : Nat} (_hi : i < n) (s : ByteArray) : FCells (w.setCell ⟨g, i * 2 + 1, none⟩ (.string s)) g n (upd1 F i s) := by
  obtain ⟨cur, t, hh, hs, hc⟩ := h
  refine ⟨_, t, heap_setCell_same w g (i * 2 + 1) cur t _ hh, by simpa using hs, fun j hj => ?_⟩
  obtain ⟨h0, h1⟩ := hc j hj
  rw [Array.getElem?_setIfInBounds, Array.getElem?_setIfInBounds]
  unfold upd1
  by_cases e : j = i
  · subst e
    simp only [if_true, show ¬ (j * 2 + 1 = j * 2) from by omega, show j * 2 + 1 < cur.size from by omega, if_false]
    exact ⟨h0, trivial⟩
  · simp only [show ¬ (i * 2 + 1 = j * 2 + 1) from by omega, show ¬ (i * 2 + 1 = j * 2) from by omega, if_neg e, if_false]
    exact ⟨h0, h1⟩
def fget (fs : List Fd) (i : Nat) : Fd := (fs[i]?).getD noFd
theorem fget_at {fs : List Fd} {i : Nat} {f : Fd} (h : fs[i]? = some f) : fget fs i = f := by simp [fget, h]
theorem FCells.row {w : World} {g : Nat} {fs : List Fd} (h : FCells w g fs.length (fget fs)) (hn : fs.length ≤ maxLen) : FRow w (.slice (some ⟨g, 0, none⟩) fs.length fs.length) fs := by
  refine ⟨_, _, rfl, Nat.le_refl _, hn, fun j f hj => ⟨g, 0, rfl, h.lt, ?_, ?_⟩⟩
  · have := h.cell0 (i := j) (List.getElem?_eq_some_iff.1 hj).1
    rw [fget_at hj] at this
    rw [Nat.zero_add]; exact this
  · have := h.cell1 (i := j) (List.getElem?_eq_some_iff.1 hj).1
    rw [fget_at hj] at this
    rw [Nat.zero_add]; exact this

theorem made_fd (n : Nat) : (madeCells (Value.agg #[.string ⟨#[]⟩, .string ⟨#[]⟩]).cells (n * 2)).size = n * 2 ∧ ∀ i, i < n → (madeCells (Value.agg #[.string ⟨#[]⟩, .string ⟨#[]⟩]).cells (n * 2))[i * 2]? = some (.string noFd.1) ∧ (madeCells (Value.agg #[.string ⟨#[]⟩, .string ⟨#[]⟩]).cells (n * 2))[i * 2 + 1]? = some (.string noFd.2) := by
  refine ⟨size_madeCells _ _, fun i hi => ?_⟩
  have hc : (Value.agg #[.string ⟨#[]⟩, .string ⟨#[]⟩]).cells = #[.string ⟨#[]⟩, .string ⟨#[]⟩] := by rfl
  unfold madeCells
  rw [hc]
  constructor
  · rw [Array.getElem?_map, Array.getElem?_range, if_pos (by omega)]
    simp [noFd]
  · rw [Array.getElem?_map, Array.getElem?_range, if_pos (by omega)]
    have : (i * 2 + 1) % 2 = 1 := by omega
    simp [noFd, this]

set_option maxHeartbeats 400000 in
theorem to_field (f : Fd) (w : World) :
    Calls Tryz.prog 94 #[.agg #[.string f.1, .string f.2]] w fun e w' => e = .returned (.agg #[.string f.1, .string f.2]) ∧ Below w.heap.size w w' := by
  obtain ⟨a, b⟩ := f
  go_enter Tryz.func94, Tryz.ntmps94
  go_wp2
  exact bodyPost_ret (v := .agg #[.string a, .string b]) (by simp [results, Tryz.results94, go_sem]) rfl ⟨rfl, (((Below.refl _ _).alloc (Nat.le_refl _) _).alloc (by simp) _).alloc (by simp; omega) _⟩

def upto (fs : List Fd) (k : Nat) : Nat → Fd := fun i => if i < k then fget fs i else noFd
theorem upto_step {fs : List Fd} {k : Nat} {a b : ByteArray} (h : fs[k]? = some (a, b)) : upd1 (upd0 (upto fs k) k a) k b = upto fs (k + 1) := by
  funext i
  unfold upd1 upd0 upto
  by_cases e : i = k
  · subst e
    simp [fget_at h]
  · rw [if_neg e, if_neg e]
    by_cases hi : i < k
    · rw [if_pos hi, if_pos (by omega)]
    · rw [if_neg hi, if_neg (by omega)]

set_option maxHeartbeats 800000 in
theorem to_fields (v : Value) (fs : List Fd) (w : World) (hF : FRow w v fs) (hn : fs.length ≤ 1048576) :
    Calls Tryz.prog 39 #[v] w fun e w' => e = .returned (.slice (some ⟨w.heap.size, 0, none⟩) fs.length fs.length) ∧ FCells w' w.heap.size fs.length (fget fs) ∧ Below w.heap.size w w' := by
  obtain ⟨i0, hi, hz0, hz1, hz2⟩ := info_parts Tryz.infoFd
  obtain ⟨a, c, rfl, h1, h2, h3⟩ := hF
  unfold maxLen at h2
  have H3 := Lib.hid h3; clear h3
  have hmk := fun W => run_make (P := Tryz.prog) W 30 88 i0 _ Tryz.underlying30 hi hz0 .i64 .i64 (fs.length : Int) (fs.length : Int) (by omega) (by omega) (by rw [hz2]; omega) (by omega)
  rw [hz1, Int.toNat_natCast] at hmk
  obtain ⟨m1, m2⟩ := made_fd fs.length
  generalize madeCells (Value.agg #[.string ⟨#[]⟩, .string ⟨#[]⟩]).cells (fs.length * 2) = M at hmk m1 m2
  have HM1 := Lib.hid m1; have HM2 := Lib.hid m2; clear m1 m2
  go_enter Tryz.func39, Tryz.ntmps39
  go_wp2
  go_loopw [4] (fun i wr => ∃ k : Nat, k ≤ fs.length ∧ i = .int .i64 k ∧ FCells wr w.heap.size fs.length (upto fs k) ∧ Below w.heap.size w wr) (fun i _ => fs.length - (intOf i).toNat)
  case atStart => exact ⟨0, Nat.zero_le _, rfl, ⟨M, _, heap_alloc_new w _, Nat.le_of_eq HM1.out.symm, fun i hi => by simpa [upto] using HM2.out i hi⟩, (Below.refl _ _).alloc (Nat.le_refl _) _⟩
  case round =>
    obtain ⟨k, hk, rfl, hown, hnx⟩ := hrel
    by_cases hlt : k < fs.length
    · obtain ⟨b1, o1, rfl, hb1, c1, c2⟩ := H3.out k fs[k] (List.getElem?_eq_getElem hlt)
      obtain ⟨f, hf⟩ : ∃ f, f = fs[k] := ⟨_, rfl⟩
      rw [← hf] at c1 c2
      have hfk : fs[k]? = some f := by rw [hf]; exact List.getElem?_eq_getElem hlt
      clear hf
      have k1 := (hnx.cell (p := ⟨b1, o1 + k * 2, none⟩) hb1).trans c1
      have k2 := (hnx.cell (p := ⟨b1, o1 + k * 2 + 1, none⟩) hb1).trans c2
      have hc := to_field f
      obtain ⟨nm, vl⟩ := f
      have HK := Lib.hid hfk; have HC := Lib.hid hc
      clear c1 c2 hfk hc
      go_wp2_with fail
      refine (HC.out _).mono ?_
      rintro e w1 ⟨rfl, hb1'⟩
      have hnx1 := hnx.trans (hb1'.mono hnx.size)
      have hown1 := hown.keep (hb1'.block _ hown.lt)
      have q0 := hown1.cell0 hlt
      have q1 := hown1.cell1 hlt
      have f0 := hown1.frozen (k * 2)
      have f1 := hown1.frozen (k * 2 + 1)
      have hst := (hown1.set0 hlt nm).set1 hlt vl
      rw [upto_step HK.out] at hst
      have HS := Lib.hid hst; have HN := Lib.hid hnx1
      clear hown hown1 hst hnx hnx1 hb1'
      go_wp2
      go_roundw
      case rel => exact ⟨k + 1, by omega, by go_num, HS.out, below_set (below_set HN.out)⟩
      case measure => simp [intOf]; omega
    · have hkn : k = fs.length := by omega
      subst hkn
      go_wp2
      go_ret
      exact ⟨rfl, hown.congr (fun i hi => by simp [upto, hi]), hnx⟩

theorem str_refl (a : ByteArray) : (a.toList != a.toList) = false := by simp

set_option maxHeartbeats 400000 in
theorem eq_field (f : Fd) (w : World) :
    Calls Tryz.prog 98 #[.agg #[.string f.1, .string f.2], .agg #[.string f.1, .string f.2]] w fun e w' => e = .returned (.bool true) ∧ Below w.heap.size w w' := by
  obtain ⟨a, b⟩ := f
  go_enter Tryz.func98, Tryz.ntmps98
  go_wp2
  go_ret
  exact ⟨rfl, ((Below.refl _ _).alloc (Nat.le_refl _) _).alloc (by simp) _⟩

set_option maxHeartbeats 1600000 in
theorem eq_fields (v1 v2 : Value) (fs : List Fd) (w : World) (hF1 : FRow w v1 fs) (hF2 : FRow w v2 fs) (hn : fs.length ≤ 2000000) :
    Calls Tryz.prog 44 #[v1, v2] w fun e w' => e = .returned (.bool true) ∧ Below w.heap.size w w' := by
  obtain ⟨a1, c1, rfl, _, _, h1⟩ := hF1
  obtain ⟨a2, c2, rfl, _, _, h2⟩ := hF2
  have H1 := Lib.hid h1; have H2 := Lib.hid h2; clear h1 h2
  go_enter Tryz.func44, Tryz.ntmps44
  go_wp2
  go_loopw [5] (fun i wr => ∃ k : Nat, k ≤ fs.length ∧ i = .int .i64 k ∧ Below w.heap.size w wr) (fun i _ => fs.length - (intOf i).toNat)
  case atStart => exact ⟨0, Nat.zero_le _, rfl, Below.refl _ _⟩
  case round =>
    obtain ⟨k, hk, rfl, hnx⟩ := hrel
    by_cases hlt : k < fs.length
    · obtain ⟨b1, o1, rfl, hb1, c1, d1⟩ := H1.out k fs[k] (List.getElem?_eq_getElem hlt)
      obtain ⟨b2, o2, rfl, hb2, c2, d2⟩ := H2.out k fs[k] (List.getElem?_eq_getElem hlt)
      generalize fs[k] = f at *
      have hc := eq_field f
      have HC : ∀ W, Below w.heap.size w W → W.cell? ⟨b1, o1 + k * 2, none⟩ = some (.string f.1) ∧ W.cell? ⟨b1, o1 + k * 2 + 1, none⟩ = some (.string f.2) ∧ W.cell? ⟨b2, o2 + k * 2, none⟩ = some (.string f.1) ∧ W.cell? ⟨b2, o2 + k * 2 + 1, none⟩ = some (.string f.2) := fun W hW =>
        ⟨(hW.cell (p := ⟨b1, o1 + k * 2, none⟩) hb1).trans c1, (hW.cell (p := ⟨b1, o1 + k * 2 + 1, none⟩) hb1).trans d1, (hW.cell (p := ⟨b2, o2 + k * 2, none⟩) hb2).trans c2, (hW.cell (p := ⟨b2, o2 + k * 2 + 1, none⟩) hb2).trans d2⟩
      obtain ⟨k1, k2, k3, k4⟩ := HC wr hnx
      clear c1 c2 d1 d2 HC H1 H2
      obtain ⟨nm, vl⟩ := f
      simp only at k1 k2 k3 k4 hc
      have HE := Lib.hid hc; clear hc
      have i1 : (k : Int) < (fs.length : Int) := by omega
      have hs := hnx.size
      have HN := Lib.hid hnx; clear hnx
      go_wp2_with fail
      go_region_with (go_at_call 98; refine (HE.out _).mono ?_; rintro e w1 ⟨rfl, hbx⟩; have hbz := HN.out.trans (below_drew_left (hbx.mono hs)))
      all_goals go_wp2
      all_goals go_roundw
      all_goals first
        | (case rel => exact ⟨k + 1, by omega, by go_num, hbz⟩)
        | (simp [intOf]; omega)
    · have hkn : k = fs.length := by omega
      subst hkn
      go_wp2
      go_ret
      exact ⟨rfl, hnx⟩

/-- The marks of a field, and a list whose first j fields are marked. -/
def mkFd (k i : Nat) : Fd := (⟨(markS (k + 2 * i)).toArray⟩, ⟨(markS (k + 2 * i + 1)).toArray⟩)
def mkUp (k : Nat) (F : Nat → Fd) (j : Nat) : Nat → Fd := fun i => if i < j then mkFd k i else F i
theorem mkUp_step (k : Nat) (F : Nat → Fd) (j : Nat) : upd1 (upd0 (mkUp k F j) j ⟨(markS (k + 2 * j)).toArray⟩) j ⟨(markS (k + 2 * j + 1)).toArray⟩ = mkUp k F (j + 1) := by
  funext i
  unfold upd1 upd0 mkUp
  by_cases e : i = j
  · subst e; simp [mkFd]
  · rw [if_neg e, if_neg e]
    by_cases hi : i < j
    · rw [if_pos hi, if_pos (by omega)]
    · rw [if_neg hi, if_neg (by omega)]

end Go.Proofs.YtbhnjnoblkfckabGreatDoor

-- from XHedY
/- Walks: a request's first line, by the specification. -/
namespace Go.Proofs.YtbhnjnoblkfckabGreatDoor
open Go.RowKit

def firstV (o : Option (List UInt8 × List UInt8 × List UInt8)) (e : Ending) : Prop := ∃ a p n : ByteArray, e = .returned (.tuple #[.agg #[.string a, .string p, .string n, .slice none 0 0, .string ⟨#[]⟩], .bool o.isSome]) ∧ ∀ q, o = some q → a = ⟨q.1.toArray⟩ ∧ p = ⟨q.2.1.toArray⟩ ∧ n = ⟨q.2.2.toArray⟩

end Go.Proofs.YtbhnjnoblkfckabGreatDoor

-- from XHedN
/- Walks: a request's lines, by the specification. -/
namespace Go.Proofs.YtbhnjnoblkfckabGreatDoor
open Go.RowKit

theorem cut_whole10 {l : List UInt8} (h : (cutL l 10).2.2 = false) : (cutL l 10).1 = l := by
  induction l with
  | nil => rfl
  | cons b l ih =>
    by_cases hb : b = 10
    · subst hb; rw [cutL_hit] at h; cases h
    · rw [cutL_cons hb] at h ⊢
      simp only at h ⊢
      rw [ih h]
theorem lines_big (f : Nat) (r : List UInt8) (u : Nat) (h : 300 < u) : linesL f r u = ([], u, false) := by
  cases f with
  | zero => rfl
  | succ f =>
    show (if 300 < u then _ else _) = _
    rw [if_pos h]
theorem lines_no {f : Nat} {r : List UInt8} {u : Nat} (h : ¬ 300 < u) (hc : (cutL r 10).2.2 = false) : linesL (f + 1) r u = ([], u + r.length, false) := by
  show (if 300 < u then _ else _) = _
  rw [if_neg h, if_pos hc]
theorem lines_end {f : Nat} {r : List UInt8} {u : Nat} (h : ¬ 300 < u) (hc : (cutL r 10).2.2 = true) (he : (cutL r 10).1 = []) : linesL (f + 1) r u = ([], u + 1, true) := by
  show (if 300 < u then _ else _) = _
  rw [if_neg h, if_neg (by rw [hc]; decide), if_pos he]
theorem lines_on {f : Nat} {r : List UInt8} {u : Nat} (h : ¬ 300 < u) (hc : (cutL r 10).2.2 = true) (he : (cutL r 10).1 ≠ []) :
    linesL (f + 1) r u = ((cutL r 10).1 :: (linesL f (cutL r 10).2.1 (u + (cutL r 10).1.length + 1)).1, (linesL f (cutL r 10).2.1 (u + (cutL r 10).1.length + 1)).2) := by
  show (if 300 < u then _ else _) = _
  rw [if_neg h, if_neg (by rw [hc]; decide), if_neg he]

/-- What a loop over the lines carries. -/
def LinesRel (w : World) (s : ByteArray) (L : List (List UInt8) × Nat × Bool) (o r x : Value) (wr : World) : Prop :=
  ∃ (f u : Nat) (ls : List (List UInt8)) (rest : List UInt8), r = .string ⟨rest.toArray⟩ ∧ x = .int .i64 (u : Nat) ∧ rest.length ≤ s.size ∧ u ≤ 300 + s.size + 1 ∧ 302 ≤ f + u ∧ ls.length ≤ u ∧ (u ≤ 300 → 2 ≤ f) ∧
    L = (ls ++ (linesL f rest u).1, (linesL f rest u).2) ∧ wr.ownsRow w.heap.size 9 1 o ls.length (ls.map strV) ∧ Below w.heap.size w wr

end Go.Proofs.YtbhnjnoblkfckabGreatDoor

