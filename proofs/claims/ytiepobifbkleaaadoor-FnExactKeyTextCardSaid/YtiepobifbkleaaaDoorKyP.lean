/- Keys of what is asked: what is said of them; no function of the program. -/
import Derived.Test.YtiepobifbkleaaaDoorCfgP
import Derived.Test.YtiepobifbkleaaaDoorGCa
import Derived.Test.YtiepobifbkleaaaDoorGhed
namespace Go.Proofs.YtiepobifbkleaaaDoor
open Go.RowKit

/-- A key: the house, the place, the codings. -/
structure Ky where
  house : Int
  place : ByteArray
  mask : Int
def noKy : Ky := ⟨0, ⟨#[]⟩, 0⟩
def placeB (l : List UInt8) : Bool := decide (canonL l = some l)
def keyB (hs : List Hs) (k : Ky) : Bool := cfgB hs && (decide (0 ≤ k.house ∧ k.house < hs.length) && (placeB k.place.data.toList && decide (0 ≤ k.mask ∧ k.mask < 8)))
def keyT (k : Ky) : List UInt8 := numT k.house ++ 32 :: (numT k.mask ++ 32 :: k.place.data.toList)
/-- Whether a request of a verb is for a house. -/
def askB (hs : List Hs) (h : Hd) (verb : List UInt8) : Bool := decide (0 ≤ routeI hs h.host) && (decide (h.verb.data.toList = verb) && hedB h)
/-- A key of its text, cut twice. -/
def keyR (hs : List Hs) (l : List UInt8) : Ky × Bool :=
  if (numR (cutL l 32).1).2 = true ∧ (numR (cutL (cutL l 32).2.1 32).1).2 = true ∧ keyB hs ⟨(numR (cutL l 32).1).1, ⟨(cutL (cutL l 32).2.1 32).2.1.toArray⟩, (numR (cutL (cutL l 32).2.1 32).1).1⟩ = true
  then (⟨(numR (cutL l 32).1).1, ⟨(cutL (cutL l 32).2.1 32).2.1.toArray⟩, (numR (cutL (cutL l 32).2.1 32).1).1⟩, true) else (noKy, false)
/-- .. in parts. -/
def keyS (hs : List Hs) (l : List UInt8) : Ky × Bool :=
  match partsL l 32 with
  | [a, b, c] => if (numR a).2 = true ∧ (numR b).2 = true ∧ keyB hs ⟨(numR a).1, ⟨c.toArray⟩, (numR b).1⟩ = true then (⟨(numR a).1, ⟨c.toArray⟩, (numR b).1⟩, true) else (noKy, false)
  | _ => (noKy, false)
def bAcc : ByteArray := ⟨#[97, 99, 99, 101, 112, 116]⟩
def bIfNone : ByteArray := ⟨#[105, 102, 45, 110, 111, 110, 101]⟩
def sGet : ByteArray := ⟨#[103, 101, 116]⟩
def sPut : ByteArray := ⟨#[112, 117, 116]⟩
def tagB (tag : List UInt8) : Bool := decide (tag = []) || tokB tag
/-- The first name of a house. -/
def name0 (hs : List Hs) (i : Int) : ByteArray := match hs[i.toNat]? with
  | some h => (h.names[0]?).getD ⟨#[]⟩
  | none => ⟨#[]⟩
def askFs (k : Ky) (tag : ByteArray) : List (ByteArray × ByteArray) := (bAcc, ⟨(codT k.mask).toArray⟩) :: (if tag.data.toList = [] then [] else [(bIfNone, tag)])
def keyAsk (hs : List Hs) (k : Ky) (tag : ByteArray) : Hd :=
  if keyB hs k = true ∧ tagB tag.data.toList = true then ⟨sGet, k.place, name0 hs k.house, askFs k tag, ⟨#[]⟩⟩ else noHd
def putAsk (hs : List Hs) (h : Hd) : Hd × Bool := if askB hs h bPut = true then (⟨sPut, h.target, name0 hs (routeI hs h.host), [], h.body⟩, true) else (noHd, false)

theorem keyB_iff {hs : List Hs} {k : Ky} : keyB hs k = true ↔ cfgB hs = true ∧ (0 ≤ k.house ∧ k.house < hs.length) ∧ canonL k.place.data.toList = some k.place.data.toList ∧ (0 ≤ k.mask ∧ k.mask < 8) := by
  simp only [keyB, placeB, Bool.and_eq_true, decide_eq_true_eq]
theorem numR_nil : (numR []).2 = false := rfl
theorem cut_false {l : List UInt8} {c : UInt8} (h : (cutL l c).2.2 = false) : (cutL l c).1 = l ∧ (cutL l c).2.1 = [] := by
  induction l with
  | nil => exact ⟨rfl, rfl⟩
  | cons b l ih =>
    rw [cutL] at h ⊢
    split at h
    · cases h
    · rename_i hb
      rw [if_neg hb]
      exact ⟨by rw [(ih h).1], (ih h).2⟩
theorem cut_notin (l : List UInt8) (c : UInt8) : c ∉ (cutL l c).1 := by
  induction l with
  | nil => simp [cutL]
  | cons b l ih =>
    rw [cutL]
    split
    · simp
    · rename_i hb
      intro h
      rcases List.mem_cons.1 h with h | h
      · exact hb h.symm
      · exact ih h
theorem cut_join {l : List UInt8} {c : UInt8} (h : (cutL l c).2.2 = true) : l = (cutL l c).1 ++ c :: (cutL l c).2.1 := by
  induction l with
  | nil => cases h
  | cons b l ih =>
    rw [cutL] at h ⊢
    split at h
    · rename_i hb
      rw [if_pos hb, hb]; rfl
    · rename_i hb
      rw [if_neg hb]
      exact congrArg (b :: ·) (ih h)
theorem canon_nil : canonL [] ≠ some [] := fun e => by
  obtain ⟨⟨r, hr⟩, _⟩ := canon_bytes e
  cases hr
theorem parts_one {l : List UInt8} {c : UInt8} (h : c ∉ l) : partsL l c = [l] := by
  rw [partsL_cut, cutL_no l c h]; simp
theorem keyS_eq (hs : List Hs) (l : List UInt8) : keyS hs l = keyR hs l := by
  unfold keyS keyR
  rw [partsL_cut l 32]
  rcases h1 : cutL l 32 with ⟨a, r, f1⟩
  dsimp only
  cases f1 with
  | false =>
    have e := (cut_false (l := l) (c := 32) (by rw [h1])).2
    rw [h1] at e
    dsimp only at e
    subst e
    rw [if_neg (by decide)]
    dsimp only
    rw [if_neg]
    rintro ⟨_, h, _⟩
    exact absurd h (by decide)
  | true =>
    rw [if_pos rfl, partsL_cut r 32]
    rcases h2 : cutL r 32 with ⟨b, c, f2⟩
    dsimp only
    cases f2 with
    | false =>
      have e := (cut_false (l := r) (c := 32) (by rw [h2])).2
      rw [h2] at e
      dsimp only at e
      subst e
      rw [if_neg (by decide)]
      dsimp only
      rw [if_neg]
      rintro ⟨_, _, h⟩
      exact canon_nil (keyB_iff.1 h).2.2.1
    | true =>
      rw [if_pos rfl]
      by_cases hc : (32 : UInt8) ∈ c
      · rw [if_neg (fun h => (canon_bytes (keyB_iff.1 h.2.2).2.2.1).2 32 hc |>.2 rfl)]
        split
        · rename_i a' b' c' he
          injection he with _ he
          injection he with _ he
          have : (partsL c 32).length = 1 := by rw [he]; rfl
          rw [partsL_cut] at this
          have hf : (cutL c 32).2.2 = true := by
            rcases h3 : (cutL c 32).2.2 with _ | _
            · exact absurd hc (by rw [← (cut_false h3).1]; exact cut_notin c 32)
            · rfl
          rw [if_pos hf, List.length_cons] at this
          exact absurd (List.eq_nil_of_length_eq_zero (by omega : (partsL (cutL c 32).2.1 32).length = 0)) (partsL_ne _ _)
        · rfl
      · rw [parts_one hc]
end Go.Proofs.YtiepobifbkleaaaDoor
