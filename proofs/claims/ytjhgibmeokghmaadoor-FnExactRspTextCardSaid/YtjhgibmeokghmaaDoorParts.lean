/- Walks: the parts of a text. -/
import Derived.Test.YtjhgibmeokghmaaDoorCutB
import Derived.Test.YtjhgibmeokghmaaDoorOwn
namespace Go.Proofs.YtjhgibmeokghmaaDoor
open Go.RowKit

def partsL : List UInt8 → UInt8 → List (List UInt8)
  | [], _ => [[]]
  | b :: l, c => if b = c then [] :: partsL l c else match partsL l c with
    | [] => [[b]]
    | p :: ps => (b :: p) :: ps

theorem partsL_ne (l : List UInt8) (c : UInt8) : partsL l c ≠ [] := by
  cases l with
  | nil => simp [partsL]
  | cons b l =>
    unfold partsL
    split
    · simp
    · split <;> simp

theorem partsL_cut (l : List UInt8) (c : UInt8) : partsL l c = (cutL l c).1 :: (if (cutL l c).2.2 = true then partsL (cutL l c).2.1 c else []) := by
  induction l with
  | nil => simp [partsL, cutL]
  | cons b l ih =>
    have e1 : partsL (b :: l) c = if b = c then [] :: partsL l c else match partsL l c with
      | [] => [[b]]
      | p :: ps => (b :: p) :: ps := rfl
    have e2 : cutL (b :: l) c = if b = c then ([], l, true) else (b :: (cutL l c).1, (cutL l c).2.1, (cutL l c).2.2) := rfl
    rw [e1, e2]
    by_cases h : b = c
    · simp [h]
    · simp only [if_neg h]
      rw [ih]

theorem partsL_len (l : List UInt8) (c : UInt8) : (partsL l c).length ≤ l.length + 1 := by
  induction l with
  | nil => simp [partsL]
  | cons b l ih =>
    unfold partsL
    split
    · simp; omega
    · split
      · simp
      · rename_i h; rw [h] at ih; simpa using Nat.le_succ_of_le ih

theorem cutL_lt {l : List UInt8} {c : UInt8} (h : (cutL l c).2.2 = true) : (cutL l c).2.1.length < l.length := by
  induction l with
  | nil => simp [cutL] at h
  | cons b l ih =>
    unfold cutL at h ⊢
    by_cases hb : b = c
    · simp [hb]
    · simp only [if_neg hb] at h ⊢
      have := ih h
      simp only [List.length_cons]; omega

theorem Tryd.info9 : (Tryd.prog.info? 9).map (fun i => (i.zero, i.size, i.bytes)) = some (some (.string ⟨#[]⟩), 1, 16) := by kernel_rfl

/-- What a loop over the parts carries. -/
def PartsRel (B : Nat) (w : World) (s : List UInt8) (c : UInt8) (v r m : Value) (wr : World) : Prop :=
  ∃ (ps : List (List UInt8)) (rest : List UInt8) (more : Bool), r = .string ⟨rest.toArray⟩ ∧ m = .bool more ∧ rest.length ≤ s.length ∧ ps.length + (if more then rest.length + 1 else 0) ≤ s.length + 1 ∧
    partsL s c = ps ++ (if more then partsL rest c else []) ∧ wr.ownsRow B 9 1 v ps.length (ps.map strV) ∧ Below B w wr

theorem PartsRel.start {B : Nat} {w wr : World} {s : ByteArray} {c : UInt8} {v : Value} (hv : wr.ownsRow B 9 1 v 0 []) (hb : Below B w wr) : PartsRel B w s.data.toList c v (.string s) (.bool true) wr :=
  ⟨[], s.data.toList, true, by rw [mk_toList], rfl, Nat.le_refl _, by simp, by simp, hv, hb⟩

theorem PartsRel.step {B : Nat} {w w' : World} {s rest : List UInt8} {c : UInt8} {ps : List (List UInt8)} {v' : Value}
    (__h1 : rest.length ≤ s.length) (h2 : ps.length + (rest.length + 1) ≤ s.length + 1) (h3 : partsL s c = ps ++ partsL rest c)
    (ho : w'.ownsRow B 9 1 v' (ps.length + 1) (ps.map strV ++ [strV (cutL rest c).1])) (hb : Below B w w') :
    PartsRel B w s c v' (.string ⟨(cutL rest c).2.1.toArray⟩) (.bool (cutL rest c).2.2) w' := by
  refine ⟨ps ++ [(cutL rest c).1], (cutL rest c).2.1, (cutL rest c).2.2, rfl, rfl, ?_, ?_, ?_, ?_, hb⟩
  · have := (cutL_len rest c).2; omega
  · rw [List.length_append]
    split
    · rename_i h; have := cutL_lt h; simp; omega
    · simp; omega
  · rw [h3, partsL_cut rest c, List.append_assoc]; rfl
  · simpa using ho

def moreOf : Value → Bool | .bool b => b | _ => false
def lenOfV : Value → Nat | .string s => s.size | _ => 0

end Go.Proofs.YtjhgibmeokghmaaDoor
