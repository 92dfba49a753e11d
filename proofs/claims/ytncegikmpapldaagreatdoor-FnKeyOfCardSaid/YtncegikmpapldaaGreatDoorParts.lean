/- Walks: the parts of a text. -/
import Derived.Test.YtncegikmpapldaaGreatDoorCutB
import Derived.Test.YtncegikmpapldaaGreatDoorOwn
namespace Go.Proofs.YtncegikmpapldaaGreatDoor
open Go.RowKit

def partsL : List UInt8 → UInt8 → List (List UInt8)
  | [], _ => [[]]
  | b :: l, c => if b = c then [] :: partsL l c else match partsL l c with
    | [] => [[b]]
    | p :: ps => (b :: p) :: ps

theorem partsL_ne (l : List UInt8) (c : UInt8) : partsL l c ≠ [] := by
  cases l with
  | nil => simp [partsL]
  | cons b l =>
    unfold partsL
    split
    · simp
    · split <;> simp

theorem partsL_cut (l : List UInt8) (c : UInt8) : partsL l c = (cutL l c).1 :: (if (cutL l c).2.2 = true then partsL (cutL l c).2.1 c else []) := by
  induction l with
  | nil => simp [partsL, cutL]
  | cons b l ih =>
    have e1 : partsL (b :: l) c = if b = c then [] :: partsL l c else match partsL l c with
      | [] => [[b]]
      | p :: ps => (b :: p) :: ps := rfl
    have e2 : cutL (b :: l) c = if b = c then ([], l, true) else (b :: (cutL l c).1, (cutL l c).2.1, (cutL l c).2.2) := rfl
    rw [e1, e2]
    by_cases h : b = c
    · simp [h]
    · simp only [if_neg h]
      rw [ih]

theorem partsL_len (l : List UInt8) (c : UInt8) : (partsL l c).length ≤ l.length + 1 := by
  induction l with
  | nil => simp [partsL]
  | cons b l ih =>
    unfold partsL
    split
    · simp; omega
    · split
      · simp
      · rename_i h; rw [h] at ih; simpa using Nat.le_succ_of_le ih

theorem cutL_lt {l : List UInt8} {c : UInt8} (h : (cutL l c).2.2 = true) : (cutL l c).2.1.length < l.length := by
  induction l with
  | nil => simp [cutL] at h
  | cons b l ih =>
    unfold cutL at h ⊢
    by_cases hb : b = c
    · simp [hb]
    · simp only [if_neg hb] at h ⊢
      have := ih h
      simp only [List.length_cons]; omega

theorem Tryz.info9 : (Tryz.prog.info? 9).map (fun i => (i.zero, i.size, i.bytes)) = some (some (.string ⟨#[]⟩), 1, 16) := by kernel_rfl

/-- What a loop over the parts carries. -/
def PartsRel (B : Nat) (w : World) (s : List UInt8) (c : UInt8) (v r m : Value) (wr : World) : Prop :=
  ∃ (ps : List (List UInt8)) (rest : List UInt8) (more : Bool), r = .string ⟨rest.toArray⟩ ∧ m = .bool more ∧ rest.length ≤ s.length ∧ ps.length + (if more then rest.length + 1 else 0) ≤ s.length + 1 ∧
    partsL s c = ps ++ (if more then partsL rest c else []) ∧ wr.ownsRow B 9 1 v ps.length (ps.map strV) ∧ Below B w wr

theorem PartsRel.start {B : Nat} {w wr : World} {s : ByteArray} {c : UInt8} {v : Value} (hv : wr.ownsRow B 9 1 v 0 []) (hb : Below B w wr) : PartsRel B w s.data.toList c v (.string s) (.bool true) wr :=
  ⟨[], s.data.toList, true, by rw [mk_toList], rfl, Nat.le_refl _, by simp, by simp, hv, hb⟩

theorem PartsRel.step {B : Nat} {w w' : World} {s rest : List UInt8} {c : UInt8} {ps : List (List UInt8)} {v' : Value}
    (__h1 : rest.length ≤ s.length) (h2 : ps.length + (rest.length + 1) ≤ s.length + 1) (h3 : partsL s c = ps ++ partsL rest c)
    (ho : w'.ownsRow B 9 1 v' (ps.length + 1) (ps.map strV ++ [strV (cutL rest c).1])) (hb : Below B w w') :
    PartsRel B w s c v' (.string ⟨(cutL rest c).2.1.toArray⟩) (.bool (cutL rest c).2.2) w' := by
  refine ⟨ps ++ [(cutL rest c).1], (cutL rest c).2.1, (cutL rest c).2.2, rfl, rfl, ?_, ?_, ?_, ?_, hb⟩
  · have := (cutL_len rest c).2; omega
  · rw [List.length_append]
    split
    · rename_i h; have := cutL_lt h; simp; omega
    · simp; omega
  · rw [h3, partsL_cut rest c, List.append_assoc]; rfl
  · simpa using ho

def moreOf : Value → Bool | .bool b => b | _ => false
def lenOfV : Value → Nat | .string s => s.size | _ => 0

set_option maxHeartbeats 800000 in
theorem impl_parts (s : ByteArray) (c : UInt8) (w : World) (hs : s.size ≤ 1048576) :
    Calls Tryz.prog 104 #[.string s, .int .u8 c.toNat] w fun e w' => ∃ v, e = .returned v ∧
      w'.ownsRow w.heap.size 9 1 v (partsL s.data.toList c).length ((partsL s.data.toList c).map strV) ∧ Below w.heap.size w w' := by
  obtain ⟨i0, hi, hz0, hz1, hz2⟩ := info_parts Tryz.info9
  go_enter Tryz.func104, Tryz.ntmps104
  go_wp2_with fail
  go_loopw [5, 6, 7] (fun v r m wr => PartsRel w.heap.size w s.data.toList c v r m wr) (fun _ r m _ => if moreOf m then lenOfV r + 1 else 0)
  case atStart => exact PartsRel.start (World.ownsRow_nil _ _ _ _) (Below.refl _ _)
  case round =>
    obtain ⟨ps, rest, more, rfl, rfl, hle, hcount, hparts, hown, hbel⟩ := hrel
    cases more
    · go_wp2
      go_ret
      refine ⟨_, rfl, ?_, hbel⟩
      have e : partsL s.data.toList c = ps := by simpa using hparts
      rw [e]; exact hown
    · have hr : (ByteArray.mk rest.toArray).size ≤ 1048576 := by rw [size_len] at hs ⊢; simp only; omega
      have hcl := cutL_len rest c
      simp only [if_true] at hcount hparts
      have hstep := fun v' w' ho hb => PartsRel.step (B := w.heap.size) (w := w) (w' := w') (v' := v') hle hcount hparts ho hb
      have HP := Lib.hid hparts; clear hparts
      generalize hq : cutL rest c = q at *
      have HQ := Lib.hid hq; clear hq
      obtain ⟨q1, q2, q3⟩ := q
      simp only at hcl hstep
      go_wp2_with fail
      refine (textcut _ _ _ (by unfold maxLen; omega)).mono ?_
      rintro e w1 ⟨rfl, n1, rfl⟩
      simp only
      rw [HQ.out]
      go_wp2_with fail
      refine (fresh _ _ (by rw [size_len] at hr hs ⊢; simp only at hr ⊢; omega)).mono ?_
      rintro e w2 ⟨rfl, hb2⟩
      have hown2 := own_below (own_drewN hown n1) hb2
      have hbel2 : Below w.heap.size w w2 := hbel.trans (below_drewN_left (hb2.mono hbel.size))
      have hps : ps.length ≤ 1048577 := by rw [size_len] at hs; omega
      go_wp2_with (at_builtin; go_must (refine wpList_append1 w2 rfl _ _ 46 rfl w.heap.size 9 i0 _ 16 Tryz.underlying46 hi hz0 hz1 hz2 rfl _ _ _ (by rfl) hown2 _ rfl _ (by rfl) (by unfold maxLen; omega) (by omega) hbel2.size ?_); intro v' w3 ho3 hb3 hlt3)
      go_roundw
      case rel => exact hstep _ _ ho3 (hbel2.trans hb3)
      case measure =>
        have : q3 = true → q2.length < rest.length := fun h => by
          have e := HQ.out; subst h
          have := cutL_lt (l := rest) (c := c) (by rw [e]); rw [e] at this; exact this
        simp only [moreOf, lenOfV, size_len, if_true]
        cases q3
        · simp
        · have := this rfl; simp; omega
set_option maxHeartbeats 800000 in
theorem spec_parts (s : ByteArray) (c : UInt8) (w : World) (hs : s.size ≤ 1048576) :
    Calls Tryz.prog 38 #[.string s, .int .u8 c.toNat] w fun e w' => ∃ v, e = .returned v ∧
      w'.ownsRow w.heap.size 9 1 v (partsL s.data.toList c).length ((partsL s.data.toList c).map strV) ∧ Below w.heap.size w w' := by
  obtain ⟨i0, hi, hz0, hz1, hz2⟩ := info_parts Tryz.info9
  go_enter Tryz.func38, Tryz.ntmps38
  go_wp2_with fail
  go_loopw [5, 6, 7] (fun v r m wr => PartsRel w.heap.size w s.data.toList c v r m wr) (fun _ r m _ => if moreOf m then lenOfV r + 1 else 0)
  case atStart => exact PartsRel.start (World.ownsRow_made _ #[] 0 (Nat.le_refl _) (by decide) rfl) ((Below.refl _ _).alloc (Nat.le_refl _) _)
  case round =>
    obtain ⟨ps, rest, more, rfl, rfl, hle, hcount, hparts, hown, hbel⟩ := hrel
    cases more
    · go_wp2
      go_ret
      refine ⟨_, rfl, ?_, hbel⟩
      have e : partsL s.data.toList c = ps := by simpa using hparts
      rw [e]; exact hown
    · have hr : (ByteArray.mk rest.toArray).size ≤ 1048576 := by rw [size_len] at hs ⊢; simp only; omega
      have hcl := cutL_len rest c
      simp only [if_true] at hcount hparts
      have hstep := fun v' w' ho hb => PartsRel.step (B := w.heap.size) (w := w) (w' := w') (v' := v') hle hcount hparts ho hb
      have HP := Lib.hid hparts; clear hparts
      generalize hq : cutL rest c = q at *
      have HQ := Lib.hid hq; clear hq
      obtain ⟨q1, q2, q3⟩ := q
      simp only at hcl hstep
      go_wp2_with fail
      refine (spec_cut _ _ _ (by unfold maxLen; omega)).mono ?_
      rintro e w1 ⟨rfl, n1, rfl⟩
      simp only
      rw [HQ.out]
      have hown2 := own_drewN hown n1
      have hbel2 : Below w.heap.size w (wr.drewN n1) := below_drewN hbel
      have hps : ps.length ≤ 1048577 := by rw [size_len] at hs; omega
      go_wp2_with (at_builtin; go_must (refine wpList_append1 (wr.drewN n1) rfl _ _ 46 rfl w.heap.size 9 i0 _ 16 Tryz.underlying46 hi hz0 hz1 hz2 rfl _ _ _ (by rfl) hown2 _ rfl _ (by rfl) (by unfold maxLen; omega) (by omega) hbel2.size ?_); intro v' w3 ho3 hb3 hlt3)
      go_roundw
      case rel => exact hstep _ _ ho3 (hbel2.trans hb3)
      case measure =>
        have : q3 = true → q2.length < rest.length := fun h => by
          have e := HQ.out; subst h
          have := cutL_lt (l := rest) (c := c) (by rw [e]); rw [e] at this; exact this
        simp only [moreOf, lenOfV, size_len, if_true]
        cases q3
        · simp
        · have := this rfl; simp; omega
end Go.Proofs.YtncegikmpapldaaGreatDoor
