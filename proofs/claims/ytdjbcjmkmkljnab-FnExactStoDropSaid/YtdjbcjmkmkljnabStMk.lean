/- The laws' own helpers over storage: stores sized, copied, equal; marked, and held. -/
import Derived.Test.YtdjbcjmkmkljnabStZ
import Derived.Test.YtdjbcjmkmkljnabEq
namespace Go.Proofs.Ytdjbcjmkmkljnab
open Go.RowKit Go.Maps

theorem mark_natE (k : Nat) (x : Int) (hx : x = (k : Int)) (w : World) (hk : k < 10000000) :
    Calls Try.prog 43 #[.int .i64 x] w fun e w' => e = .returned (.string ⟨(markS k).toArray⟩) ∧ Below w.heap.size w w' := by
  subst hx; exact mark_text k w hk
/-- The nine marks from k on. -/
def mkE (k : Nat) : En := ⟨⟨(markS k).toArray⟩, ((k + 1 : Nat) : Int), ⟨((k + 2 : Nat) : Int), ((k + 3 : Nat) : Int), decide (((k + 4 : Nat) : Int).tmod 3 = 0), ⟨(markS (k + 5)).toArray⟩, ((k + 6 : Nat) : Int), ⟨(markS (k + 7)).toArray⟩⟩, ((k + 8 : Nat) : Int)⟩
def mkC (k : Nat) (C : Nat → Nat → Value) (j : Nat) : Nat → Nat → Value := fun i q => if i < j then cE (mkE (k + 9 * i)) q else C i q
theorem mkC_step (k : Nat) (C : Nat → Nat → Value) (j i q : Nat) : (if i = j then cE (mkE (k + 9 * j)) q else mkC k C j i q) = mkC k C (j + 1) i q := by
  unfold mkC
  by_cases e : i = j
  · subst e; simp
  · rw [if_neg e]
    by_cases hl : i < j
    · rw [if_pos hl, if_pos (by omega)]
    · rw [if_neg hl, if_neg (by omega)]

set_option maxRecDepth 100000 in
set_option maxHeartbeats 3200000 in
theorem mark_entries (g c n k : Nat) (C : Nat → Nat → Value) (w : World) (h : CC w g n C) (hk : k + 9 * n < 10000000) :
    Calls Try.prog 26 #[.slice (some ⟨g, 0, none⟩) n c, .int .i64 k] w fun e w' => e = .returned (.int .i64 ((k : Int) + 9 * (n : Int))) ∧ CC w' g n (mkC k C n) ∧ w.grownBy w' (some g) := by
  go_enter Try.func26, Try.ntmps26
  go_wp2
  go_loopw [1, 5] (fun q i wr => ∃ j : Nat, j ≤ n ∧ i = .int .i64 j ∧ q = .int .i64 ((k : Int) + 9 * (j : Int)) ∧ CC wr g n (mkC k C j) ∧ w.grownBy wr (some g)) (fun _ i _ => n - (intOf i).toNat)
  case atStart => exact ⟨0, Nat.zero_le _, rfl, by simp, h.congr fun i q _ _ => by simp [mkC], World.grownBy.refl _ _⟩
  case round =>
    obtain ⟨j, hj, rfl, rfl, hown, hg⟩ := hrel
    by_cases hlt : j < n
    · have j1 : (j : Int) < (n : Int) := by omega
      have hl := hown.lt
      go_wp2_with fail
      refine (mark_natE (k + 9 * j) _ (by omega) _ (by omega)).mono ?_
      rintro e w1 ⟨rfl, hb1⟩
      have ho := hown.keep (hb1.block _ hl)
      have hg1 := grown_trans hg (grown_of_below hb1 (some g))
      have q0 := ho.cell0 hlt
      have f0 := ho.frozen (j * 9)
      have q1 := ho.cell (j := 1) hlt (by decide)
      have f1 := ho.frozen (j * 9 + 1)
      have q2 := ho.cell (j := 2) hlt (by decide)
      have f2 := ho.frozen (j * 9 + 2)
      have q3 := ho.cell (j := 3) hlt (by decide)
      have f3 := ho.frozen (j * 9 + 3)
      have q4 := ho.cell (j := 4) hlt (by decide)
      have f4 := ho.frozen (j * 9 + 4)
      have hst := (((((ho.set0 hlt (.string ⟨(markS (k + 9 * j)).toArray⟩)).set (j := 1) hlt (by decide) (.int .i64 ((k + 9 * j + 1 : Nat) : Int))).set (j := 2) hlt (by decide) (.int .i64 ((k + 9 * j + 2 : Nat) : Int))).set (j := 3) hlt (by decide) (.int .i64 ((k + 9 * j + 3 : Nat) : Int))).set (j := 4) hlt (by decide) (.bool (decide (((k + 9 * j + 4 : Nat) : Int).tmod 3 = 0))))
      have hgn := (grown_setr (k := j * 9 + 4) (x := .bool (decide (((k + 9 * j + 4 : Nat) : Int).tmod 3 = 0))) (grown_setr (k := j * 9 + 3) (x := .int .i64 ((k + 9 * j + 3 : Nat) : Int)) (grown_setr (k := j * 9 + 2) (x := .int .i64 ((k + 9 * j + 2 : Nat) : Int)) (grown_setr (k := j * 9 + 1) (x := .int .i64 ((k + 9 * j + 1 : Nat) : Int)) (grown_setr (k := j * 9) (x := .string ⟨(markS (k + 9 * j)).toArray⟩) hg1)))))
      have HS := Lib.hid hst; have HG := Lib.hid hgn
      clear hst hgn
      clear hown ho hg hg1 hb1 h
      go_wp2_with fail
      refine (mark_natE (k + 9 * j + 5) _ (by omega) _ (by omega)).mono ?_
      rintro e w2 ⟨rfl, hb2⟩
      have ho := HS.out.keep (hb2.block _ HS.out.lt)
      have hg1 := grown_trans HG.out (grown_of_below hb2 (some g))
      clear q0 q1 q2 q3 q4 f0 f1 f2 f3 f4
      have q5 := ho.cell (j := 5) hlt (by decide)
      have f5 := ho.frozen (j * 9 + 5)
      have q6 := ho.cell (j := 6) hlt (by decide)
      have f6 := ho.frozen (j * 9 + 6)
      have hst := ((ho.set (j := 5) hlt (by decide) (.string ⟨(markS (k + 9 * j + 5)).toArray⟩)).set (j := 6) hlt (by decide) (.int .i64 ((k + 9 * j + 6 : Nat) : Int)))
      have hgn := (grown_setr (k := j * 9 + 6) (x := .int .i64 ((k + 9 * j + 6 : Nat) : Int)) (grown_setr (k := j * 9 + 5) (x := .string ⟨(markS (k + 9 * j + 5)).toArray⟩) hg1))
      have HS2 := Lib.hid hst; have HG2 := Lib.hid hgn
      clear hst hgn
      clear ho hg1 hb2 HS HG
      go_wp2_with fail
      refine (mark_natE (k + 9 * j + 7) _ (by omega) _ (by omega)).mono ?_
      rintro e w3 ⟨rfl, hb3⟩
      have ho := HS2.out.keep (hb3.block _ HS2.out.lt)
      have hg1 := grown_trans HG2.out (grown_of_below hb3 (some g))
      clear q5 q6 f5 f6
      have q7 := ho.cell (j := 7) hlt (by decide)
      have f7 := ho.frozen (j * 9 + 7)
      have q8 := ho.cell (j := 8) hlt (by decide)
      have f8 := ho.frozen (j * 9 + 8)
      have hst := ((ho.set (j := 7) hlt (by decide) (.string ⟨(markS (k + 9 * j + 7)).toArray⟩)).set (j := 8) hlt (by decide) (.int .i64 ((k + 9 * j + 8 : Nat) : Int)))
      have hgn := (grown_setr (k := j * 9 + 8) (x := .int .i64 ((k + 9 * j + 8 : Nat) : Int)) (grown_setr (k := j * 9 + 7) (x := .string ⟨(markS (k + 9 * j + 7)).toArray⟩) hg1))
      have HS3 := Lib.hid hst; have HG3 := Lib.hid hgn
      clear hst hgn
      clear ho hg1 hb3 HS2 HG2
      go_wp2
      go_roundw
      case rel => exact ⟨j + 1, by omega, by go_num, by go_num, HS3.out.congr fun i q _ hq => (updC9 _ j (mkE (k + 9 * j)) i q hq).trans (mkC_step k C j i q), HG3.out⟩
      case measure => simp [intOf]; omega
    · have hjn : j = n := by omega
      subst hjn
      go_wp2
      go_ret
      exact ⟨rfl, hown, hg⟩
end Go.Proofs.Ytdjbcjmkmkljnab
