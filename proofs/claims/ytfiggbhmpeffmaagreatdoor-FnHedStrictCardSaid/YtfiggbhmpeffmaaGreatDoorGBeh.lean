import Derived.Test.YtfiggbhmpeffmaaGreatDoorGsc
import Derived.Test.YtfiggbhmpeffmaaGreatDoorGhed
-- from XBeh
/- A request's text with a line more behind its first one: the law's own helper, and what such texts are. -/
namespace Go.Proofs.YtfiggbhmpeffmaaGreatDoor
open Go.RowKit

set_option maxHeartbeats 800000 in
theorem gd_behind (s line : ByteArray) (a b : List UInt8) (w : World) (hs : s.data.toList = a ++ 10 :: b) (ha : (10 : UInt8) ∉ a) (h1 : s.size ≤ 2000) (h2 : line.size ≤ 2000) :
    Calls Tryz.prog 21 #[.string s, .string line] w fun e w' => e = .returned (.string ⟨(a ++ 10 :: (line.data.toList ++ 10 :: b)).toArray⟩) ∧ Below w.heap.size w w' := by
  have hC := spec_cut s 10 w (by unfold maxLen; omega)
  rw [hs, cutL_yes a b 10 ha] at hC
  dsimp only at hC
  have hz := size_len s
  rw [hs] at hz
  simp only [List.length_append, List.length_cons] at hz
  obtain ⟨A, hA⟩ : ∃ A : ByteArray, A = ⟨a.toArray⟩ := ⟨_, rfl⟩
  obtain ⟨B, hB⟩ : ∃ B : ByteArray, B = ⟨b.toArray⟩ := ⟨_, rfl⟩
  have zA : A.size ≤ 2000 := by rw [size_len, hA]; simp only; omega
  have zB : B.size ≤ 2000 := by rw [size_len, hB]; simp only; omega
  have hR : (⟨(a ++ 10 :: (line.data.toList ++ 10 :: b)).toArray⟩ : ByteArray) = A ++ ⟨#[10]⟩ ++ line ++ ⟨#[10]⟩ ++ B := str_inj2 (by rw [hA, hB]; simp)
  rw [hR]
  rw [← hA, ← hB] at hC
  clear hR hA hB hz hs ha
  go_enter Tryz.func21, Tryz.ntmps21
  go_wp2_with fail
  refine hC.mono ?_
  rintro e w1 ⟨rfl, n, rfl⟩
  clear hC
  go_wp2
  go_ret
  exact ⟨rfl, below_drewN (Below.refl _ _)⟩

theorem beh_text {h : Hd} (l : List UInt8) : topL h ++ 10 :: (l ++ 10 :: (joinL (tailLines h) ++ 10 :: h.body.data.toList)) = behL h [l] := by
  simp [behL, joinL, List.append_assoc]
theorem beh_text2 {h : Hd} (l m : List UInt8) : topL h ++ 10 :: (m ++ 10 :: (l ++ 10 :: (joinL (tailLines h) ++ 10 :: h.body.data.toList))) = behL h [m, l] := by
  simp [behL, joinL, List.append_assoc]
theorem named_text {h : Hd} (hk : HOk h) (x : List UInt8) : h.verb.data.toList ++ 32 :: (bHttp ++ (x ++ (hedT h).drop (h.verb.data.toList.length + 1))) = namedL h x := by
  have e := (hed_cut hk).1
  have e2 : hedT h = (h.verb.data.toList ++ [32]) ++ (h.target.data.toList ++ 10 :: (joinL (tailLines h) ++ 10 :: h.body.data.toList)) := by rw [e]; simp [topL]
  rw [e2, List.drop_left' (by simp)]
  simp [namedL, joinL, List.append_assoc]
end Go.Proofs.YtfiggbhmpeffmaaGreatDoor

