import Derived.Test.YtabidoopodbknaaGreatDoorGhed
import Derived.Test.YtabidoopodbknaaGreatDoorGsc
-- from XRdK
/- What was read of bytes is read of its own bytes: pure. -/
namespace Go.Proofs.YtabidoopodbknaaGreatDoor
open Go.RowKit

theorem cut10_join {l : List UInt8} : (cutL l 10).2.2 = true → l = (cutL l 10).1 ++ 10 :: (cutL l 10).2.1 ∧ (10 : UInt8) ∉ (cutL l 10).1 := by
  induction l with
  | nil => intro h; cases h
  | cons b l ih =>
    intro h
    by_cases e : b = 10
    · subst e; rw [cutL_hit]; simp
    · rw [cutL_cons e] at h ⊢
      obtain ⟨h1, h2⟩ := ih h
      refine ⟨by rw [List.cons_append, ← h1], fun hm => ?_⟩
      rcases List.mem_cons.1 hm with hm | hm
      · exact e hm.symm
      · exact h2 hm

theorem lines_inv : ∀ (f : Nat) (rest : List UInt8) (used : Nat), (linesL f rest used).2.2 = true →
    (∃ t, rest = joinL (linesL f rest used).1 ++ 10 :: t) ∧ (∀ l ∈ (linesL f rest used).1, l ≠ [] ∧ (10 : UInt8) ∉ l) ∧ (linesL f rest used).2.1 = used + (joinL (linesL f rest used).1).length + 1 ∧ (linesL f rest used).1.length < f := by
  intro f
  induction f with
  | zero => intro rest used h; cases h
  | succ f ih =>
    intro rest used h
    unfold linesL at h ⊢
    by_cases h1 : 300 < used
    · rw [if_pos h1] at h; cases h
    rw [if_neg h1] at h ⊢
    by_cases h2 : (cutL rest 10).2.2 = false
    · rw [if_pos h2] at h; cases h
    rw [if_neg h2] at h ⊢
    have hc : (cutL rest 10).2.2 = true := by simpa using h2
    obtain ⟨e1, e2⟩ := cut10_join hc
    by_cases h3 : (cutL rest 10).1 = []
    · rw [if_pos h3]
      rw [h3] at e1
      exact ⟨⟨_, by simpa [joinL] using e1⟩, by simp, by simp [joinL], by simp⟩
    · rw [if_neg h3] at h ⊢
      obtain ⟨⟨t, i1⟩, i2, i3, i4⟩ := ih (cutL rest 10).2.1 (used + (cutL rest 10).1.length + 1) h
      dsimp only at i1 i2 i3 i4 ⊢
      refine ⟨⟨t, ?_⟩, ?_, ?_, ?_⟩
      · rw [joinL_cons, List.append_assoc, List.cons_append, ← i1]; exact e1
      · intro l hl
        rcases List.mem_cons.1 hl with rfl | hl
        · exact ⟨h3, e2⟩
        · exact i2 l hl
      · rw [i3, joinL_len]; omega
      · simp; omega

theorem read_not {s : List UInt8} (h : (readL s).2.2 ≠ 1) : readL s = (noHd, 0, 2) ∨ readL s = (noHd, 0, 3) := by
  unfold readL at h ⊢
  split
  · exact .inr rfl
  · rename_i h1
    rw [if_neg h1] at h
    split
    · exact .inl rfl
    · rename_i h2
      rw [if_neg h2] at h
      split
      · exact .inr rfl
      · rename_i g n hw
        rw [hw] at h
        dsimp only at h
        split
        · exact .inl rfl
        · rename_i h3
          rw [if_neg h3] at h
          split
          · rename_i h4
            rw [if_pos h4] at h
            exact absurd rfl h
          · exact .inr rfl

theorem read_done {s : List UInt8} (h : (readL s).2.2 = 1) : hedB (readL s).1 = true ∧ (readL s).2.1 ≤ s.length ∧ readL (s.take (readL s).2.1) = readL s := by
  by_cases h1 : 300 < (linesL 302 s 0).2.1
  · unfold readL at h; rw [if_pos h1] at h; cases h
  by_cases h2 : (linesL 302 s 0).2.2 = false
  · unfold readL at h; rw [if_neg h1, if_pos h2] at h; cases h
  have h2' : (linesL 302 s 0).2.2 = true := by simpa using h2
  obtain ⟨⟨t, i1⟩, i2, i3, i4⟩ := lines_inv 302 s 0 h2'
  generalize hls : (linesL 302 s 0).1 = ls at *
  generalize hu : (linesL 302 s 0).2.1 = u at *
  cases hw : wholeL ls with
  | none => unfold readL at h; rw [hls, hu, if_neg h1, if_neg h2, hw] at h; cases h
  | some p =>
    obtain ⟨g, n⟩ := p
    by_cases h3 : s.length < u + n
    · unfold readL at h; rw [hls, hu, if_neg h1, if_neg h2, hw] at h; dsimp only at h; rw [if_pos h3] at h; cases h
    by_cases h4 : hedB { g with body := ⟨((s.drop u).take n).toArray⟩ } = true
    · have hR : readL s = ({ g with body := ⟨((s.drop u).take n).toArray⟩ }, u + n, 1) := by
        unfold readL; rw [hls, hu, if_neg h1, if_neg h2, hw]; dsimp only; rw [if_neg h3, if_pos h4]
      rw [hR]
      refine ⟨h4, by dsimp only; omega, ?_⟩
      dsimp only
      have hsl : s.length = (joinL ls).length + 1 + t.length := by rw [i1]; simp; omega
      have hdt : s.drop u = t := by
        rw [i1, show u = (joinL ls ++ [10]).length from by simp; omega, show joinL ls ++ 10 :: t = (joinL ls ++ [10]) ++ t from by simp, List.drop_left]
      have hst : s.take (u + n) = joinL ls ++ 10 :: t.take n := by
        rw [List.take_add, hdt]
        rw [i1, show u = (joinL ls ++ [10]).length from by simp; omega, show joinL ls ++ 10 :: t = (joinL ls ++ [10]) ++ t from by simp, List.take_left]
        simp
      have hl := lines_mk ls 302 (t.take n) 0 (by omega) (by omega) i2
      rw [← hst] at hl
      have hu2 : 0 + (joinL ls).length + 1 = u := i3.symm
      rw [hu2] at hl
      have hlen : (s.take (u + n)).length = u + n := by rw [List.length_take]; omega
      have hdd : ((s.take (u + n)).drop u).take n = (s.drop u).take n := by
        rw [hst, hdt, show u = (joinL ls ++ [10]).length from by simp; omega, show joinL ls ++ 10 :: t.take n = (joinL ls ++ [10]) ++ t.take n from by simp, List.drop_left, List.take_take]
        simp
      unfold readL
      rw [hl]
      dsimp only
      rw [if_neg h1, if_neg (by decide), hw]
      dsimp only
      rw [hlen, if_neg (by omega), hdd, if_pos h4]
    · unfold readL at h; rw [hls, hu, if_neg h1, if_neg h2, hw] at h; dsimp only at h; rw [if_neg h3, if_neg h4] at h; cases h

/-- The sizes of a request that may be written. -/
theorem hed_sizes {h : Hd} (hb : hedB h = true) : h.verb.size ≤ 300 ∧ h.target.size ≤ 300 ∧ h.host.size ≤ 300 ∧ h.body.size ≤ 20 ∧ h.fs.length ≤ 6 ∧ FOk h.fs 300 := by
  have hk := hedB_iff.1 hb
  have hlen := hk.len
  have hj : (joinL (hedLines h)).length ≤ 300 := by unfold headT at hlen; simp at hlen; omega
  unfold hedLines at hj
  rw [joinL_len, joinL_len, joinL_app] at hj
  have hm : ∀ f ∈ h.fs, (fdT f).data.toList.length ≤ (joinL (h.fs.map fun f => (fdT f).data.toList)).length := by
    intro f hf
    obtain ⟨a, b, e⟩ := List.append_of_mem hf
    rw [e, List.map_append, joinL_app, List.map_cons, joinL_cons]
    simp; omega
  simp only [List.length_append, List.length_cons] at hj
  rw [size_len h.verb, size_len h.target, size_len h.host]
  refine ⟨by omega, by omega, by omega, by rw [size_len]; exact (body_len hk).1, hk.many, fun f hf => ?_⟩
  obtain ⟨l1, l2⟩ := fdB_len (hk.fs f hf).1
  exact ⟨by omega, by omega⟩
end Go.Proofs.YtabidoopodbknaaGreatDoor

