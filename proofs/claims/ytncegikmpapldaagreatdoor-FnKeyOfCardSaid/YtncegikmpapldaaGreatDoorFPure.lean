/- Pure laws on fields: their texts are read as them, whatever the letters of the name and the spaces around the value. -/
import Derived.Test.YtncegikmpapldaaGreatDoorFrd
namespace Go.Proofs.YtncegikmpapldaaGreatDoor

theorem small_lt (c : UInt8) (h : isSmall c = true) : c ≠ 58 ∧ c ≠ 32 ∧ isGreat c = false := by
  have hh : ∀ n : Fin 256, isSmall (UInt8.ofNat n.val) = true → UInt8.ofNat n.val ≠ 58 ∧ UInt8.ofNat n.val ≠ 32 ∧ isGreat (UInt8.ofNat n.val) = false := by decide +kernel
  have e : UInt8.ofNat c.toNat = c := by simp
  have := hh ⟨c.toNat, c.toNat_lt⟩
  simp only [e] at this
  exact this h

theorem tok_smalls {l : List UInt8} (h : tokB l = true) : smalls l = true := by
  simp only [tokB, Bool.and_eq_true] at h
  exact h.2
theorem smalls_mem {l : List UInt8} (h : smalls l = true) {c : UInt8} (hc : c ∈ l) : isSmall c = true := by
  unfold smalls at h
  rw [List.all_eq_true] at h
  exact h c hc
theorem low_small {l : List UInt8} (h : smalls l = true) : lowL l = l := by
  unfold lowL
  conv => rhs; rw [← List.map_id l]
  refine List.map_congr_left fun c hc => ?_
  unfold lowB
  rw [if_neg (by rw [(small_lt c (smalls_mem h hc)).2.2]; decide)]; rfl
theorem colon_small {l : List UInt8} (h : smalls l = true) : (58 : UInt8) ∉ l := fun hc => (small_lt 58 (smalls_mem h hc)).1 rfl

/-- A name's letters, great. -/
def upB (c : UInt8) : UInt8 := if 97 ≤ c.toNat ∧ c.toNat ≤ 122 then c - 32 else c
def upL (l : List UInt8) : List UInt8 := l.map upB
theorem up_small (c : UInt8) (h : isSmall c = true) : lowB (upB c) = c ∧ upB c ≠ 58 := by
  have hh : ∀ n : Fin 256, isSmall (UInt8.ofNat n.val) = true → lowB (upB (UInt8.ofNat n.val)) = UInt8.ofNat n.val ∧ upB (UInt8.ofNat n.val) ≠ 58 := by decide +kernel
  have e : UInt8.ofNat c.toNat = c := by simp
  have := hh ⟨c.toNat, c.toNat_lt⟩
  simp only [e] at this
  exact this h
theorem low_up {l : List UInt8} (h : smalls l = true) : lowL (upL l) = l := by
  unfold lowL upL
  rw [List.map_map]
  conv => rhs; rw [← List.map_id l]
  exact List.map_congr_left fun c hc => (up_small c (smalls_mem h hc)).1
theorem colon_up {l : List UInt8} (h : smalls l = true) : (58 : UInt8) ∉ upL l := fun hc => by
  obtain ⟨c, hc1, hc2⟩ := List.mem_map.1 hc
  exact (up_small c (smalls_mem h hc1)).2 hc2

theorem trim_left (l : List UInt8) : Lib.trimB (32 :: l) 32 = Lib.trimB l 32 := by
  unfold Lib.trimB Lib.trimLeftB Lib.trimRightB
  rw [List.reverse_cons, List.dropWhile_append]
  split
  · rename_i h
    have : l.reverse.dropWhile (· == 32) = [] := by simpa using h
    rw [this]; rfl
  · rw [List.reverse_append]; rfl
theorem trim_right (l : List UInt8) : Lib.trimB (l ++ [32]) 32 = Lib.trimB l 32 := by
  unfold Lib.trimB Lib.trimLeftB Lib.trimRightB
  rw [List.reverse_append]; rfl

theorem fd_parts {n v : ByteArray} (h : fdB (n, v) = true) : tokB n.data.toList = true ∧ Lib.trimB v.data.toList 32 = v.data.toList := by
  simp only [fdB, valB, Bool.and_eq_true, decide_eq_true_eq] at h
  exact ⟨h.1, h.2.2⟩
theorem ba_mk (s : ByteArray) : (⟨s.data.toList.toArray⟩ : ByteArray) = s := by simp

/-- Whatever stands as the name's letters, and around the value. -/
theorem read_of {n v : ByteArray} (h : fdB (n, v) = true) {l x : List UInt8} (hl : lowL l = n.data.toList) (hc : (58 : UInt8) ∉ l) (hx : Lib.trimB x 32 = v.data.toList) : rdR (l ++ 58 :: x) = ((n, v), true) := by
  have hcut := cutL_yes l x 58 hc
  have hF : rdF (l ++ 58 :: x) = (n, v) := by
    unfold rdF
    rw [hcut]
    simp only
    rw [hl, hx, ba_mk, ba_mk]
  refine (rd_yes (by rw [hcut]) (by rw [hF]; exact h)).trans ?_
  rw [hF]

theorem fdT_list {n v : ByteArray} (h : fdB (n, v) = true) : (fdT (n, v)).data.toList = n.data.toList ++ 58 :: (32 :: v.data.toList) := by
  unfold fdT
  rw [if_pos h]
  simp
theorem read_text {n v : ByteArray} (h : fdB (n, v) = true) : rdR (fdT (n, v)).data.toList = ((n, v), true) := by
  obtain ⟨h1, h2⟩ := fd_parts h
  have hs := tok_smalls h1
  rw [fdT_list h]
  exact read_of h (low_small hs) (colon_small hs) (by rw [trim_left, h2])
theorem read_great {n v : ByteArray} (h : fdB (n, v) = true) : rdR (upL n.data.toList ++ [58, 32, 32, 32] ++ v.data.toList ++ [32, 32]) = ((n, v), true) := by
  obtain ⟨h1, h2⟩ := fd_parts h
  have hs := tok_smalls h1
  have e : upL n.data.toList ++ [58, 32, 32, 32] ++ v.data.toList ++ [32, 32] = upL n.data.toList ++ 58 :: (32 :: 32 :: 32 :: (v.data.toList ++ [32] ++ [32])) := by simp
  rw [e]
  exact read_of h (low_up hs) (colon_up hs) (by rw [trim_left, trim_left, trim_left, trim_right, trim_right, h2])

/-- What is read is a field. -/
theorem read_ok {l : List UInt8} {f : ByteArray × ByteArray} (h : rdR l = (f, true)) : fdB f = true := by
  unfold rdR at h
  by_cases hb : rdB l = true
  · rw [if_pos hb] at h
    injection h with h1 _
    unfold rdB at hb
    rw [Bool.and_eq_true] at hb
    rw [← h1]; exact hb.2
  · rw [if_neg hb] at h
    injection h with _ h2
    cases h2
theorem read_false {l : List UInt8} {f : ByteArray × ByteArray} (h : rdR l = (f, false)) : f = (⟨#[]⟩, ⟨#[]⟩) := by
  unfold rdR at h
  by_cases hb : rdB l = true
  · rw [if_pos hb] at h
    injection h with _ h2
    cases h2
  · rw [if_neg hb] at h
    injection h with h1 _
    exact h1.symm
/-- A space ahead of the name makes it none. -/
theorem read_space (l : List UInt8) : rdR (32 :: l) = ((⟨#[]⟩, ⟨#[]⟩), false) := by
  have hcut : cutL (32 :: l) 58 = (32 :: (cutL l 58).1, (cutL l 58).2.1, (cutL l 58).2.2) := by
    show (if (32 : UInt8) = 58 then _ else _) = _
    rw [if_neg (by decide)]
  refine rd_bad ?_
  unfold rdF
  rw [hcut]
  simp only
  have : tokB (ByteArray.mk (lowL (32 :: (cutL l 58).1)).toArray).data.toList = false := by
    have e : (ByteArray.mk (lowL (32 :: (cutL l 58).1)).toArray).data.toList = 32 :: lowL (cutL l 58).1 := by
      simp [lowL, show lowB 32 = 32 from by decide]
    rw [e]
    have hs : smalls (32 :: lowL (cutL l 58).1) = false := by
      unfold smalls
      rw [List.all_cons, show isSmall 32 = false from by decide]; rfl
    simp [tokB, hs]
  simp [fdB, this]
end Go.Proofs.YtncegikmpapldaaGreatDoor
