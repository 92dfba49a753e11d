/- Pure laws on hosts. -/
import Derived.Test.YtncegikmpapldaaGreatDoorParts
import Derived.Test.YtncegikmpapldaaGreatDoorTok
import Derived.Test.YtncegikmpapldaaGreatDoorLower
namespace Go.Proofs.YtncegikmpapldaaGreatDoor

/-- Without one ':80' at the end, if something stands ahead of it. -/
def stripL (l : List UInt8) : List UInt8 := if 3 < l.length ∧ l.drop (l.length - 3) = [58, 56, 48] then l.take (l.length - 3) else l
def hostB (l : List UInt8) : Bool := decide (l.length ≤ 20) && (partsL l 46).all tokB
def hostC (l : List UInt8) : List UInt8 := stripL (lowL l)
def hostR (l : List UInt8) : ByteArray × Bool := if hostB (hostC l) = true then (⟨(hostC l).toArray⟩, true) else (⟨#[]⟩, false)

theorem hsmall_lt (c : UInt8) (h : isSmall c = true) : c ≠ 58 ∧ c ≠ 32 ∧ c ≠ 10 ∧ c ≠ 47 ∧ c ≠ 46 ∧ isGreat c = false := by
  have hh : ∀ n : Fin 256, isSmall (UInt8.ofNat n.val) = true → UInt8.ofNat n.val ≠ 58 ∧ UInt8.ofNat n.val ≠ 32 ∧ UInt8.ofNat n.val ≠ 10 ∧ UInt8.ofNat n.val ≠ 47 ∧ UInt8.ofNat n.val ≠ 46 ∧ isGreat (UInt8.ofNat n.val) = false := by decide +kernel
  have e : UInt8.ofNat c.toNat = c := by simp
  have := hh ⟨c.toNat, c.toNat_lt⟩
  simp only [e] at this
  exact this h

/-- Each byte of a text is the sign between its parts, or in a part. -/
theorem parts_mem {c : UInt8} : ∀ {l : List UInt8} {b : UInt8}, b ∈ l → b = c ∨ ∃ p ∈ partsL l c, b ∈ p := by
  intro l
  induction l with
  | nil => intro b h; cases h
  | cons x l ih =>
    intro b h
    have e1 : partsL (x :: l) c = if x = c then [] :: partsL l c else match partsL l c with
      | [] => [[x]]
      | p :: ps => (x :: p) :: ps := rfl
    by_cases hx : x = c
    · rw [e1, if_pos hx]
      rcases List.mem_cons.1 h with rfl | h
      · exact .inl hx
      · rcases ih h with h | ⟨p, hp, hb⟩
        · exact .inl h
        · exact .inr ⟨p, List.mem_cons_of_mem _ hp, hb⟩
    · rw [e1, if_neg hx]
      have hne := partsL_ne l c
      cases hp : partsL l c with
      | nil => exact absurd hp hne
      | cons q qs =>
        dsimp only
        rcases List.mem_cons.1 h with rfl | h
        · exact .inr ⟨b :: q, List.mem_cons_self .., List.mem_cons_self ..⟩
        · rcases ih h with h | ⟨p, hpm, hb⟩
          · exact .inl h
          · rw [hp] at hpm
            rcases List.mem_cons.1 hpm with rfl | hpm
            · exact .inr ⟨x :: p, List.mem_cons_self .., List.mem_cons_of_mem _ hb⟩
            · exact .inr ⟨p, List.mem_cons_of_mem _ hpm, hb⟩

theorem host_bytes {l : List UInt8} (h : hostB l = true) {b : UInt8} (hb : b ∈ l) : b = 46 ∨ isSmall b = true := by
  unfold hostB at h
  rw [Bool.and_eq_true] at h
  rcases parts_mem (c := 46) hb with e | ⟨p, hp, hbp⟩
  · exact .inl e
  · have := List.all_eq_true.1 h.2 p hp
    simp only [tokB, Bool.and_eq_true] at this
    have hs := this.2
    unfold smalls at hs
    exact .inr (List.all_eq_true.1 hs b hbp)
theorem host_len {l : List UInt8} (h : hostB l = true) : 1 ≤ l.length ∧ l.length ≤ 20 := by
  unfold hostB at h
  rw [Bool.and_eq_true, decide_eq_true_eq] at h
  refine ⟨?_, h.1⟩
  cases l with
  | nil => exact absurd h.2 (by decide)
  | cons => simp
theorem host_not {l : List UInt8} (h : hostB l = true) : (58 : UInt8) ∉ l ∧ (32 : UInt8) ∉ l ∧ (10 : UInt8) ∉ l ∧ (47 : UInt8) ∉ l := by
  refine ⟨fun hb => ?_, fun hb => ?_, fun hb => ?_, fun hb => ?_⟩
  all_goals
    rcases host_bytes h hb with e | hs
    · exact absurd e (by decide)
    · exact absurd hs (by decide)
theorem host_low {l : List UInt8} (h : hostB l = true) : lowL l = l := by
  unfold lowL
  conv => rhs; rw [← List.map_id l]
  refine List.map_congr_left fun c hc => ?_
  unfold lowB
  rcases host_bytes h hc with rfl | hs
  · rfl
  · rw [if_neg (by rw [(hsmall_lt c hs).2.2.2.2.2]; decide)]; rfl
theorem strip_id {l : List UInt8} (h : (58 : UInt8) ∉ l) : stripL l = l := by
  unfold stripL
  rw [if_neg]
  rintro ⟨_, h2⟩
  exact h (List.mem_of_mem_drop (by rw [h2]; exact List.mem_cons_self ..))
theorem host_id {l : List UInt8} (h : hostB l = true) : hostC l = l := by
  unfold hostC
  rw [host_low h, strip_id (host_not h).1]
theorem host_again {l : List UInt8} (h : hostB l = true) : hostR l = (⟨l.toArray⟩, true) := by
  unfold hostR
  rw [host_id h, if_pos h]
theorem host_port {l : List UInt8} (h : hostB l = true) : hostR (l ++ [58, 56, 48]) = (⟨l.toArray⟩, true) := by
  have hl := host_len h
  have e1 : lowL (l ++ [58, 56, 48]) = l ++ [58, 56, 48] := by
    have : lowL (l ++ [58, 56, 48]) = lowL l ++ lowL [58, 56, 48] := by simp [lowL]
    rw [this, host_low h]; rfl
  have e2 : hostC (l ++ [58, 56, 48]) = l := by
    unfold hostC stripL
    rw [e1]
    have hn : (l ++ [58, 56, 48]).length - 3 = l.length := by simp
    rw [hn, if_pos ⟨by simp; omega, by rw [List.drop_left]⟩, List.take_left]
  unfold hostR
  rw [e2, if_pos h]
theorem hostR_yes {l : List UInt8} {x : ByteArray} (h : hostR l = (x, true)) : hostB x.data.toList = true ∧ hostC l = x.data.toList := by
  unfold hostR at h
  by_cases hb : hostB (hostC l) = true
  · rw [if_pos hb] at h
    injection h with h1 _
    rw [← h1]; exact ⟨hb, rfl⟩
  · rw [if_neg hb] at h
    injection h with _ h2
    cases h2
theorem hostR_no {l : List UInt8} {x : ByteArray} (h : hostR l = (x, false)) : x = ⟨#[]⟩ ∧ hostB (hostC l) = false := by
  unfold hostR at h
  by_cases hb : hostB (hostC l) = true
  · rw [if_pos hb] at h
    injection h with _ h2
    cases h2
  · rw [if_neg hb] at h
    injection h with h1 _
    exact ⟨h1.symm, by simpa using hb⟩
end Go.Proofs.YtncegikmpapldaaGreatDoor
