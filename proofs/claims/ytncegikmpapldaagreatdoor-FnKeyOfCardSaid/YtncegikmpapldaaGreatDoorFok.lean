/- Fields: the program and the specification on which are valid; their texts. -/
import Derived.Test.YtncegikmpapldaaGreatDoorFv
namespace Go.Proofs.YtncegikmpapldaaGreatDoor
open Go.RowKit

theorem Cls.alloc {w : World} (h : Cls w) (o : Obj) : Cls (w.alloc o) := h.below ((Below.refl _ _).alloc (Nat.le_refl _) o) (Nat.le_refl _)

set_option maxHeartbeats 1600000 in
theorem impl_ok (a b : ByteArray) (w : World) (ha : a.size ≤ maxLen) (hb : b.size ≤ maxLen) (h : Cls w) :
    Calls Tryz.prog 109 #[.agg #[.string a, .string b]] w fun e w' => e = .returned (.bool (fdB (a, b))) ∧ Below w.heap.size w w' := by
  have hT := fun W hW => impl_tok a W ha hW
  have hP := fun W => printable b W hb
  have hR := fun W => text_trim b W hb
  have hC := fun o => h.alloc o
  have hb' := hb
  unfold maxLen at hb'
  have HA : ∀ o, Below w.heap.size w (w.alloc o) := fun o => (Below.refl _ _).alloc (Nat.le_refl _) o
  cases ht : tokB a.data.toList
  · rw [ht] at hT
    have HF : Hid (fdB (a, b) = false) := Lib.hid (by simp [fdB, ht])
    clear hP hR ht h
    go_enter Tryz.func109, Tryz.ntmps109
    go_wp2_with fail
    refine (hT _ (hC _)).mono ?_
    rintro e w' ⟨rfl, rfl⟩
    go_wp2
    go_ret
    rw [HF.out]; exact ⟨rfl, HA _⟩
  · rw [ht] at hT
    have hv : fdB (a, b) = valB b.data.toList := by simp [fdB, ht]
    by_cases h1 : b.size ≤ 30
    · have h30 : b.data.toList.length ≤ 30 := by rw [← size_len]; exact h1
      cases h2 : printB b.data.toList
      · have HF := Lib.hid (hv.trans (valB_print h2))
        rw [h2] at hP
        clear hR ht h hv h2
        go_enter Tryz.func109, Tryz.ntmps109
        go_wp2_with fail
        refine (hT _ (hC _)).mono ?_
        rintro e w' ⟨rfl, rfl⟩
        go_wp2_with fail
        refine (hP _).mono ?_
        rintro e w' ⟨rfl, rfl⟩
        go_wp2
        go_ret
        rw [HF.out]; exact ⟨rfl, HA _⟩
      · rw [h2] at hP
        by_cases h3 : Lib.trimB b.data.toList 32 = b.data.toList
        · have HF := Lib.hid (hv.trans (valB_yes h30 h2 h3))
          rw [h3] at hR
          unfold strV at hR
          rw [mk_toList] at hR
          clear ht h hv h2 h3 h30
          go_enter Tryz.func109, Tryz.ntmps109
          go_wp2_with fail
          refine (hT _ (hC _)).mono ?_
          rintro e w' ⟨rfl, rfl⟩
          go_wp2_with fail
          refine (hP _).mono ?_
          rintro e w' ⟨rfl, rfl⟩
          go_wp2_with fail
          refine (hR _).mono ?_
          rintro e w' ⟨rfl, n, rfl⟩
          go_wp2
          go_ret
          rw [HF.out]; exact ⟨rfl, below_drewN (HA _)⟩
        · have HF := Lib.hid (hv.trans (valB_trim h3))
          have hne := mk_ne h3
          unfold strV at hR
          generalize (ByteArray.mk (Lib.trimB b.data.toList 32).toArray) = t at *
          clear ht h hv h2 h3 h30
          go_enter Tryz.func109, Tryz.ntmps109
          go_wp2_with fail
          refine (hT _ (hC _)).mono ?_
          rintro e w' ⟨rfl, rfl⟩
          go_wp2_with fail
          refine (hP _).mono ?_
          rintro e w' ⟨rfl, rfl⟩
          go_wp2_with fail
          refine (hR _).mono ?_
          rintro e w' ⟨rfl, n, rfl⟩
          go_wp2
          go_ret
          rw [HF.out]; exact ⟨rfl, below_drewN (HA _)⟩
    · have HF := Lib.hid (hv.trans (valB_len (l := b.data.toList) (by rw [← size_len]; exact h1)))
      clear hP hR ht h hv
      go_enter Tryz.func109, Tryz.ntmps109
      go_wp2_with fail
      refine (hT _ (hC _)).mono ?_
      rintro e w' ⟨rfl, rfl⟩
      go_wp2
      go_ret
      rw [HF.out]; exact ⟨rfl, HA _⟩

set_option maxHeartbeats 800000 in
theorem spec_ok (a b : ByteArray) (w : World) (ha : a.size ≤ maxLen) (hb : b.size ≤ maxLen) :
    Calls Tryz.prog 74 #[.agg #[.string a, .string b]] w fun e w' => e = .returned (.bool (fdB (a, b))) ∧ Below w.heap.size w w' := by
  have hT := fun W => spec_tok a W ha
  have hV := fun W => spec_value b W hb
  have HA : ∀ o, Below w.heap.size w (w.alloc o) := fun o => (Below.refl _ _).alloc (Nat.le_refl _) o
  cases ht : tokB a.data.toList
  · rw [ht] at hT
    have HF : Hid (fdB (a, b) = false) := Lib.hid (by simp [fdB, ht])
    clear hV ht
    go_enter Tryz.func74, Tryz.ntmps74
    go_wp2_with fail
    refine (hT _).mono ?_
    rintro e w' ⟨rfl, rfl⟩
    go_wp2
    go_ret
    rw [HF.out]; exact ⟨rfl, HA _⟩
  · rw [ht] at hT
    have HF : Hid (fdB (a, b) = valB b.data.toList) := Lib.hid (by simp [fdB, ht])
    clear ht
    generalize valB b.data.toList = q at *
    go_enter Tryz.func74, Tryz.ntmps74
    go_wp2_with fail
    refine (hT _).mono ?_
    rintro e w' ⟨rfl, rfl⟩
    go_wp2_with fail
    refine (hV _).mono ?_
    rintro e w' ⟨rfl, rfl⟩
    go_wp2
    go_ret
    rw [HF.out]; exact ⟨rfl, HA _⟩

/-- The text of a field. -/
def fdT (f : ByteArray × ByteArray) : ByteArray := if fdB f = true then f.1 ++ ⟨#[58, 32]⟩ ++ f.2 else ⟨#[]⟩

theorem fdB_len {a b : ByteArray} (h : fdB (a, b) = true) : a.size ≤ 12 ∧ b.size ≤ 30 := by
  simp only [fdB, tokB, valB, Bool.and_eq_true, decide_eq_true_eq] at h
  rw [size_len, size_len]
  omega

set_option maxHeartbeats 800000 in
theorem impl_text (a b : ByteArray) (w : World) (ha : a.size ≤ maxLen) (hb : b.size ≤ maxLen) (h : Cls w) :
    Calls Tryz.prog 112 #[.agg #[.string a, .string b]] w fun e w' => e = .returned (.string (fdT (a, b))) ∧ Below w.heap.size w w' := by
  have hO := fun W hW => impl_ok a b W ha hb hW
  have hC := fun o => h.alloc o
  have HA : ∀ o, Below w.heap.size w (w.alloc o) := fun o => (Below.refl _ _).alloc (Nat.le_refl _) o
  cases hf : fdB (a, b)
  · have HF : Hid (fdT (a, b) = ⟨#[]⟩) := Lib.hid (by simp [fdT, hf])
    rw [hf] at hO
    clear h hf
    go_enter Tryz.func112, Tryz.ntmps112
    go_wp2_with fail
    refine (hO _ (hC _)).mono ?_
    rintro e w' ⟨rfl, hb1⟩
    have hbel := (HA (.cells #[.string a, .string b] 50)).trans (hb1.mono (by simp))
    go_wp2
    go_ret
    rw [HF.out]; exact ⟨rfl, hbel⟩
  · have HF : Hid (fdT (a, b) = a ++ ⟨#[58, 32]⟩ ++ b) := Lib.hid (by simp [fdT, hf])
    obtain ⟨l1, l2⟩ := fdB_len hf
    rw [hf] at hO
    clear h hf
    go_enter Tryz.func112, Tryz.ntmps112
    go_wp2_with fail
    refine (hO _ (hC _)).mono ?_
    rintro e w' ⟨rfl, hb1⟩
    have hbel := (HA (.cells #[.string a, .string b] 50)).trans (hb1.mono (by simp))
    have q0 := hb1.cell (p := ⟨w.heap.size, 0, none⟩) (by simp)
    have q1 := hb1.cell (p := ⟨w.heap.size, 1, none⟩) (by simp)
    rw [World.cell?_alloc_at _ _ _ _ rfl] at q0 q1
    go_wp2
    go_ret
    rw [HF.out]; exact ⟨rfl, hbel⟩

set_option maxHeartbeats 800000 in
theorem spec_text (a b : ByteArray) (w : World) (ha : a.size ≤ maxLen) (hb : b.size ≤ maxLen) :
    Calls Tryz.prog 121 #[.agg #[.string a, .string b]] w fun e w' => e = .returned (.string (fdT (a, b))) ∧ Below w.heap.size w w' := by
  have hO := fun W => spec_ok a b W ha hb
  have HA : ∀ o, Below w.heap.size w (w.alloc o) := fun o => (Below.refl _ _).alloc (Nat.le_refl _) o
  cases hf : fdB (a, b)
  · have HF : Hid (fdT (a, b) = ⟨#[]⟩) := Lib.hid (by simp [fdT, hf])
    rw [hf] at hO
    clear hf
    go_enter Tryz.func121, Tryz.ntmps121
    go_wp2_with fail
    refine (hO _).mono ?_
    rintro e w' ⟨rfl, hb1⟩
    have hbel := (HA (.cells #[.string a, .string b] 50)).trans (hb1.mono (by simp))
    go_wp2
    go_ret
    rw [HF.out]; exact ⟨rfl, hbel⟩
  · have HF : Hid (fdT (a, b) = a ++ ⟨#[58, 32]⟩ ++ b) := Lib.hid (by simp [fdT, hf])
    obtain ⟨l1, l2⟩ := fdB_len hf
    rw [hf] at hO
    clear hf
    go_enter Tryz.func121, Tryz.ntmps121
    go_wp2_with fail
    refine (hO _).mono ?_
    rintro e w' ⟨rfl, hb1⟩
    have hbel := (HA (.cells #[.string a, .string b] 50)).trans (hb1.mono (by simp))
    have q0 := hb1.cell (p := ⟨w.heap.size, 0, none⟩) (by simp)
    have q1 := hb1.cell (p := ⟨w.heap.size, 1, none⟩) (by simp)
    rw [World.cell?_alloc_at _ _ _ _ rfl] at q0 q1
    go_wp2
    go_ret
    rw [HF.out]; exact ⟨rfl, hbel⟩
end Go.Proofs.YtncegikmpapldaaGreatDoor
