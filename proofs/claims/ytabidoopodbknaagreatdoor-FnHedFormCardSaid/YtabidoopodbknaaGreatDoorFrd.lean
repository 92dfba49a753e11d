/- Fields: read from a line. -/
import Derived.Test.YtabidoopodbknaaGreatDoorFok
import Derived.Test.YtabidoopodbknaaGreatDoorCutI
import Derived.Test.YtabidoopodbknaaGreatDoorLower
namespace Go.Proofs.YtabidoopodbknaaGreatDoor
open Go.RowKit

/-- What a line says, be it valid or not. -/
def rdF (l : List UInt8) : ByteArray × ByteArray := (⟨(lowL (cutL l 58).1).toArray⟩, ⟨(Lib.trimB (cutL l 58).2.1 32).toArray⟩)
def rdB (l : List UInt8) : Bool := (cutL l 58).2.2 && fdB (rdF l)
def rdR (l : List UInt8) : (ByteArray × ByteArray) × Bool := if rdB l = true then (rdF l, true) else ((⟨#[]⟩, ⟨#[]⟩), false)
def fdV (r : (ByteArray × ByteArray) × Bool) : Value := .tuple #[.agg #[.string r.1.1, .string r.1.2], .bool r.2]

theorem rd_no {l : List UInt8} (h : (cutL l 58).2.2 = false) : rdR l = ((⟨#[]⟩, ⟨#[]⟩), false) := by simp [rdR, rdB, h]
theorem rd_bad {l : List UInt8} (h : fdB (rdF l) = false) : rdR l = ((⟨#[]⟩, ⟨#[]⟩), false) := by simp [rdR, rdB, h]
theorem rd_yes {l : List UInt8} (h1 : (cutL l 58).2.2 = true) (h2 : fdB (rdF l) = true) : rdR l = (rdF l, true) := by simp [rdR, rdB, h1, h2]

theorem low_len (l : List UInt8) : (lowL l).length = l.length := by simp [lowL]

/-- The block of a result, as it lies behind calls that leave it alone. -/
theorem res_block {w w' : World} {x y : Value} {T : TypeId} (h : Below (w.heap.size + 1) (w.alloc (.cells #[x, y] T)) w') : w'.heap[w.heap.size]? = some (.cells #[x, y] T (0, 0)) :=
  (h.block w.heap.size (Nat.lt_succ_self _)).trans (heap_alloc_new w _)
theorem res_facts {w' : World} {g : Nat} {x y : Value} {T : TypeId} (h : w'.heap[g]? = some (.cells #[x, y] T (0, 0))) : w'.cell? ⟨g, 0, none⟩ = some x ∧ w'.cell? ⟨g, 1, none⟩ = some y ∧ w'.frozen? ⟨g, 0, none⟩ = false ∧ w'.frozen? ⟨g, 1, none⟩ = false := by
  refine ⟨?_, ?_, ?_, ?_⟩ <;> simp [World.cell?, World.frozen?, h]
theorem res_set {w' : World} {g : Nat} {x y : Value} {T : TypeId} (h : w'.heap[g]? = some (.cells #[x, y] T (0, 0))) (a b : Value) : ((w'.setCell ⟨g, 0, none⟩ a).setCell ⟨g, 1, none⟩ b).cell? ⟨g, 0, none⟩ = some a ∧ ((w'.setCell ⟨g, 0, none⟩ a).setCell ⟨g, 1, none⟩ b).cell? ⟨g, 1, none⟩ = some b := by
  have h1 := heap_setCell_same w' g 0 _ _ a h
  have h2 := heap_setCell_same _ g 1 _ _ b h1
  constructor <;> simp [World.cell?, h2]
theorem below_set2 {w w3 : World} {b : Nat} {x y : Value} (h : Below b w w3) : Below b w ((w3.setCell ⟨b, 0, none⟩ x).setCell ⟨b, 1, none⟩ y) :=
  ⟨h.os, h.tape, h.output, by simpa using h.size, fun j hj => (heap_setCell_other _ ⟨b, 1, none⟩ j _ (by simp; omega)).trans ((heap_setCell_other w3 ⟨b, 0, none⟩ j _ (by simp; omega)).trans (h.block j hj))⟩

set_option maxHeartbeats 1600000 in
theorem impl_read (s : ByteArray) (w : World) (hs : s.size ≤ 281474976710656) (h : Cls w) :
    Calls Tryz.prog 61 #[.string s] w fun e w' => e = .returned (fdV (rdR s.data.toList)) ∧ Below w.heap.size w w' := by
  have hC := fun W => impl_cut s 58 W hs
  have hcl := cutL_len s.data.toList 58
  have hno := rd_no (l := s.data.toList)
  have hbad := rd_bad (l := s.data.toList)
  have hyes := rd_yes (l := s.data.toList)
  unfold rdF at hbad hyes
  rw [size_len] at hs
  generalize cutL s.data.toList 58 = q at *
  obtain ⟨n, v, k⟩ := q
  simp only at hC hcl hno hbad hyes
  have tl := trimB_len v 32
  have ll := low_len n
  have hn : (ByteArray.mk n.toArray).size ≤ 281474976710656 := by rw [size_len]; simp only; omega
  have hv : (ByteArray.mk v.toArray).size ≤ 281474976710656 := by rw [size_len]; simp only; omega
  have hL := fun W hW => impl_lower ⟨n.toArray⟩ W (by unfold maxLen; omega) hW
  have hT := fun W => impl_trim ⟨v.toArray⟩ W hv
  have hO := fun W hW => impl_ok ⟨(lowL n).toArray⟩ ⟨(Lib.trimB v 32).toArray⟩ W (by unfold maxLen; rw [size_len]; simp only; omega) (by unfold maxLen; rw [size_len]; simp only; omega) hW
  unfold strV at hL hT
  simp only at hL hT
  generalize (ByteArray.mk (lowL n).toArray) = a at *
  generalize (ByteArray.mk (Lib.trimB v 32).toArray) = b at *
  generalize (ByteArray.mk n.toArray) = n' at *
  generalize (ByteArray.mk v.toArray) = v' at *
  have HA : Below w.heap.size w (w.alloc (.cells #[.string ⟨#[]⟩, .string ⟨#[]⟩] 39)) := (Below.refl _ _).alloc (Nat.le_refl _) _
  obtain ⟨W0, hW0⟩ : ∃ W0, W0 = w.alloc (.cells #[.string ⟨#[]⟩, .string ⟨#[]⟩] 39) := ⟨_, rfl⟩
  have hs0 : W0.heap.size = w.heap.size + 1 := by rw [hW0]; simp
  rw [← hW0] at HA
  have hRes : ∀ W, Below W0.heap.size W0 W → W.heap[w.heap.size]? = some (.cells #[.string ⟨#[]⟩, .string ⟨#[]⟩] 39 (0, 0)) := fun W hW => by
    rw [hs0, hW0] at hW; exact res_block hW
  have hCl : ∀ W, Below W0.heap.size W0 W → Cls W := fun W hW => (h.below HA (Nat.le_refl _)).below hW (Nat.le_refl _)
  have HR := Lib.hid hRes; have HC := Lib.hid hCl; have HW := Lib.hid hW0
  clear hcl hs hn hv tl ll h hRes hCl hW0
  have HNO := Lib.hid hno; have HBAD := Lib.hid hbad; have HYES := Lib.hid hyes
  clear hno hbad hyes
  go_enter Tryz.func61, Tryz.ntmps61
  go_wp2_with fail
  rw [← HW.out]
  refine (hC _).mono ?_
  rintro e w1 ⟨rfl, hb1⟩
  go_wp2_with fail
  refine (hL _ (HC.out _ hb1)).mono ?_
  rintro e w2 ⟨rfl, hb2⟩
  have hb02 := hb1.trans (hb2.mono hb1.size)
  go_wp2_with fail
  refine (hT _).mono ?_
  rintro e w3 ⟨rfl, hb3⟩
  have hb03 := hb02.trans (hb3.mono hb02.size)
  cases k
  · have r0 := HR.out _ (hb03.alloc hb03.size (.cells #[.string a, .string b] 39))
    obtain ⟨q0, q1, q2, q3⟩ := res_facts r0
    obtain ⟨z0, z1⟩ := res_set r0 (.string ⟨#[]⟩) (.string ⟨#[]⟩)
    have hbel := HA.trans ((hb03.alloc hb03.size (.cells #[.string a, .string b] 39)).mono (by omega))
    have hfin := below_set2 (x := .string ⟨#[]⟩) (y := .string ⟨#[]⟩) hbel
    have HF := Lib.hid hfin
    clear hC hL hT hO r0 hbel hfin hb1 hb2 hb3 hb02 hb03 HA
    go_wp2
    exact bodyPost_ret (v := fdV ((⟨#[]⟩, ⟨#[]⟩), false)) (by simp [results, Tryz.results61, go_sem, z0, z1, fdV]) rfl ⟨by rw [HNO.out trivial], HF.out⟩
  · have hb04 := hb03.alloc hb03.size (.cells #[.string a, .string b] 39)
    have hcls := HC.out _ hb04
    cases hf : fdB (a, b)
    · rw [hf] at hO
      have HN := Lib.hid (HBAD.out hf)
      clear hf hC hL hT
      go_wp2_with fail
      refine (hO _ hcls).mono ?_
      rintro e w5 ⟨rfl, hb5⟩
      have hb05 := hb04.trans (hb5.mono hb04.size)
      have r0 := HR.out _ hb05
      obtain ⟨q0, q1, q2, q3⟩ := res_facts r0
      obtain ⟨z0, z1⟩ := res_set r0 (.string ⟨#[]⟩) (.string ⟨#[]⟩)
      have hbel := HA.trans (hb05.mono (by omega))
      have hfin := below_set2 (x := .string ⟨#[]⟩) (y := .string ⟨#[]⟩) hbel
      have HF := Lib.hid hfin
      clear hO r0 hbel hfin hb1 hb2 hb3 hb02 hb03 HA hb04 hb05 hb5 hcls
      go_wp2
      exact bodyPost_ret (v := fdV ((⟨#[]⟩, ⟨#[]⟩), false)) (by simp [results, Tryz.results61, go_sem, z0, z1, fdV]) rfl ⟨by rw [HN.out], HF.out⟩
    · rw [hf] at hO
      have HN := Lib.hid (HYES.out rfl hf)
      clear hf hC hL hT
      go_wp2_with fail
      refine (hO _ hcls).mono ?_
      rintro e w5 ⟨rfl, hb5⟩
      have hb05 := hb04.trans (hb5.mono hb04.size)
      have r0 := HR.out _ hb05
      obtain ⟨q0, q1, q2, q3⟩ := res_facts r0
      obtain ⟨z0, z1⟩ := res_set r0 (.string a) (.string b)
      have f0 := hb5.cell (p := ⟨w3.heap.size, 0, none⟩) (by simp)
      have f1 := hb5.cell (p := ⟨w3.heap.size, 1, none⟩) (by simp)
      rw [World.cell?_alloc_at _ _ _ _ rfl] at f0 f1
      have hbel := HA.trans (hb05.mono (by omega))
      have hfin := below_set2 (x := .string a) (y := .string b) hbel
      have HF := Lib.hid hfin
      clear hO r0 hbel hfin hb1 hb2 hb3 hb02 hb03 HA hb04 hb05 hb5 hcls
      go_wp2
      exact bodyPost_ret (v := fdV ((a, b), true)) (by simp [results, Tryz.results61, go_sem, z0, z1, fdV]) rfl ⟨by rw [HN.out], HF.out⟩
set_option maxHeartbeats 1600000 in
theorem spec_read (s : ByteArray) (w : World) (hs : s.size ≤ 1048576) :
    Calls Tryz.prog 73 #[.string s] w fun e w' => e = .returned (fdV (rdR s.data.toList)) ∧ Below w.heap.size w w' := by
  have hC := fun W => (spec_cut s 58 W (by unfold maxLen; omega)).mono (R' := fun e w' => e = .returned (.tuple #[.string ⟨(cutL s.data.toList 58).1.toArray⟩, .string ⟨(cutL s.data.toList 58).2.1.toArray⟩, .bool (cutL s.data.toList 58).2.2]) ∧ Below W.heap.size W w') fun e w' ⟨he, n, hn⟩ => ⟨he, hn ▸ below_drewN (Below.refl _ _)⟩
  have hcl := cutL_len s.data.toList 58
  have hno := rd_no (l := s.data.toList)
  have hbad := rd_bad (l := s.data.toList)
  have hyes := rd_yes (l := s.data.toList)
  unfold rdF at hbad hyes
  rw [size_len] at hs
  generalize cutL s.data.toList 58 = q at *
  obtain ⟨n, v, k⟩ := q
  simp only at hC hcl hno hbad hyes
  have tl := trimB_len v 32
  have ll := low_len n
  have hn : (ByteArray.mk n.toArray).size ≤ 1048576 := by rw [size_len]; simp only; omega
  have hv : (ByteArray.mk v.toArray).size ≤ 1048576 := by rw [size_len]; simp only; omega
  have hL := fun W => spec_lower ⟨n.toArray⟩ W hn
  have hT := fun W => (spec_trim ⟨v.toArray⟩ W (by unfold maxLen; omega)).mono (R' := fun e w' => e = .returned (strV (Lib.trimB (ByteArray.mk v.toArray).data.toList 32)) ∧ Below W.heap.size W w') fun e w' ⟨he, hw⟩ => ⟨he, hw ▸ Below.refl _ _⟩
  have hO := fun W => spec_ok ⟨(lowL n).toArray⟩ ⟨(Lib.trimB v 32).toArray⟩ W (by unfold maxLen; rw [size_len]; simp only; omega) (by unfold maxLen; rw [size_len]; simp only; omega)
  unfold strV at hL hT
  simp only at hL hT
  generalize (ByteArray.mk (lowL n).toArray) = a at *
  generalize (ByteArray.mk (Lib.trimB v 32).toArray) = b at *
  generalize (ByteArray.mk n.toArray) = n' at *
  generalize (ByteArray.mk v.toArray) = v' at *
  have HA : Below w.heap.size w (w.alloc (.cells #[.string ⟨#[]⟩, .string ⟨#[]⟩] 39)) := (Below.refl _ _).alloc (Nat.le_refl _) _
  obtain ⟨W0, hW0⟩ : ∃ W0, W0 = w.alloc (.cells #[.string ⟨#[]⟩, .string ⟨#[]⟩] 39) := ⟨_, rfl⟩
  have hs0 : W0.heap.size = w.heap.size + 1 := by rw [hW0]; simp
  rw [← hW0] at HA
  have hRes : ∀ W, Below W0.heap.size W0 W → W.heap[w.heap.size]? = some (.cells #[.string ⟨#[]⟩, .string ⟨#[]⟩] 39 (0, 0)) := fun W hW => by
    rw [hs0, hW0] at hW; exact res_block hW
  have HR := Lib.hid hRes; have HW := Lib.hid hW0
  clear hcl hs hn hv tl ll hRes hW0
  have HNO := Lib.hid hno; have HBAD := Lib.hid hbad; have HYES := Lib.hid hyes
  clear hno hbad hyes
  go_enter Tryz.func73, Tryz.ntmps73
  go_wp2_with fail
  rw [← HW.out]
  refine (hC _).mono ?_
  rintro e w1 ⟨rfl, hb1⟩
  go_wp2_with fail
  refine (hL _).mono ?_
  rintro e w2 ⟨rfl, hb2⟩
  have hb02 := hb1.trans (hb2.mono hb1.size)
  go_wp2_with fail
  refine (hT _).mono ?_
  rintro e w3 ⟨rfl, hb3⟩
  have hb03 := hb02.trans (hb3.mono hb02.size)
  cases k
  · have r0 := HR.out _ (hb03.alloc hb03.size (.cells #[.string a, .string b] 39))
    obtain ⟨q0, q1, q2, q3⟩ := res_facts r0
    obtain ⟨z0, z1⟩ := res_set r0 (.string ⟨#[]⟩) (.string ⟨#[]⟩)
    have hbel := HA.trans ((hb03.alloc hb03.size (.cells #[.string a, .string b] 39)).mono (by omega))
    have hfin := below_set2 (x := .string ⟨#[]⟩) (y := .string ⟨#[]⟩) hbel
    have HF := Lib.hid hfin
    clear hC hL hT hO r0 hbel hfin hb1 hb2 hb3 hb02 hb03 HA
    go_wp2
    exact bodyPost_ret (v := fdV ((⟨#[]⟩, ⟨#[]⟩), false)) (by simp [results, Tryz.results73, go_sem, z0, z1, fdV]) rfl ⟨by rw [HNO.out trivial], HF.out⟩
  · have hb04 := hb03.alloc hb03.size (.cells #[.string a, .string b] 39)
    cases hf : fdB (a, b)
    · rw [hf] at hO
      have HN := Lib.hid (HBAD.out hf)
      clear hf hC hL hT
      go_wp2_with fail
      refine (hO _).mono ?_
      rintro e w5 ⟨rfl, hb5⟩
      have hb05 := hb04.trans (hb5.mono hb04.size)
      have r0 := HR.out _ hb05
      obtain ⟨q0, q1, q2, q3⟩ := res_facts r0
      obtain ⟨z0, z1⟩ := res_set r0 (.string ⟨#[]⟩) (.string ⟨#[]⟩)
      have hbel := HA.trans (hb05.mono (by omega))
      have hfin := below_set2 (x := .string ⟨#[]⟩) (y := .string ⟨#[]⟩) hbel
      have HF := Lib.hid hfin
      clear hO r0 hbel hfin hb1 hb2 hb3 hb02 hb03 HA hb04 hb05 hb5
      go_wp2
      exact bodyPost_ret (v := fdV ((⟨#[]⟩, ⟨#[]⟩), false)) (by simp [results, Tryz.results73, go_sem, z0, z1, fdV]) rfl ⟨by rw [HN.out], HF.out⟩
    · rw [hf] at hO
      have HN := Lib.hid (HYES.out rfl hf)
      clear hf hC hL hT
      go_wp2_with fail
      refine (hO _).mono ?_
      rintro e w5 ⟨rfl, hb5⟩
      have hb05 := hb04.trans (hb5.mono hb04.size)
      have r0 := HR.out _ hb05
      obtain ⟨q0, q1, q2, q3⟩ := res_facts r0
      obtain ⟨z0, z1⟩ := res_set r0 (.string a) (.string b)
      have f0 := hb5.cell (p := ⟨w3.heap.size, 0, none⟩) (by simp)
      have f1 := hb5.cell (p := ⟨w3.heap.size, 1, none⟩) (by simp)
      rw [World.cell?_alloc_at _ _ _ _ rfl] at f0 f1
      have hbel := HA.trans (hb05.mono (by omega))
      have hfin := below_set2 (x := .string a) (y := .string b) hbel
      have HF := Lib.hid hfin
      clear hO r0 hbel hfin hb1 hb2 hb3 hb02 hb03 HA hb04 hb05 hb5
      go_wp2
      exact bodyPost_ret (v := fdV ((a, b), true)) (by simp [results, Tryz.results73, go_sem, z0, z1, fdV]) rfl ⟨by rw [HN.out], HF.out⟩
end Go.Proofs.YtabidoopodbknaaGreatDoor
