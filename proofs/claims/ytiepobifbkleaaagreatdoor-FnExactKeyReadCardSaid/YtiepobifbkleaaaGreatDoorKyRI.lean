/- Walks: a key of its text, by the program. -/
import Derived.Test.YtiepobifbkleaaaGreatDoorGKy
import Derived.Test.YtiepobifbkleaaaGreatDoorCutI
namespace Go.Proofs.YtiepobifbkleaaaGreatDoor
open Go.RowKit Go.Maps

set_option maxRecDepth 100000 in
set_option maxHeartbeats 3200000 in
theorem impl_keyread (hs : List Hs) (v : Value) (s : ByteArray) (w : World) (hH : HRow w v hs) (hN : HOks hs 1048576) (hs1 : s.size ≤ 1048576) (hcls : Cls w) (htab : Tab w) (herr : Errs w) :
    Calls Tryz.prog 14 #[.agg #[v], .string s] w fun e w' => e = .returned (.tuple #[keyV (keyR hs s.data.toList).1, .bool (keyR hs s.data.toList).2]) ∧ Below w.heap.size w w' := by
  obtain ⟨hz2, hb2, hA0, hA1⟩ := box2_new w (.cells #[v] 25) (.cells #[.int .i64 0, .string ⟨#[]⟩, .int .i64 0] 27)
  obtain ⟨W2, hW2⟩ : ∃ W2, W2 = (w.alloc (.cells #[v] 25)).alloc (.cells #[.int .i64 0, .string ⟨#[]⟩, .int .i64 0] 27) := ⟨_, rfl⟩
  rw [← hW2] at hz2 hb2 hA0 hA1
  have hC1 := fun W => impl_cut s 32 W (by omega)
  obtain ⟨hl1, hl2⟩ := cutL_len s.data.toList 32
  have hsl := size_len s
  unfold keyR
  generalize cutL s.data.toList 32 = C1 at *
  obtain ⟨A, R, f1⟩ := C1
  dsimp only at hC1 hl1 hl2 ⊢
  have hR : (ByteArray.mk R.toArray).size ≤ 1048576 := by rw [size_len]; show R.length ≤ _; omega
  have hAz : (ByteArray.mk A.toArray).size ≤ 1048576 := by rw [size_len]; show A.length ≤ _; omega
  have hC2 := fun W => impl_cut ⟨R.toArray⟩ 32 W (by omega)
  have hRd : (ByteArray.mk R.toArray).data.toList = R := by simp
  obtain ⟨hl3, hl4⟩ := cutL_len R 32
  rw [hRd] at hC2
  generalize cutL R 32 = C2 at *
  obtain ⟨B, P, f2⟩ := C2
  dsimp only at hC2 hl3 hl4 ⊢
  have hBz : (ByteArray.mk B.toArray).size ≤ 1048576 := by rw [size_len]; show B.length ≤ _; omega
  have hPz : (ByteArray.mk P.toArray).size ≤ 1048576 := by rw [size_len]; show P.length ≤ _; omega
  have hN1 := fun W ht he => impl_numread ⟨A.toArray⟩ W (by omega) ht he
  have hN2 := fun W ht he => impl_numread ⟨B.toArray⟩ W (by omega) ht he
  rw [show (ByteArray.mk A.toArray).data.toList = A from by simp] at hN1
  rw [show (ByteArray.mk B.toArray).data.toList = B from by simp] at hN2
  generalize numR A = n1 at *
  obtain ⟨h, o1⟩ := n1
  generalize numR B = n2 at *
  obtain ⟨m, o2⟩ := n2
  dsimp only at hN1 hN2 ⊢
  have hK := fun W hH hc => impl_keyok hs v ⟨(h : Int), ⟨P.toArray⟩, (m : Int)⟩ W hH hN hPz hc
  unfold keyV at hK
  dsimp only at hK
  generalize (ByteArray.mk A.toArray) = SA at *
  generalize (ByteArray.mk R.toArray) = SR at *
  generalize (ByteArray.mk B.toArray) = SB at *
  generalize (ByteArray.mk P.toArray) = SP at *
  generalize keyB hs ⟨(h : Int), SP, (m : Int)⟩ = ok at *
  obtain ⟨KV, hKV⟩ : ∃ KV : Ky × Bool, (if o1 = true ∧ o2 = true ∧ ok = true then ((⟨(h : Int), SP, (m : Int)⟩ : Ky), true) else (noKy, false)) = KV := ⟨_, rfl⟩
  rw [hKV]
  have HKV := Lib.hid hKV
  clear hKV
  have HX : Hid (∀ W, Below W2.heap.size W2 W → Below w.heap.size w W ∧ W.heap[w.heap.size]? = some (.cells #[v] 25 (0, 0)) ∧ W.heap[w.heap.size + 1]? = some (.cells #[.int .i64 0, .string ⟨#[]⟩, .int .i64 0] 27 (0, 0)) ∧
      Calls Tryz.prog 54 #[.string SA] W (fun e w' => e = .returned (.tuple #[.int .i64 (h : Int), .bool o1]) ∧ Below W.heap.size W w') ∧
      Calls Tryz.prog 54 #[.string SB] W (fun e w' => e = .returned (.tuple #[.int .i64 (m : Int), .bool o2]) ∧ Below W.heap.size W w') ∧
      Calls Tryz.prog 18 #[.agg #[v], .agg #[.int .i64 (h : Int), .string SP, .int .i64 (m : Int)]] W (fun e w' => e = .returned (.bool ok) ∧ Below W.heap.size W w')) := Lib.hid fun W hW => by
    have hb := hb2.trans (hW.mono (by omega))
    have ht := htab.below hb (Nat.le_refl _)
    have he := herr.below hb (Nat.le_refl _)
    exact ⟨hb, (hW.block _ (by omega)).trans hA0, (hW.block _ (by omega)).trans hA1, hN1 W ht he, hN2 W ht he, hK W (hH.below (Nat.le_refl _) hb) (hcls.below hb (Nat.le_refl _))⟩
  have HC2 := Lib.hid hC2
  have hC10 := hC1 W2
  obtain ⟨va, vc, rfl, _⟩ := hH
  rw [hW2] at hC10
  have HW := Lib.hid hW2
  have HB0 : Hid (Below W2.heap.size W2 W2) := Lib.hid (Below.refl _ _)
  clear hW2 hb2 hA0 hA1 hN hcls htab herr hC1 hC2 hN1 hN2 hK hRd hR hAz hBz hPz hl1 hl2 hl3 hl4 hsl hs1
  go_enter Tryz.func14, Tryz.ntmps14
  go_wp2_with fail
  refine hC10.mono ?_
  rintro e w1 ⟨rfl, hb1⟩
  rw [← HW.out] at hb1
  have HB1 := Lib.hid hb1
  clear hb1 hC10
  go_wp2_with fail
  refine (HC2.out _).mono ?_
  rintro e w3 ⟨rfl, hb3⟩
  have HB3 := Lib.hid (HB1.out.trans (hb3.mono HB1.out.size))
  clear hb3
  go_wp2_with fail
  refine (HX.out _ HB3.out).2.2.2.1.mono ?_
  rintro e w4 ⟨rfl, hb4⟩
  have HB4 := Lib.hid (HB3.out.trans (hb4.mono HB3.out.size))
  clear hb4
  go_wp2_with fail
  refine (HX.out _ HB4.out).2.2.2.2.1.mono ?_
  rintro e w5 ⟨rfl, hb5⟩
  have HB5 := Lib.hid (HB4.out.trans (hb5.mono HB4.out.size))
  clear hb5
  obtain ⟨W6, hW6⟩ : ∃ W6, W6 = w5.alloc (.cells #[.int .i64 (h : Int), .string SP, .int .i64 (m : Int)] 27) := ⟨_, rfl⟩
  have hb6 : Below w5.heap.size w5 W6 := by rw [hW6]; exact (Below.refl _ _).alloc (Nat.le_refl _) _
  have hD6 := HB5.out.trans (hb6.mono HB5.out.size)
  have hA6 : W6.heap[w5.heap.size]? = some (.cells #[.int .i64 (h : Int), .string SP, .int .i64 (m : Int)] 27 (0, 0)) := by rw [hW6]; exact heap_alloc_new w5 _
  have hz5 := HB5.out.size
  obtain ⟨k1, k2, k3, _, _, k6⟩ := HX.out _ hD6
  obtain ⟨t0, _⟩ := one_fact k2
  obtain ⟨y0, y1, y2, _⟩ := three_facts hA6
  obtain ⟨x0', x1', x2', f0, f1', f2'⟩ := three_facts k3
  have z := three_set k3 (.int .i64 0) (.string ⟨#[]⟩) (.int .i64 0)
  have HBn : Hid (Below w.heap.size w (set3k W6 (w.heap.size + 1) (.int .i64 0) (.string ⟨#[]⟩) (.int .i64 0))) := Lib.hid (k1.grown (grown_set3 _ _ _ _ _) k1.size (fun k hk => by cases hk; omega))
  unfold set3k at z HBn
  obtain ⟨z0, z1, z2, _⟩ := three_facts z
  rw [hW6] at t0 y0 y1 y2 x0' x1' x2' f0 f1' f2' z0 z1 z2 k6 HBn
  have HZ := Lib.hid (And.intro z0 (And.intro z1 z2))
  have HW6 := Lib.hid hW6
  have HD6 := Lib.hid hD6
  have HA6 := Lib.hid hA6
  have HK6 := Lib.hid k6
  have hz6 : W6.heap.size = w5.heap.size + 1 := by rw [hW6]; simp
  have HF := Lib.hid (And.intro f0 (And.intro f1' (And.intro f2' (And.intro x0' (And.intro x1' x2')))))
  clear hW6 hb6 hD6 hA6 k1 k2 k3 k6 z z0 z1 z2 f0 f1' f2' x0' x1' x2'
  cases o1
  · obtain ⟨f0, f1', f2', x0', x1', x2'⟩ := HF.out
    obtain rfl : KV = (noKy, false) := by rw [← HKV.out]; simp
    go_wp2_with fail
    obtain ⟨z0, z1, z2⟩ := HZ.out
    refine bodyPost_ret (v := .tuple #[.agg #[.int .i64 0, .string ⟨#[]⟩, .int .i64 0], .bool false]) (by simp [results, Tryz.results14, go_sem, z0, z1, z2]) rfl ?_
    exact ⟨rfl, HBn.out⟩
  cases o2
  · obtain ⟨f0, f1', f2', x0', x1', x2'⟩ := HF.out
    obtain rfl : KV = (noKy, false) := by rw [← HKV.out]; simp
    go_wp2_with fail
    obtain ⟨z0, z1, z2⟩ := HZ.out
    refine bodyPost_ret (v := .tuple #[.agg #[.int .i64 0, .string ⟨#[]⟩, .int .i64 0], .bool false]) (by simp [results, Tryz.results14, go_sem, z0, z1, z2]) rfl ?_
    exact ⟨rfl, HBn.out⟩
  go_wp2_with fail
  refine HK6.out.mono ?_
  rintro e w7 ⟨rfl, hb7⟩
  rw [← HW6.out] at hb7
  have hD7 := HD6.out.trans (hb7.mono HD6.out.size)
  have hA7 := (hb7.block _ (by omega)).trans HA6.out
  obtain ⟨k1, k2, k3, _⟩ := HX.out _ hD7
  clear t0 y0 y1 y2 HZ HBn HF
  obtain ⟨y0, y1, y2, _⟩ := three_facts hA7
  obtain ⟨_, _, _, f0, f1', f2'⟩ := three_facts k3
  have hz7 := hb7.size
  cases ok
  · have z := three_set k3 (.int .i64 0) (.string ⟨#[]⟩) (.int .i64 0)
    have HB : Hid (Below w.heap.size w (set3k w7 (w.heap.size + 1) (.int .i64 0) (.string ⟨#[]⟩) (.int .i64 0))) := Lib.hid (k1.grown (grown_set3 _ _ _ _ _) k1.size (fun k hk => by cases hk; omega))
    unfold set3k at z HB
    obtain ⟨z0, z1, z2, _⟩ := three_facts z
    have HZ := Lib.hid (And.intro z0 (And.intro z1 z2))
    clear k1 k2 k3 z z0 z1 z2 hb7 hD7 hA7
    obtain rfl : KV = (noKy, false) := by rw [← HKV.out]; simp
    go_wp2_with fail
    obtain ⟨z0, z1, z2⟩ := HZ.out
    refine bodyPost_ret (v := .tuple #[.agg #[.int .i64 0, .string ⟨#[]⟩, .int .i64 0], .bool false]) (by simp [results, Tryz.results14, go_sem, z0, z1, z2]) rfl ?_
    exact ⟨rfl, HB.out⟩
  · have z := three_set k3 (.int .i64 (h : Int)) (.string SP) (.int .i64 (m : Int))
    have HB : Hid (Below w.heap.size w (set3k w7 (w.heap.size + 1) (.int .i64 (h : Int)) (.string SP) (.int .i64 (m : Int)))) := Lib.hid (k1.grown (grown_set3 _ _ _ _ _) k1.size (fun k hk => by cases hk; omega))
    unfold set3k at z HB
    obtain ⟨z0, z1, z2, _⟩ := three_facts z
    have HZ := Lib.hid (And.intro z0 (And.intro z1 z2))
    clear k1 k2 k3 z z0 z1 z2 hb7 hD7 hA7
    obtain rfl : KV = (⟨(h : Int), SP, (m : Int)⟩, true) := by rw [← HKV.out]; simp
    go_wp2_with fail
    obtain ⟨z0, z1, z2⟩ := HZ.out
    refine bodyPost_ret (v := .tuple #[.agg #[.int .i64 (h : Int), .string SP, .int .i64 (m : Int)], .bool true]) (by simp [results, Tryz.results14, go_sem, z0, z1, z2]) rfl ?_
    exact ⟨rfl, HB.out⟩
end Go.Proofs.YtiepobifbkleaaaGreatDoor
