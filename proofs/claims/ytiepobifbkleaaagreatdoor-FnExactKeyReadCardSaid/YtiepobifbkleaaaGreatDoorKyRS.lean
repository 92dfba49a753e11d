/- Walks: a key of its text, by the specification. -/
import Derived.Test.YtiepobifbkleaaaGreatDoorGKy
import Derived.Test.YtiepobifbkleaaaGreatDoorKyS1
namespace Go.Proofs.YtiepobifbkleaaaGreatDoor
open Go.RowKit Go.Maps

theorem noKeyS (hs : List Hs) (l : List UInt8) (h : (partsL l 32).length ≠ 3) : keyS hs l = (noKy, false) := by
  unfold keyS
  split
  · rename_i a b c e; rw [e] at h; exact absurd rfl h
  · rfl
theorem keyS_three {hs : List Hs} {l a b c : List UInt8} (h : partsL l 32 = [a, b, c]) : keyS hs l = if (numR a).2 = true ∧ (numR b).2 = true ∧ keyB hs ⟨(numR a).1, ⟨c.toArray⟩, (numR b).1⟩ = true then (⟨(numR a).1, ⟨c.toArray⟩, (numR b).1⟩, true) else (noKy, false) := by
  unfold keyS; rw [h]
theorem parts_sz {c : UInt8} : ∀ {l p : List UInt8}, p ∈ partsL l c → p.length ≤ l.length := parts_le6

set_option maxRecDepth 100000 in
set_option maxHeartbeats 3200000 in
theorem spec_keyread (hs : List Hs) (v : Value) (s : ByteArray) (w : World) (hH : HRow w v hs) (hN : HOks hs 1048576) (hs1 : s.size ≤ 1048576) :
    Calls Tryz.prog 15 #[.agg #[v], .string s] w fun e w' => e = .returned (.tuple #[keyV (keyR hs s.data.toList).1, .bool (keyR hs s.data.toList).2]) ∧ Below w.heap.size w w' := by
  rw [← keyS_eq]
  obtain ⟨hz2, hb2, hA0, hA1⟩ := box2_new w (.cells #[v] 25) (.cells #[.int .i64 0, .string ⟨#[]⟩, .int .i64 0] 27)
  obtain ⟨W2, hW2⟩ : ∃ W2, W2 = (w.alloc (.cells #[v] 25)).alloc (.cells #[.int .i64 0, .string ⟨#[]⟩, .int .i64 0] 27) := ⟨_, rfl⟩
  rw [← hW2] at hz2 hb2 hA0 hA1
  have hP := spec_parts s 32 W2 hs1
  have hsl := size_len s
  have hle : ∀ p ∈ partsL s.data.toList 32, p.length ≤ 1048576 := fun p hp => Nat.le_trans (parts_sz hp) (by omega)
  have hno := noKeyS hs s.data.toList
  have hyes := fun a b c => keyS_three (hs := hs) (l := s.data.toList) (a := a) (b := b) (c := c)
  generalize keyS hs s.data.toList = KV at *
  generalize partsL s.data.toList 32 = L at *
  have HX : Hid (∀ W, Below W2.heap.size W2 W → Below w.heap.size w W ∧ W.heap[w.heap.size]? = some (.cells #[v] 25 (0, 0)) ∧ W.heap[w.heap.size + 1]? = some (.cells #[.int .i64 0, .string ⟨#[]⟩, .int .i64 0] 27 (0, 0)) ∧ HRow W v hs) := Lib.hid fun W hW => by
    have hb := hb2.trans (hW.mono (by omega))
    exact ⟨hb, (hW.block _ (by omega)).trans hA0, (hW.block _ (by omega)).trans hA1, hH.below (Nat.le_refl _) hb⟩
  have HNx := Lib.hid hN
  obtain ⟨va, vc, rfl, _⟩ := hH
  rw [hW2] at hP
  have HW := Lib.hid hW2
  have HNo := Lib.hid hno; have HYes := Lib.hid hyes; have HLe := Lib.hid hle
  clear hW2 hb2 hA0 hA1 hN hno hyes hle hsl
  go_enter Tryz.func15, Tryz.ntmps15
  go_wp2_with fail
  refine hP.mono ?_
  rintro e w1 ⟨u, rfl, ho, hb1⟩
  rw [← HW.out] at ho hb1
  have HB1 := Lib.hid hb1
  obtain ⟨k1, k2, k3, _⟩ := HX.out _ hb1
  obtain ⟨_, _, _, f0, f1, f2⟩ := three_facts k3
  have z := three_set k3 (.int .i64 0) (.string ⟨#[]⟩) (.int .i64 0)
  have hz1 := hb1.size
  have HB : Hid (Below w.heap.size w (set3k w1 (w.heap.size + 1) (.int .i64 0) (.string ⟨#[]⟩) (.int .i64 0))) := Lib.hid (k1.grown (grown_set3 _ _ _ _ _) k1.size (fun k hk => by cases hk; omega))
  unfold set3k at z HB
  obtain ⟨z0, z1, z2, _⟩ := three_facts z
  have HZ := Lib.hid (And.intro z0 (And.intro z1 z2))
  have HO := Lib.hid ho
  obtain ⟨ua, uc, rfl⟩ := own_len2 ho
  clear hP hb1 ho k1 k2 k3 z z0 z1 z2
  by_cases hl3 : ¬ L.length = 3
  · obtain rfl := HNo.out hl3
    have i1 : ¬ ((L.length : Int) = 3) := by omega
    clear hl3
    go_wp2_with fail
    obtain ⟨z0, z1, z2⟩ := HZ.out
    refine bodyPost_ret (v := .tuple #[.agg #[.int .i64 0, .string ⟨#[]⟩, .int .i64 0], .bool false]) (by simp [results, Tryz.results15, go_sem, z0, z1, z2]) rfl ?_
    exact ⟨rfl, HB.out⟩
  have hl3 := Classical.not_not.1 hl3
  obtain ⟨a, b, c, rfl⟩ : ∃ a b c, L = [a, b, c] := by
    match L, hl3 with
    | [a, b, c], _ => exact ⟨a, b, c, rfl⟩
  have hKV := HYes.out a b c rfl
  have ha : (ByteArray.mk a.toArray).size ≤ 1048576 := by rw [size_len]; exact HLe.out a (by simp)
  have hb : (ByteArray.mk b.toArray).size ≤ 1048576 := by rw [size_len]; exact HLe.out b (by simp)
  have hc : (ByteArray.mk c.toArray).size ≤ 1048576 := by rw [size_len]; exact HLe.out c (by simp)
  have hN1 := fun W => spec_numread ⟨a.toArray⟩ W (by unfold maxLen; omega)
  have hN2 := fun W => spec_numread ⟨b.toArray⟩ W (by unfold maxLen; omega)
  rw [show (ByteArray.mk a.toArray).data.toList = a from by simp] at hN1
  rw [show (ByteArray.mk b.toArray).data.toList = b from by simp] at hN2
  generalize numR a = n1 at *
  obtain ⟨h, o1⟩ := n1
  generalize numR b = n2 at *
  obtain ⟨m, o2⟩ := n2
  dsimp only at hN1 hN2 hKV
  have hK := fun W hH => spec_keyok hs (.slice va hs.length vc) ⟨(h : Int), ⟨c.toArray⟩, (m : Int)⟩ W hH HNx.out hc
  unfold keyV at hK
  dsimp only at hK
  have hcell : ∀ W, Below w1.heap.size w1 W → ∃ g o, ua = some ⟨g, o, none⟩ ∧ W.cell? ⟨g, o, none⟩ = some (strV a) ∧ W.cell? ⟨g, o + 1, none⟩ = some (strV b) ∧ W.cell? ⟨g, o + 2, none⟩ = some (strV c) := fun W hW => by
    rcases HO.out.2 with ⟨_, h0⟩ | ⟨g, cap, cur, e, _⟩
    · simp at h0
    · injection e with e _ _
      have hlt : g < w1.heap.size := (HO.out.lt g (by rw [e]; rfl)).2
      have q : ∀ j x, ([strV a, strV b, strV c] : List Value)[j]? = some x → W.cell? ⟨g, j, none⟩ = some x := fun j x hx => by
        have := own_cell (h := (by rw [e] at HO; exact HO.out)) hx
        exact (hW.cell (p := ⟨g, j, none⟩) hlt).trans this
      exact ⟨g, 0, e, q 0 _ rfl, q 1 _ rfl, q 2 _ rfl⟩
  have HCell := Lib.hid hcell
  obtain ⟨g, o, rfl, x0, x1, x2⟩ := hcell w1 (Below.refl _ _)
  have HC2 : Hid (∀ W, Below w1.heap.size w1 W → W.cell? ⟨g, o, none⟩ = some (strV a) ∧ W.cell? ⟨g, o + 1, none⟩ = some (strV b) ∧ W.cell? ⟨g, o + 2, none⟩ = some (strV c)) := Lib.hid fun W hW => by
    obtain ⟨g', o', e, q⟩ := HCell.out W hW
    cases e
    exact q
  unfold strV at x0 x1 x2 HC2
  generalize (ByteArray.mk a.toArray) = SA at *
  generalize (ByteArray.mk b.toArray) = SB at *
  generalize (ByteArray.mk c.toArray) = SC at *
  generalize keyB hs ⟨(h : Int), SC, (m : Int)⟩ = ok at *
  have HN1 := Lib.hid hN1; have HN2 := Lib.hid hN2; have HK := Lib.hid hK; have HKV := Lib.hid hKV.symm
  clear hN1 hN2 hK hKV hcell HCell HO HZ HB ha hb hc hl3 x1 x2 f0 f1 f2
  go_wp2_with fail
  refine (HN1.out _).mono ?_
  rintro e w3 ⟨rfl, hb3⟩
  obtain ⟨_, x1, _⟩ := HC2.out _ hb3
  have HB3 := Lib.hid hb3
  clear x0 hb3
  go_wp2_with fail
  refine (HN2.out _).mono ?_
  rintro e w5 ⟨rfl, hb5⟩
  have HB5 := Lib.hid (HB3.out.trans (hb5.mono HB3.out.size))
  obtain ⟨_, _, x2⟩ := HC2.out _ HB5.out
  clear x1 hb5
  obtain ⟨W6, hW6⟩ : ∃ W6, W6 = w5.alloc (.cells #[.int .i64 (h : Int), .string SC, .int .i64 (m : Int)] 27) := ⟨_, rfl⟩
  have hb6 : Below w5.heap.size w5 W6 := by rw [hW6]; exact (Below.refl _ _).alloc (Nat.le_refl _) _
  have hz5 := HB5.out.size
  have hD5 := HB1.out.trans (HB5.out.mono HB1.out.size)
  have hD6 := hD5.trans (hb6.mono hD5.size)
  have hA6 : W6.heap[w5.heap.size]? = some (.cells #[.int .i64 (h : Int), .string SC, .int .i64 (m : Int)] 27 (0, 0)) := by rw [hW6]; exact heap_alloc_new w5 _
  obtain ⟨k1, k2, k3, k4⟩ := HX.out _ hD6
  have k6 := HK.out _ k4
  obtain ⟨t0, _⟩ := one_fact k2
  obtain ⟨y0, y1, y2, _⟩ := three_facts hA6
  obtain ⟨x0', x1', x2', f0, f1', f2'⟩ := three_facts k3
  have z := three_set k3 (.int .i64 0) (.string ⟨#[]⟩) (.int .i64 0)
  have HBn : Hid (Below w.heap.size w (set3k W6 (w.heap.size + 1) (.int .i64 0) (.string ⟨#[]⟩) (.int .i64 0))) := Lib.hid (k1.grown (grown_set3 _ _ _ _ _) k1.size (fun k hk => by cases hk; omega))
  unfold set3k at z HBn
  obtain ⟨z0, z1, z2, _⟩ := three_facts z
  rw [hW6] at t0 y0 y1 y2 x0' x1' x2' f0 f1' f2' z0 z1 z2 k6 HBn
  have HZ := Lib.hid (And.intro z0 (And.intro z1 z2))
  have HW6 := Lib.hid hW6
  have HD6 := Lib.hid hD6
  have HA6 := Lib.hid hA6
  have HK6 := Lib.hid k6
  have hz6 : W6.heap.size = w5.heap.size + 1 := by rw [hW6]; simp
  have HF := Lib.hid (And.intro f0 (And.intro f1' (And.intro f2' (And.intro x0' (And.intro x1' x2')))))
  clear hW6 hb6 hD5 hD6 hA6 k1 k2 k3 k4 k6 z z0 z1 z2 f0 f1' f2' x0' x1' x2'
  cases o1
  · obtain ⟨f0, f1', f2', x0', x1', x2'⟩ := HF.out
    obtain rfl : KV = (noKy, false) := by rw [← HKV.out]; simp
    go_wp2_with fail
    obtain ⟨z0, z1, z2⟩ := HZ.out
    refine bodyPost_ret (v := .tuple #[.agg #[.int .i64 0, .string ⟨#[]⟩, .int .i64 0], .bool false]) (by simp [results, Tryz.results15, go_sem, z0, z1, z2]) rfl ?_
    exact ⟨rfl, HBn.out⟩
  cases o2
  · obtain ⟨f0, f1', f2', x0', x1', x2'⟩ := HF.out
    obtain rfl : KV = (noKy, false) := by rw [← HKV.out]; simp
    go_wp2_with fail
    obtain ⟨z0, z1, z2⟩ := HZ.out
    refine bodyPost_ret (v := .tuple #[.agg #[.int .i64 0, .string ⟨#[]⟩, .int .i64 0], .bool false]) (by simp [results, Tryz.results15, go_sem, z0, z1, z2]) rfl ?_
    exact ⟨rfl, HBn.out⟩
  go_wp2_with fail
  refine HK6.out.mono ?_
  rintro e w7 ⟨rfl, hb7⟩
  rw [← HW6.out] at hb7
  have hD7 := HD6.out.trans (hb7.mono HD6.out.size)
  have hA7 := (hb7.block _ (by omega)).trans HA6.out
  obtain ⟨k1, k2, k3, _⟩ := HX.out _ hD7
  clear t0 y0 y1 y2 HZ HBn HF x2
  obtain ⟨y0, y1, y2, _⟩ := three_facts hA7
  obtain ⟨_, _, _, f0, f1', f2'⟩ := three_facts k3
  have hz7 := hb7.size
  cases ok
  · have z := three_set k3 (.int .i64 0) (.string ⟨#[]⟩) (.int .i64 0)
    have HB : Hid (Below w.heap.size w (set3k w7 (w.heap.size + 1) (.int .i64 0) (.string ⟨#[]⟩) (.int .i64 0))) := Lib.hid (k1.grown (grown_set3 _ _ _ _ _) k1.size (fun k hk => by cases hk; omega))
    unfold set3k at z HB
    obtain ⟨z0, z1, z2, _⟩ := three_facts z
    have HZ := Lib.hid (And.intro z0 (And.intro z1 z2))
    clear k1 k2 k3 z z0 z1 z2 hb7 hD7 hA7
    obtain rfl : KV = (noKy, false) := by rw [← HKV.out]; simp
    go_wp2_with fail
    obtain ⟨z0, z1, z2⟩ := HZ.out
    refine bodyPost_ret (v := .tuple #[.agg #[.int .i64 0, .string ⟨#[]⟩, .int .i64 0], .bool false]) (by simp [results, Tryz.results15, go_sem, z0, z1, z2]) rfl ?_
    exact ⟨rfl, HB.out⟩
  · have z := three_set k3 (.int .i64 (h : Int)) (.string SC) (.int .i64 (m : Int))
    have HB : Hid (Below w.heap.size w (set3k w7 (w.heap.size + 1) (.int .i64 (h : Int)) (.string SC) (.int .i64 (m : Int)))) := Lib.hid (k1.grown (grown_set3 _ _ _ _ _) k1.size (fun k hk => by cases hk; omega))
    unfold set3k at z HB
    obtain ⟨z0, z1, z2, _⟩ := three_facts z
    have HZ := Lib.hid (And.intro z0 (And.intro z1 z2))
    clear k1 k2 k3 z z0 z1 z2 hb7 hD7 hA7
    obtain rfl : KV = (⟨(h : Int), SC, (m : Int)⟩, true) := by rw [← HKV.out]; simp
    go_wp2_with fail
    obtain ⟨z0, z1, z2⟩ := HZ.out
    refine bodyPost_ret (v := .tuple #[.agg #[.int .i64 (h : Int), .string SC, .int .i64 (m : Int)], .bool true]) (by simp [results, Tryz.results15, go_sem, z0, z1, z2]) rfl ?_
    exact ⟨rfl, HB.out⟩
end Go.Proofs.YtiepobifbkleaaaGreatDoor
