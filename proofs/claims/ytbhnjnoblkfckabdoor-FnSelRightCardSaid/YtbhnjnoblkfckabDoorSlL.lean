/- Walks: a seal, by the program and by the specification. -/
import Derived.Test.YtbhnjnoblkfckabDoorSlK
namespace Go.Proofs.YtbhnjnoblkfckabDoor
open Go.RowKit

set_option maxHeartbeats 400000 in
theorem parts_any (key : Int) (s : Sl) (w : World) :
    Calls Tryd.prog 17 #[.int .i64 key, slV s] w fun e w' => e = .returned (.func (.func 28) #[] #[.pointer (some ⟨w.heap.size, 0, none⟩), .pointer (some ⟨w.heap.size + 1, 0, none⟩)]) ∧
      w' = (w.alloc (.cells #[.int .i64 key] 3)).alloc (.cells #[.string s.path, .bool s.under, .int .i64 s.til, .int .i64 s.nonce, .int .i64 s.code] 29) := by
  have hmf : ∀ (fn : Fn) (first cap : Array Value) (w : World), (Instr.makeFunc fn first cap).run Tryd.prog w = .ok (.func fn first cap) w := fun _ _ _ _ => rfl
  go_enter Tryd.func17, Tryd.ntmps17
  go_wp2
  go_ret
  exact ⟨rfl, rfl⟩
theorem seal_bd {key : Int} {p : ByteArray} {t n : Int} (h : sealB key p t n = true) : (1 ≤ key ∧ key ≤ 9999) ∧ p.size ≤ 40 ∧ (0 ≤ t ∧ t ≤ 999999) ∧ (0 ≤ n ∧ n ≤ 999999) := by
  unfold sealB at h
  simp only [Bool.and_eq_true, decide_eq_true_eq] at h
  exact ⟨h.1.1.1, h.1.1.2, h.1.2, h.2⟩

set_option maxHeartbeats 1600000 in
theorem impl_selof (key : Int) (p : ByteArray) (u : Bool) (t n : Int) (w : World) (hp : p.size ≤ maxLen) :
    Calls Tryd.prog 6 #[.int .i64 key, .string p, .bool u, .int .i64 t, .int .i64 n] w fun e w' => e = .returned (.int .i64 (selS key p u t n)) ∧ Below w.heap.size w w' := by
  obtain ⟨wA, hwA⟩ : ∃ wA, wA = w.alloc (.cells #[.string p, .bool u, .int .i64 t, .int .i64 n, .int .i64 0] 29) := ⟨_, rfl⟩
  have hsA : wA.heap.size = w.heap.size + 1 := by rw [hwA]; simp
  have hbA : Below w.heap.size w wA := by rw [hwA]; exact (Below.refl _ _).alloc (Nat.le_refl _) _
  have hH : wA.heap[w.heap.size]? = some (.cells #[.string p, .bool u, .int .i64 t, .int .i64 n, .int .i64 0] 29 (0, 0)) := by rw [hwA]; exact heap_alloc_new w _
  have hS := impl_sealable key ⟨p, u, t, n, 0⟩ wA hp
  have hP := fun W => parts_any key ⟨p, u, t, n, 0⟩ W
  unfold slV at hS hP
  dsimp only at hS hP
  obtain ⟨p0, p1, p2, p3, p4⟩ := sl_facts hH
  rw [hwA] at p0 p1 p2 p3 p4
  have HW := Lib.hid hwA
  have HH := Lib.hid hH
  clear hwA hH
  cases hB : sealB key p t n with
  | false =>
    have hV : selS key p u t n = 0 := by unfold selS; rw [hB]; rfl
    rw [hV]
    rw [hB] at hS
    have HbA := Lib.hid hbA
    clear hB hV hbA
    go_enter Tryd.func6, Tryd.ntmps6
    go_wp2_with fail
    rw [← HW.out]
    refine hS.mono ?_
    rintro e w1 ⟨rfl, hb1⟩
    have HB := Lib.hid (HbA.out.trans (hb1.mono HbA.out.size))
    clear hS hb1 p0 p1 p2 p3 p4
    go_wp2
    go_ret
    exact ⟨rfl, HB.out⟩
  | true =>
    have hV : selS key p u t n = sumS (partS key p.data.toList u t n) := by unfold selS; rw [if_pos hB]
    rw [hV]
    obtain ⟨⟨d1, d2⟩, d3, d4, d5⟩ := seal_bd hB
    rw [hB] at hS
    have hF := fun W kb sb h1 h2 h3 => fold_seal key ⟨p, u, t, n, 0⟩ kb sb W d1 d2 d3 d4 d5 h1 h2 h3
    dsimp only at hF
    generalize sumS (partS key p.data.toList u t n) = V at *
    have HbA := Lib.hid hbA
    clear hB hV hbA d1 d2 d3 d4 d5
    go_enter Tryd.func6, Tryd.ntmps6
    go_wp2_with fail
    rw [← HW.out]
    refine hS.mono ?_
    rintro e w1 ⟨rfl, hb1⟩
    clear hS p0 p1 p2 p3 p4
    obtain ⟨p0, p1, p2, p3, p4⟩ := sl_facts ((hb1.block w.heap.size (by omega)).trans HH.out)
    have hB1 := HbA.out.trans (hb1.mono HbA.out.size)
    have HB := Lib.hid hB1
    have hz1 := hB1.size
    clear hb1 hB1
    go_wp2_with fail
    refine (hP _).mono ?_
    rintro e w2 ⟨rfl, hw2⟩
    have k1 : w2.cell? ⟨w1.heap.size, 0, none⟩ = some (.int .i64 key) := by
      have h : w2.heap[w1.heap.size]? = some (.cells #[.int .i64 key] 3 (0, 0)) := by rw [hw2]; exact (Below.heap_alloc _ _ _ (by simp)).trans (heap_alloc_new w1 _)
      simp [World.cell?, h]
    have k2 : w2.heap[w1.heap.size + 1]? = some (.cells #[.string p, .bool u, .int .i64 t, .int .i64 n, .int .i64 0] 29 (0, 0)) := by
      rw [hw2]
      have := heap_alloc_new (w1.alloc (.cells #[.int .i64 key] 3)) (.cells #[.string p, .bool u, .int .i64 t, .int .i64 n, .int .i64 0] 29)
      rw [World.size_alloc] at this
      exact this
    have hB2 : Below w.heap.size w w2 := by rw [hw2]; exact (HB.out.alloc hz1 _).alloc (by simp; omega) _
    have hz2 : w2.heap.size = w1.heap.size + 2 := by rw [hw2]; simp
    have hFF := hF w2 _ _ k1 (by omega) k2
    clear hP hF hw2 k1 k2 p0 p1 p2 p3 p4
    go_wp2_with fail
    refine hFF.mono ?_
    rintro e w3 ⟨rfl, hb3⟩
    have HB3 := Lib.hid (hB2.trans (hb3.mono hB2.size))
    clear hFF hb3 hB2
    go_wp2
    go_ret
    exact ⟨rfl, HB3.out⟩

set_option maxHeartbeats 400000 in
theorem sl_in (n lo hi : Int) (w : World) :
    Calls Tryd.prog 19 #[.int .i64 n, .int .i64 lo, .int .i64 hi] w fun e w' => e = .returned (.bool (decide (lo ≤ n ∧ n ≤ hi))) ∧ w = w' := by
  by_cases h1 : lo ≤ n
  · by_cases h2 : n ≤ hi
    all_goals
      go_enter Tryd.func19, Tryd.ntmps19
      go_wp2
      go_ret
      exact ⟨by simp [h1, h2], rfl⟩
  · go_enter Tryd.func19, Tryd.ntmps19
    go_wp2
    go_ret
    exact ⟨by simp; omega, rfl⟩
set_option maxHeartbeats 400000 in
theorem spec_mix (n k : Int) (w : World) (h0 : 0 ≤ n) (h1 : n < 65521) (h2 : 0 ≤ k) (h3 : k ≤ 1000000) :
    Calls Tryd.prog 20 #[.int .i64 n, .int .i64 k] w fun e w' => e = .returned (.int .i64 (mixS n k)) ∧ w = w' := by
  unfold mixS
  go_enter Tryd.func20, Tryd.ntmps20
  go_wp2
  go_ret
  exact ⟨rfl, rfl⟩

set_option maxHeartbeats 3200000 in
theorem spec_selof (key : Int) (p : ByteArray) (u : Bool) (t n : Int) (w : World) (hp : p.size ≤ maxLen) :
    Calls Tryd.prog 7 #[.int .i64 key, .string p, .bool u, .int .i64 t, .int .i64 n] w fun e w' => e = .returned (.int .i64 (selS key p u t n)) ∧ w = w' := by
  have hk := fun W => sl_in key 1 9999 W
  have ht := fun W => sl_in t 0 999999 W
  have hn := fun W => sl_in n 0 999999 W
  unfold maxLen at hp
  cases hB : sealB key p t n with
  | false =>
    have hV : selS key p u t n = 0 := by unfold selS; rw [hB]; rfl
    rw [hV]
    unfold sealB at hB
    have e0 : (decide (1 ≤ key) && decide (key ≤ 9999)) = decide (1 ≤ key ∧ key ≤ 9999) := by simp
    rw [e0] at hB
    clear hV e0
    generalize decide (1 ≤ key ∧ key ≤ 9999) = B1 at *
    generalize decide (0 ≤ t ∧ t ≤ 999999) = B2 at *
    generalize decide (0 ≤ n ∧ n ≤ 999999) = B3 at *
    cases B1
    · clear hB
      go_enter Tryd.func7, Tryd.ntmps7
      go_wp2_with fail
      refine (hk _).mono ?_
      rintro e w' ⟨rfl, rfl⟩
      go_wp2
      go_ret
      exact ⟨rfl, rfl⟩
    cases B2
    · clear hB
      go_enter Tryd.func7, Tryd.ntmps7
      go_wp2_with fail
      refine (hk _).mono ?_
      rintro e w' ⟨rfl, rfl⟩
      go_wp2_with fail
      refine (ht _).mono ?_
      rintro e w' ⟨rfl, rfl⟩
      go_wp2
      go_ret
      exact ⟨rfl, rfl⟩
    cases B3
    · clear hB
      go_enter Tryd.func7, Tryd.ntmps7
      go_wp2_with fail
      refine (hk _).mono ?_
      rintro e w' ⟨rfl, rfl⟩
      go_wp2_with fail
      refine (ht _).mono ?_
      rintro e w' ⟨rfl, rfl⟩
      go_wp2_with fail
      refine (hn _).mono ?_
      rintro e w' ⟨rfl, rfl⟩
      go_wp2
      go_ret
      exact ⟨rfl, rfl⟩
    have hs : ¬ p.size ≤ 40 := by simpa using hB
    clear hB
    go_enter Tryd.func7, Tryd.ntmps7
    go_wp2_with fail
    refine (hk _).mono ?_
    rintro e w' ⟨rfl, rfl⟩
    go_wp2_with fail
    refine (ht _).mono ?_
    rintro e w' ⟨rfl, rfl⟩
    go_wp2_with fail
    refine (hn _).mono ?_
    rintro e w' ⟨rfl, rfl⟩
    go_wp2
    go_ret
    exact ⟨rfl, rfl⟩
  | true =>
    have hV : selS key p u t n = sumS (partS key p.data.toList u t n) := by unfold selS; rw [if_pos hB]
    rw [hV]
    obtain ⟨⟨d1, d2⟩, d3, d4, d5⟩ := seal_bd hB
    rw [decide_eq_true ⟨d1, d2⟩] at hk
    rw [decide_eq_true d4] at ht
    rw [decide_eq_true d5] at hn
    have hpl : p.data.toList.length ≤ 40 := by rw [← size_len]; exact d3
    have hlen : (partS key p.data.toList u t n).length = p.size + 7 := by rw [parts_len, size_len]
    have hst : ∀ j, j < p.size + 7 → sumS ((partS key p.data.toList u t n).take (j + 1)) = mixS (sumS ((partS key p.data.toList u t n).take j)) ((partS key p.data.toList u t n).getD j 0) := fun j hj => sumS_take (by rw [hlen]; exact hj)
    have hmx : ∀ (j : Nat) (x : Int) (W : World), j < p.size + 7 → (partS key p.data.toList u t n).getD j 0 = x → Calls Tryd.prog 20 #[.int .i64 (sumS ((partS key p.data.toList u t n).take j)), .int .i64 x] W fun e w' => e = .returned (.int .i64 (sumS ((partS key p.data.toList u t n).take (j + 1)))) ∧ W = w' := fun j x W hj hx => by
      have hb := parts_bd (u := u) d1 d2 hpl d4 d5 j
      rw [hst j hj, hx]
      rw [hx] at hb
      exact spec_mix _ _ W (sumS_lt _).1 (sumS_lt _).2 hb.1 hb.2
    have hmid : ∀ (k : Nat) (h : k < p.size), (partS key p.data.toList u t n).getD (k + 2) 0 = ((p[k]).toNat : Int) := fun k h => parts_mid key u t n h
    have hend : ∀ j, (partS key p.data.toList u t n).getD (p.size + 2 + j) 0 = (tailS key p.data.toList u t n).getD j 0 := fun j => by rw [size_len]; exact parts_end key p.data.toList u t n j
    have x0 := hmx 0 key
    have x1 := hmx 1 (key / 3)
    have y0 := fun W => hmx (p.size + 2) (p.size : Int) W (by omega) (by rw [hend 0, size_len]; rfl)
    have y1 := fun W => hmx (p.size + 3) (numS u) W (by omega) (hend 1)
    have y2 := fun W => hmx (p.size + 4) t W (by omega) (hend 2)
    have y3 := fun W => hmx (p.size + 5) n W (by omega) (hend 3)
    have y4 := fun W => hmx (p.size + 6) key W (by omega) (hend 4)
    have hall : (partS key p.data.toList u t n).take (p.size + 7) = partS key p.data.toList u t n := List.take_of_length_le (by rw [hlen]; exact Nat.le_refl _)
    have z0 : sumS ((partS key p.data.toList u t n).take 0) = 7 := rfl
    have x0 := fun W => x0 W (by omega) (parts_0 key p.data.toList u t n)
    have x1 := fun W => x1 W (by omega) (parts_1 key p.data.toList u t n)
    have y4 := y4
    rw [hall] at y4
    rw [z0] at x0
    generalize partS key p.data.toList u t n = L at *
    have HM := Lib.hid hmx; have HMid := Lib.hid hmid
    clear hB hV hst hmid hend hall z0 hlen hpl hmx
    obtain ⟨f1, f2⟩ : ∃ f : Nat → Int, ∀ j, f j = sumS (L.take j) := ⟨_, fun _ => rfl⟩
    go_enter Tryd.func7, Tryd.ntmps7
    go_wp2_with fail
    refine (hk _).mono ?_
    rintro e w' ⟨rfl, rfl⟩
    go_wp2_with fail
    refine (ht _).mono ?_
    rintro e w' ⟨rfl, rfl⟩
    go_wp2_with fail
    refine (hn _).mono ?_
    rintro e w' ⟨rfl, rfl⟩
    clear hk ht hn
    go_wp2_with fail
    refine (x0 _).mono ?_
    rintro e w' ⟨rfl, rfl⟩
    go_wp2_with fail
    refine (x1 _).mono ?_
    rintro e w' ⟨rfl, rfl⟩
    clear x0 x1
    go_wp2_with fail
    go_loop [11, 12] (fun a i => ∃ k : Nat, k ≤ p.size ∧ i = .int .i64 k ∧ a = .int .i64 (sumS (L.take (k + 2)))) (fun _ i => p.size - (intOf i).toNat)
    case atStart => exact ⟨0, Nat.zero_le _, rfl, rfl⟩
    case round =>
      obtain ⟨k, hkk, rfl, rfl⟩ := hrel
      by_cases hlt : k < p.size
      · have hC := HM.out (k + 2) _ w (by omega) (HMid.out k hlt)
        have h8 := (p[k]).toNat_lt
        go_wp2_with fail
        refine hC.mono ?_
        rintro e w' ⟨rfl, rfl⟩
        go_wp2
        go_round
        case rel => exact ⟨k + 1, by omega, by go_num, rfl⟩
        case measure => simp [intOf]; omega
      · obtain rfl : k = p.size := by omega
        go_wp2_with fail
        refine (y0 _).mono ?_
        rintro e w' ⟨rfl, rfl⟩
        cases u
        all_goals
          go_wp2_with fail
          refine (y1 _).mono ?_
          rintro e w' ⟨rfl, rfl⟩
          go_wp2_with fail
          refine (y2 _).mono ?_
          rintro e w' ⟨rfl, rfl⟩
          go_wp2_with fail
          refine (y3 _).mono ?_
          rintro e w' ⟨rfl, rfl⟩
          go_wp2_with fail
          refine (y4 _).mono ?_
          rintro e w' ⟨rfl, rfl⟩
          go_wp2
          go_ret
          exact ⟨rfl, rfl⟩
end Go.Proofs.YtbhnjnoblkfckabDoor
