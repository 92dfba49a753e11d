/- The laws' own helpers over storage: sized, behind something else. -/
import Derived.Test.YtbhnjnoblkfckaaGreatDoorGZ20
import Derived.Test.YtbhnjnoblkfckaaGreatDoorGZ21
namespace Go.Proofs.YtbhnjnoblkfckaaGreatDoor
open Go.RowKit Go.Maps

set_option maxRecDepth 100000 in
set_option maxHeartbeats 1600000 in
theorem sz_entriesL (v : Value) (L : List En) (s : Int) (hs0 : 0 ≤ s) (hs1 : s ≤ 1048576) (w : World) (hR : ERow w v L) (hok : EnsOk maxLen L) :
    Calls Tryz.prog 37 #[v, .int .i64 s] w fun e w' => (∃ r : Int, e = .returned (.int .i64 r) ∧ (r < 0 ∨ (0 ≤ r ∧ EnsOk 1048576 L ∧ L.length ≤ 1048576))) ∧ Below w.heap.size w w' := by
  obtain ⟨a, c, rfl, h1, h2, h3⟩ := hR
  unfold maxLen at h2
  have H3 := Lib.hid h3; have HOK := Lib.hid hok
  clear h3 hok
  by_cases hbig : s < (L.length : Int)
  · go_enter Tryz.func37, Tryz.ntmps37
    go_wp2
    go_ret
    exact ⟨⟨-1, rfl, .inl (by omega)⟩, Below.refl _ _⟩
  · go_enter Tryz.func37, Tryz.ntmps37
    go_wp2
    go_loopw [1, 5] (fun x i wr => ∃ (k : Nat) (r : Int), k ≤ L.length ∧ i = .int .i64 k ∧ x = .int .i64 r ∧ 0 ≤ r ∧ r ≤ 1048576 ∧ Hid (∀ (j : Nat) (f : En), j < k → L[j]? = some f → EnOk 1048576 f) ∧ Below w.heap.size w wr) (fun _ i _ => L.length - (intOf i).toNat)
    case atStart => exact ⟨0, _, Nat.zero_le _, rfl, rfl, by omega, by omega, Lib.hid (fun j f hj => by omega), Below.refl _ _⟩
    case round =>
      obtain ⟨k, r, hk, rfl, rfl, hr0, hr1, hall, hnx⟩ := hrel
      by_cases hlt : k < L.length
      · obtain ⟨e, hg⟩ : ∃ e, L[k]? = some e := ⟨_, List.getElem?_eq_getElem hlt⟩
        obtain ⟨b1, o1, rfl, hb1, he⟩ := H3.out k e hg
        obtain ⟨k0, k1, k2, k3, k4, k5, k6, k7, k8⟩ := he.keep (hnx.block b1 hb1)
        have hc := sz_entry e r hr0 hr1 (HOK.out e (List.mem_of_getElem? hg))
        unfold enV at hc
        have HK := Lib.hid hg; have HC := Lib.hid hc
        clear hc hg he
        go_wp2_with fail
        refine (HC.out _).mono ?_
        rintro e' w1 ⟨⟨q, rfl, hz⟩, hb1'⟩
        have hnx1 := hnx.trans (hb1'.mono hnx.size)
        rcases hz with hq | ⟨q1, q2, q3⟩
        · go_wp2
          go_ret
          exact ⟨⟨-1, rfl, .inl (by omega)⟩, hnx1⟩
        · have HQ := Lib.hid q3
          clear q3
          have i1 : ¬ q < 0 := by omega
          go_wp2
          go_roundw
          case rel =>
            refine ⟨k + 1, q, by omega, by go_num, rfl, q1, by omega, Lib.hid (fun j f hj hjf => ?_), hnx1⟩
            rcases Nat.lt_or_ge j k with h | h
            · exact hall.out j f h hjf
            · have : j = k := by omega
              subst this
              rw [HK.out] at hjf
              cases hjf
              exact HQ.out
          case measure => simp [intOf]; omega
      · have hkn : k = L.length := by omega
        subst hkn
        go_wp2
        go_ret
        refine ⟨⟨r, rfl, .inr ⟨hr0, fun f hf => ?_, by omega⟩⟩, hnx⟩
        obtain ⟨j, hj, hjf⟩ := List.getElem_of_mem hf
        exact hall.out j f hj (by rw [List.getElem?_eq_getElem hj, hjf])

set_option maxRecDepth 100000 in
set_option maxHeartbeats 800000 in
theorem sz_storeL (v : Value) (L : List En) (s : Int) (hs0 : 0 ≤ s) (hs1 : s ≤ 1048576) (w : World) (hR : ERow w v L) (hok : EnsOk maxLen L) :
    Calls Tryz.prog 11 #[.agg #[v], .int .i64 s] w fun e w' => (∃ q : Int, e = .returned (.int .i64 q) ∧ (q < 0 ∨ (0 ≤ q ∧ EnsOk 1048576 L ∧ L.length ≤ 1048576))) ∧ Below w.heap.size w w' := by
  have hbA : Below w.heap.size w (w.alloc (.cells #[v] 27)) := (Below.refl _ _).alloc (Nat.le_refl _) _
  have hC := sz_entriesL v L s hs0 hs1 _ (hR.below (Nat.le_refl _) hbA) hok
  obtain ⟨a, c, rfl, _⟩ := hR
  have HB := Lib.hid hbA
  clear hbA hok
  go_enter Tryz.func11, Tryz.ntmps11
  go_wp2_with fail
  refine hC.mono ?_
  rintro e w1 ⟨⟨q, rfl, hq⟩, hb1⟩
  have HB1 := Lib.hid (HB.out.trans (hb1.mono (by simp)))
  clear hC hb1
  rcases hq with hq | ⟨q0, q1, q2⟩
  · go_wp2
    go_ret
    exact ⟨⟨-1, rfl, .inl (by omega)⟩, HB1.out⟩
  · have i1 : ¬ q < 0 := by omega
    have HQ := Lib.hid q1
    clear q1
    go_wp2
    go_ret
    exact ⟨⟨q, rfl, .inr ⟨q0, HQ.out, q2⟩⟩, HB1.out⟩
end Go.Proofs.YtbhnjnoblkfckaaGreatDoor
