/- The laws' own helpers over houses: sizes, copies, equality. -/
import Derived.Test.YtojmfcpkmknleaaDoorCfgI4
import Derived.Test.YtojmfcpkmknleaaDoorRegR
import Derived.BigQuiet
import Derived.Deep.RegionWith
namespace Go.Proofs.YtojmfcpkmknleaaDoor
open Go.RowKit Go.Maps

set_option maxHeartbeats 800000 in
theorem sz_strs (v : Value) (L : List ByteArray) (r : Int) (hr0 : 0 ≤ r) (hr1 : r ≤ 1048576) (w : World) (hS : SRow w v L) (hN : NOk L maxLen) :
    Calls Tryd.prog 64 #[v, .int .i64 r] w fun e w' => (∃ q : Int, e = .returned (.int .i64 q) ∧ (q < 0 ∨ (0 ≤ q ∧ q ≤ 1048576 ∧ NOk L 1048576 ∧ L.length ≤ 1048576))) ∧ w = w' := by
  obtain ⟨a, c, rfl, h1, h2, h3⟩ := hS
  unfold maxLen at h2 hN
  have H3 := Lib.hid h3; have HN := Lib.hid hN
  clear h3 hN
  by_cases hbig : r < L.length
  · go_enter Tryd.func64, Tryd.ntmps64
    go_wp2
    go_ret
    exact ⟨⟨-1, rfl, .inl (by omega)⟩, rfl⟩
  · go_enter Tryd.func64, Tryd.ntmps64
    go_wp2
    go_loopw [1, 5] (fun x i wr => ∃ (k : Nat) (q : Int), k ≤ L.length ∧ i = .int .i64 k ∧ x = .int .i64 q ∧ 0 ≤ q ∧ q ≤ 1048576 ∧ Hid (∀ (j : Nat) (s : ByteArray), j < k → L[j]? = some s → s.size ≤ 1048576) ∧ wr = w) (fun _ i _ => L.length - (intOf i).toNat)
    case atStart => exact ⟨0, _, Nat.zero_le _, rfl, rfl, by omega, by omega, Lib.hid (fun j f hj => by omega), rfl⟩
    case round =>
      obtain ⟨k, q, hk, rfl, rfl, hq0, hq1, hall, rfl⟩ := hrel
      by_cases hlt : k < L.length
      · obtain ⟨s, hg⟩ : ∃ s, L[k]? = some s := ⟨_, List.getElem?_eq_getElem hlt⟩
        obtain ⟨b, o, ea, _, c1⟩ := H3.out k s hg
        subst ea
        have hs := HN.out s (List.mem_of_getElem? hg)
        have HG := Lib.hid hg
        clear hg
        by_cases hle : (s.size : Int) ≤ q
        · have i1 : ¬ (q - (s.size : Int) < 0) := by omega
          go_wp2
          go_roundw
          case rel =>
            refine ⟨k + 1, q - (s.size : Int), by omega, by go_num, by go_num, by omega, by omega, Lib.hid (fun j t hj ht => ?_), trivial⟩
            by_cases e : j = k
            · subst e; rw [HG.out] at ht; cases ht; omega
            · exact hall.out j t (by omega) ht
          case measure => simp [intOf]; omega
        · have i1 : q - (s.size : Int) < 0 := by omega
          go_wp2
          go_ret
          exact ⟨⟨-1, rfl, .inl (by omega)⟩, rfl⟩
      · have hkl : k = L.length := by omega
        go_wp2
        go_ret
        exact ⟨⟨q, rfl, .inr ⟨hq0, hq1, fun s hs => by
          obtain ⟨j, hj, rfl⟩ := List.mem_iff_getElem.1 hs
          exact hall.out j _ (by omega) (List.getElem?_eq_getElem hj), by omega⟩⟩, rfl⟩

set_option maxHeartbeats 800000 in
theorem sz_house (h : Hs) (u : Value) (r : Int) (hr0 : 0 ≤ r) (hr1 : r ≤ 1048576) (w : World) (hS : SRow w u h.names) (hN : NOk h.names maxLen) :
    Calls Tryd.prog 52 #[.agg #[u, .int .i64 h.key, .int .i64 h.maxN, .int .i64 h.maxB], .int .i64 r] w fun e w' => (∃ q : Int, e = .returned (.int .i64 q) ∧ (q < 0 ∨ (0 ≤ q ∧ q ≤ 1048576 ∧ NOk h.names 1048576 ∧ h.names.length ≤ 1048576))) ∧ Below w.heap.size w w' := by
  have hbA : Below w.heap.size w (w.alloc (.cells #[u, .int .i64 h.key, .int .i64 h.maxN, .int .i64 h.maxB] 88)) := (Below.refl _ _).alloc (Nat.le_refl _) _
  have hC := sz_strs u h.names r hr0 hr1 _ (hS.below (Nat.le_refl _) hbA) hN
  obtain ⟨sa, sc, rfl, _⟩ := srow_get hS
  have HB := Lib.hid hbA
  clear hbA hN
  go_enter Tryd.func52, Tryd.ntmps52
  go_wp2_with fail
  refine hC.mono ?_
  rintro e w1 ⟨⟨q, rfl, hq⟩, rfl⟩
  clear hC
  rcases hq with hq | ⟨q0, q1, q2, q3⟩
  · go_wp2
    go_ret
    exact ⟨⟨-1, rfl, .inl (by omega)⟩, HB.out⟩
  · have i1 : ¬ q < 0 := by omega
    go_wp2
    go_ret
    exact ⟨⟨q, rfl, .inr ⟨q0, q1, q2, q3⟩⟩, HB.out⟩

set_option maxHeartbeats 1600000 in
theorem sz_houses (v : Value) (hs : List Hs) (w : World) (hH : HRow w v hs) (hN : HOks hs maxLen) :
    Calls Tryd.prog 37 #[v, .int .i64 1048576] w fun e w' => (∃ q : Int, e = .returned (.int .i64 q) ∧ (q < 0 ∨ (0 ≤ q ∧ HOks hs 1048576 ∧ hs.length ≤ 1048576 ∧ ∀ h ∈ hs, h.names.length ≤ 1048576))) ∧ Below w.heap.size w w' := by
  have hH0 := hH
  obtain ⟨a, c, rfl, h1, h2, _⟩ := hH0
  unfold maxLen at h2
  have HH := Lib.hid hH; have HN := Lib.hid hN
  clear hH hN
  by_cases hbig : 1048576 < hs.length
  · go_enter Tryd.func37, Tryd.ntmps37
    go_wp2
    go_ret
    exact ⟨⟨-1, rfl, .inl (by omega)⟩, Below.refl _ _⟩
  · go_enter Tryd.func37, Tryd.ntmps37
    go_wp2
    go_loopw [1, 5] (fun x i wr => ∃ (k : Nat) (q : Int), k ≤ hs.length ∧ i = .int .i64 k ∧ x = .int .i64 q ∧ 0 ≤ q ∧ q ≤ 1048576 ∧ Hid (∀ (j : Nat) (h : Hs), j < k → hs[j]? = some h → NOk h.names 1048576 ∧ h.names.length ≤ 1048576) ∧ Below w.heap.size w wr) (fun _ i _ => hs.length - (intOf i).toNat)
    case atStart => exact ⟨0, _, Nat.zero_le _, rfl, rfl, by omega, by omega, Lib.hid (fun j f hj => by omega), Below.refl _ _⟩
    case round =>
      obtain ⟨k, q, hk, rfl, rfl, hq0, hq1, hall, hnx⟩ := hrel
      by_cases hlt : k < hs.length
      · obtain ⟨h, hg⟩ : ∃ h, hs[k]? = some h := ⟨_, List.getElem?_eq_getElem hlt⟩
        obtain ⟨_, _, e1, _, _, hh⟩ := HH.out.below (Nat.le_refl _) hnx
        obtain ⟨b, o, u, ea, hb, c1, hS, c2, c3, c4⟩ := hh k h hg
        have ha : a = some ⟨b, o, none⟩ := by injection e1 with e1 _ _; rw [e1, ea]
        subst ha
        have hC := sz_house h u q hq0 hq1 wr hS (HN.out h (List.mem_of_getElem? hg))
        have HG := Lib.hid hg
        have HNx := Lib.hid hnx
        clear hS hh e1 hg ea hnx
        go_wp2_with fail
        refine hC.mono ?_
        rintro e w2 ⟨⟨q', rfl, hq⟩, hb2⟩
        have HB := Lib.hid (HNx.out.trans (hb2.mono HNx.out.size))
        clear hC hb2 c1 c2 c3 c4
        rcases hq with hq | ⟨q0, q1, q2, q3⟩
        · go_wp2
          go_ret
          exact ⟨⟨-1, rfl, .inl (by omega)⟩, HB.out⟩
        · have i1 : ¬ q' < 0 := by omega
          go_wp2
          go_roundw
          case rel =>
            refine ⟨k + 1, q', by omega, by go_num, rfl, q0, q1, Lib.hid (fun j t hj ht => ?_), HB.out⟩
            by_cases e : j = k
            · subst e; rw [HG.out] at ht; cases ht; exact ⟨q2, q3⟩
            · exact hall.out j t (by omega) ht
          case measure => simp [intOf]; omega
      · have hkl : k = hs.length := by omega
        have HB := Lib.hid hnx
        clear hnx
        go_wp2
        go_ret
        have hall' : ∀ h ∈ hs, NOk h.names 1048576 ∧ h.names.length ≤ 1048576 := fun h hh => by
          obtain ⟨j, hj, rfl⟩ := List.mem_iff_getElem.1 hh
          exact hall.out j _ (by omega) (List.getElem?_eq_getElem hj)
        exact ⟨⟨q, rfl, .inr ⟨hq0, fun h hh => (hall' h hh).1, by omega, fun h hh => (hall' h hh).2⟩⟩, HB.out⟩

set_option maxHeartbeats 800000 in
theorem sz_cfg (v : Value) (hs : List Hs) (w : World) (hH : HRow w v hs) (hN : HOks hs maxLen) :
    Calls Tryd.prog 19 #[.agg #[v], .int .i64 1048576] w fun e w' => (∃ q : Int, e = .returned (.int .i64 q) ∧ (q < 0 ∨ (0 ≤ q ∧ HOks hs 1048576 ∧ hs.length ≤ 1048576 ∧ ∀ h ∈ hs, h.names.length ≤ 1048576))) ∧ Below w.heap.size w w' := by
  have hbA : Below w.heap.size w (w.alloc (.cells #[v] 41)) := (Below.refl _ _).alloc (Nat.le_refl _) _
  have hC := sz_houses v hs _ (hH.below (Nat.le_refl _) hbA) hN
  obtain ⟨a, c, rfl, _⟩ := hH
  have HB := Lib.hid hbA
  clear hbA hN
  go_enter Tryd.func19, Tryd.ntmps19
  go_wp2_with fail
  refine hC.mono ?_
  rintro e w1 ⟨⟨q, rfl, hq⟩, hb1⟩
  have HB1 := Lib.hid (HB.out.trans (hb1.mono (by simp)))
  clear hC hb1
  rcases hq with hq | ⟨q0, q1, q2, q3⟩
  · go_wp2
    go_ret
    exact ⟨⟨-1, rfl, .inl (by omega)⟩, HB1.out⟩
  · have i1 : ¬ q < 0 := by omega
    go_wp2
    go_ret
    exact ⟨⟨q, rfl, .inr ⟨q0, q1, q2, q3⟩⟩, HB1.out⟩
end Go.Proofs.YtojmfcpkmknleaaDoor
