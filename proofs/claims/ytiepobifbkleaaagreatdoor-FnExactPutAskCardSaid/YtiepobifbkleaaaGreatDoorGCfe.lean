import Derived.Test.YtiepobifbkleaaaGreatDoorCfgP
import Derived.Deep.SlicePairs
import Derived.Deep.Strs
import Derived.WideShapes
import Derived.ChangeArms
import Derived.ChangeSame
import Derived.Test.YtiepobifbkleaaaGreatDoorGCfa
import Derived.Test.YtiepobifbkleaaaGreatDoorRegR
import Derived.BigQuiet
import Derived.Deep.RegionWith
import Derived.Test.YtiepobifbkleaaaGreatDoorEq
-- from XCfgO
/- Houses that came in, opened. -/
namespace Go.Proofs.YtiepobifbkleaaaGreatDoor
open Go.RowKit Go.ChangeShapes Go.WideShapes Go.Deep

theorem cellsStrH : Tryz.prog.cellsOf 9 = 1 := by kernel_rfl
theorem cellsHs : Tryz.prog.cellsOf 169 = 4 := by kernel_rfl
theorem cellsCf : Tryz.prog.cellsOf 65 = 1 := by kernel_rfl

theorem addr_plus {a : Addr} (hspot : a.spot = none) (k : Nat) : a.add k = ⟨a.block, a.off + k, none⟩ := by
  obtain ⟨b, off, spot⟩ := a
  simp only at hspot
  subst hspot
  unfold Addr.add; split <;> simp_all

theorem open_srow {H : Type} {enc : TypeId × Value → H} {W : World} {base : Nat} {held : Bool} {fuel : Nat} {v : Value} {x : DataW H × List MemPlace} (h : DataW.trod enc Tryz.prog W base (fun _ => true) held fuel 46 [v] = some x) :
    ∃ L, NRow W v L ∧ NOk L maxLen := by
  rcases open_strs Tryz.underlying46 Tryz.underlying9 cellsStrH h with ⟨hcs, _⟩ | ⟨a, len, cap, m, Sx, hcs, _, hl, hc, hm, _, hx⟩
  · simp only [List.cons.injEq, and_true] at hcs
    subst hcs
    exact ⟨[], ⟨none, 0, rfl, Nat.le_refl _, Nat.zero_le _, fun j f hj => by simp at hj⟩, fun s hs => by simp at hs⟩
  · simp only [List.cons.injEq, and_true] at hcs
    subst hcs
    have hlm : len ≤ m := by rw [hm]; simpa using hl
    have hget : ∀ j s, ((List.range len).map Sx)[j]? = some s → j < len ∧ Sx j = s := fun j s hj => by
      rw [List.getElem?_map] at hj
      rcases Nat.lt_or_ge j len with h | h
      · rw [List.getElem?_range h] at hj
        exact ⟨h, by simpa using hj⟩
      · rw [List.getElem?_eq_none (by simpa using h)] at hj; cases hj
    refine ⟨(List.range len).map Sx, ⟨some a, cap, by simp, by simpa using hl, hc, fun j s hj => ?_⟩, fun s hs => ?_⟩
    · obtain ⟨hj1, rfl⟩ := hget j s hj
      have c0 := (hx j (by omega)).1
      have hspot : a.spot = none := by have q := World.cell?_spot (hx 0 (by omega)).1; simpa [Addr.add] using q
      rw [addr_plus hspot] at c0
      refine ⟨a.block, a.off, ?_, World.block_lt_of_cell? W ⟨a.block, a.off + j, none⟩ c0, c0⟩
      obtain ⟨b, off, spot⟩ := a
      simp only at hspot
      subst hspot; rfl
    · obtain ⟨j, hj, rfl⟩ := List.mem_map.1 hs
      exact (hx j (by have := List.mem_range.1 hj; omega)).2

set_option maxRecDepth 100000 in
theorem open_hrow {H : Type} {enc : TypeId × Value → H} {W : World} {base : Nat} {held : Bool} {fuel : Nat} {v : Value} {x : DataW H × List MemPlace} (h : DataW.trod enc Tryz.prog W base (fun _ => true) held fuel 63 [v] = some x) :
    ∃ hs, HRow W v hs ∧ HOks hs maxLen := by
  rcases open_slice Tryz.underlying63 h with ⟨hcs, _⟩ | ⟨a, len, cap, m, n, D, Pl, hcs, _, hl, hc, hm, _, hx⟩
  · simp only [List.cons.injEq, and_true] at hcs
    subst hcs
    exact ⟨[], ⟨none, 0, rfl, Nat.le_refl _, Nat.zero_le _, fun j f hj => by simp at hj⟩, fun s hs => by simp at hs⟩
  · simp only [List.cons.injEq, and_true] at hcs
    subst hcs
    have hlm : len ≤ m := by rw [hm]; simpa using hl
    have each : ∀ i, i < m → ∃ q : Hs × Value, W.cell? (a.add (i * 4)) = some q.2 ∧ NRow W q.2 q.1.names ∧ NOk q.1.names maxLen ∧ W.cell? (a.add (i * 4 + 1)) = some (.int .i64 q.1.key) ∧ W.cell? (a.add (i * 4 + 2)) = some (.int .i64 q.1.maxN) ∧ W.cell? (a.add (i * 4 + 3)) = some (.int .i64 q.1.maxB) := fun i hi => by
      obtain ⟨cs', h1, h2⟩ := hx i hi
      rw [cellsHs] at h1
      obtain ⟨_, hlen, hcell⟩ := World.cells?_some h1
      obtain ⟨xs, k, hk, hxy, _, hxl, hf⟩ := DataW.trod_struct Tryz.underlying169 h2
      match xs, hxl, cs', hlen with
      | [y0, y1, y2, y3], _, [v0, v1, v2, v3], _ =>
        have g0 := hf 0 _ rfl
        have g1 := hf 1 _ rfl
        have g2 := hf 2 _ rfl
        have g3 := hf 3 _ rfl
        have e0 := hcell 0 (by omega)
        have e1 := hcell 1 (by omega)
        have e2 := hcell 2 (by omega)
        have e3 := hcell 3 (by omega)
        rw [add_add] at e0 e1 e2 e3
        obtain ⟨L, hL1, hL2⟩ := open_srow (v := v0) g0
        obtain ⟨n1, z1, _, _⟩ := DataW.trod_int Tryz.underlying3 (show DataW.trod enc Tryz.prog W base (fun _ => true) held k 3 [v1] = some y1 from g1)
        obtain ⟨n2, z2, _, _⟩ := DataW.trod_int Tryz.underlying3 (show DataW.trod enc Tryz.prog W base (fun _ => true) held k 3 [v2] = some y2 from g2)
        obtain ⟨n3, z3, _, _⟩ := DataW.trod_int Tryz.underlying3 (show DataW.trod enc Tryz.prog W base (fun _ => true) held k 3 [v3] = some y3 from g3)
        simp only [List.cons.injEq, and_true] at z1 z2 z3
        subst z1 z2 z3
        exact ⟨(⟨L, n1, n2, n3⟩, v0), by simpa using e0, hL1, hL2, by simpa using e1, by simpa using e2, by simpa using e3⟩
    have : Inhabited (Hs × Value) := ⟨(⟨[], 0, 0, 0⟩, .int .i64 0)⟩
    obtain ⟨q, hq⟩ := choose_lt each
    have hget : ∀ j s, ((List.range len).map fun i => (q i).1)[j]? = some s → j < len ∧ (q j).1 = s := fun j s hj => by
      rw [List.getElem?_map] at hj
      rcases Nat.lt_or_ge j len with h | h
      · rw [List.getElem?_range h] at hj
        exact ⟨h, by simpa using hj⟩
      · rw [List.getElem?_eq_none (by simpa using h)] at hj; cases hj
    refine ⟨(List.range len).map fun i => (q i).1, ⟨some a, cap, by simp, by simpa using hl, hc, fun j s hj => ?_⟩, fun s hs => ?_⟩
    · obtain ⟨hj1, rfl⟩ := hget j s hj
      obtain ⟨c0, hS, _, c1, c2, c3⟩ := hq j (by omega)
      have hspot : a.spot = none := by have z := World.cell?_spot (hq 0 (by omega)).1; simpa [Addr.add] using z
      rw [addr_plus hspot] at c0 c1 c2 c3
      refine ⟨a.block, a.off, (q j).2, ?_, World.block_lt_of_cell? W ⟨a.block, a.off + j * 4, none⟩ c0, c0, hS, c1, c2, c3⟩
      obtain ⟨b, off, spot⟩ := a
      simp only at hspot
      subst hspot; rfl
    · obtain ⟨j, hj, rfl⟩ := List.mem_map.1 hs
      exact (hq j (by have := List.mem_range.1 hj; omega)).2.2.1

set_option maxRecDepth 100000 in
theorem open_cfg {H : Type} {enc : TypeId × Value → H} {W : World} {r : Reach} {b0 base : Nat} {held : Bool} {v : Value} {d : DataW H} {p : List MemPlace} (hv : Value.okWide Tryz.prog W r b0 65 v) (h : DataW.Trod enc Tryz.prog W base (fun _ => true) held 65 v d p) :
    ∃ (u : Value) (hs : List Hs), v = .agg #[u] ∧ HRow W u hs ∧ HOks hs maxLen := by
  obtain ⟨cs, rfl, hsz⟩ := okWide_struct Tryz.underlying65 hv
  obtain ⟨c0, rfl⟩ : ∃ c0, cs = #[c0] := by
    have := hsz.trans cellsCf
    obtain ⟨l⟩ := cs
    match l, this with
    | [c0], _ => exact ⟨c0, rfl⟩
  obtain ⟨fuel, hf⟩ := h
  obtain ⟨y0, n, _, _, h0⟩ := trod_struct1 Tryz.underlying65 hf
  have h0' : DataW.trod enc Tryz.prog W base (fun _ => true) held n 63 [c0] = some y0 := h0
  obtain ⟨hs, hH, hN⟩ := open_hrow h0'
  exact ⟨c0, hs, rfl, hH, hN⟩
end Go.Proofs.YtiepobifbkleaaaGreatDoor

-- from XCfgE
/- The laws' own helpers over houses: sizes, copies, equality. -/
namespace Go.Proofs.YtiepobifbkleaaaGreatDoor
open Go.RowKit Go.Maps

set_option maxHeartbeats 800000 in
theorem sz_strs (v : Value) (L : List ByteArray) (r : Int) (hr0 : 0 ≤ r) (hr1 : r ≤ 1048576) (w : World) (hS : NRow w v L) (hN : NOk L maxLen) :
    Calls Tryz.prog 187 #[v, .int .i64 r] w fun e w' => (∃ q : Int, e = .returned (.int .i64 q) ∧ (q < 0 ∨ (0 ≤ q ∧ q ≤ 1048576 ∧ NOk L 1048576 ∧ L.length ≤ 1048576))) ∧ w = w' := by
  obtain ⟨a, c, rfl, h1, h2, h3⟩ := hS
  unfold maxLen at h2 hN
  have H3 := Lib.hid h3; have HN := Lib.hid hN
  clear h3 hN
  by_cases hbig : r < L.length
  · go_enter Tryz.func187, Tryz.ntmps187
    go_wp2
    go_ret
    exact ⟨⟨-1, rfl, .inl (by omega)⟩, rfl⟩
  · go_enter Tryz.func187, Tryz.ntmps187
    go_wp2
    go_loopw [1, 5] (fun x i wr => ∃ (k : Nat) (q : Int), k ≤ L.length ∧ i = .int .i64 k ∧ x = .int .i64 q ∧ 0 ≤ q ∧ q ≤ 1048576 ∧ Hid (∀ (j : Nat) (s : ByteArray), j < k → L[j]? = some s → s.size ≤ 1048576) ∧ wr = w) (fun _ i _ => L.length - (intOf i).toNat)
    case atStart => exact ⟨0, _, Nat.zero_le _, rfl, rfl, by omega, by omega, Lib.hid (fun j f hj => by omega), rfl⟩
    case round =>
      obtain ⟨k, q, hk, rfl, rfl, hq0, hq1, hall, rfl⟩ := hrel
      by_cases hlt : k < L.length
      · obtain ⟨s, hg⟩ : ∃ s, L[k]? = some s := ⟨_, List.getElem?_eq_getElem hlt⟩
        obtain ⟨b, o, ea, _, c1⟩ := H3.out k s hg
        subst ea
        have hs := HN.out s (List.mem_of_getElem? hg)
        have HG := Lib.hid hg
        clear hg
        by_cases hle : (s.size : Int) ≤ q
        · have i1 : ¬ (q - (s.size : Int) < 0) := by omega
          go_wp2
          go_roundw
          case rel =>
            refine ⟨k + 1, q - (s.size : Int), by omega, by go_num, by go_num, by omega, by omega, Lib.hid (fun j t hj ht => ?_), trivial⟩
            by_cases e : j = k
            · subst e; rw [HG.out] at ht; cases ht; omega
            · exact hall.out j t (by omega) ht
          case measure => simp [intOf]; omega
        · have i1 : q - (s.size : Int) < 0 := by omega
          go_wp2
          go_ret
          exact ⟨⟨-1, rfl, .inl (by omega)⟩, rfl⟩
      · have hkl : k = L.length := by omega
        go_wp2
        go_ret
        exact ⟨⟨q, rfl, .inr ⟨hq0, hq1, fun s hs => by
          obtain ⟨j, hj, rfl⟩ := List.mem_iff_getElem.1 hs
          exact hall.out j _ (by omega) (List.getElem?_eq_getElem hj), by omega⟩⟩, rfl⟩

set_option maxHeartbeats 800000 in
theorem sz_house (h : Hs) (u : Value) (r : Int) (hr0 : 0 ≤ r) (hr1 : r ≤ 1048576) (w : World) (hS : NRow w u h.names) (hN : NOk h.names maxLen) :
    Calls Tryz.prog 149 #[.agg #[u, .int .i64 h.key, .int .i64 h.maxN, .int .i64 h.maxB], .int .i64 r] w fun e w' => (∃ q : Int, e = .returned (.int .i64 q) ∧ (q < 0 ∨ (0 ≤ q ∧ q ≤ 1048576 ∧ NOk h.names 1048576 ∧ h.names.length ≤ 1048576))) ∧ Below w.heap.size w w' := by
  have hbA : Below w.heap.size w (w.alloc (.cells #[u, .int .i64 h.key, .int .i64 h.maxN, .int .i64 h.maxB] 169)) := (Below.refl _ _).alloc (Nat.le_refl _) _
  have hC := sz_strs u h.names r hr0 hr1 _ (hS.below (Nat.le_refl _) hbA) hN
  obtain ⟨sa, sc, rfl, _⟩ := nrow_get hS
  have HB := Lib.hid hbA
  clear hbA hN
  go_enter Tryz.func149, Tryz.ntmps149
  go_wp2_with fail
  refine hC.mono ?_
  rintro e w1 ⟨⟨q, rfl, hq⟩, rfl⟩
  clear hC
  rcases hq with hq | ⟨q0, q1, q2, q3⟩
  · go_wp2
    go_ret
    exact ⟨⟨-1, rfl, .inl (by omega)⟩, HB.out⟩
  · have i1 : ¬ q < 0 := by omega
    go_wp2
    go_ret
    exact ⟨⟨q, rfl, .inr ⟨q0, q1, q2, q3⟩⟩, HB.out⟩

set_option maxHeartbeats 1600000 in
theorem sz_houses (v : Value) (hs : List Hs) (w : World) (hH : HRow w v hs) (hN : HOks hs maxLen) :
    Calls Tryz.prog 94 #[v, .int .i64 1048576] w fun e w' => (∃ q : Int, e = .returned (.int .i64 q) ∧ (q < 0 ∨ (0 ≤ q ∧ HOks hs 1048576 ∧ hs.length ≤ 1048576 ∧ ∀ h ∈ hs, h.names.length ≤ 1048576))) ∧ Below w.heap.size w w' := by
  have hH0 := hH
  obtain ⟨a, c, rfl, h1, h2, _⟩ := hH0
  unfold maxLen at h2
  have HH := Lib.hid hH; have HN := Lib.hid hN
  clear hH hN
  by_cases hbig : 1048576 < hs.length
  · go_enter Tryz.func94, Tryz.ntmps94
    go_wp2
    go_ret
    exact ⟨⟨-1, rfl, .inl (by omega)⟩, Below.refl _ _⟩
  · go_enter Tryz.func94, Tryz.ntmps94
    go_wp2
    go_loopw [1, 5] (fun x i wr => ∃ (k : Nat) (q : Int), k ≤ hs.length ∧ i = .int .i64 k ∧ x = .int .i64 q ∧ 0 ≤ q ∧ q ≤ 1048576 ∧ Hid (∀ (j : Nat) (h : Hs), j < k → hs[j]? = some h → NOk h.names 1048576 ∧ h.names.length ≤ 1048576) ∧ Below w.heap.size w wr) (fun _ i _ => hs.length - (intOf i).toNat)
    case atStart => exact ⟨0, _, Nat.zero_le _, rfl, rfl, by omega, by omega, Lib.hid (fun j f hj => by omega), Below.refl _ _⟩
    case round =>
      obtain ⟨k, q, hk, rfl, rfl, hq0, hq1, hall, hnx⟩ := hrel
      by_cases hlt : k < hs.length
      · obtain ⟨h, hg⟩ : ∃ h, hs[k]? = some h := ⟨_, List.getElem?_eq_getElem hlt⟩
        obtain ⟨_, _, e1, _, _, hh⟩ := HH.out.below (Nat.le_refl _) hnx
        obtain ⟨b, o, u, ea, hb, c1, hS, c2, c3, c4⟩ := hh k h hg
        have ha : a = some ⟨b, o, none⟩ := by injection e1 with e1 _ _; rw [e1, ea]
        subst ha
        have hC := sz_house h u q hq0 hq1 wr hS (HN.out h (List.mem_of_getElem? hg))
        have HG := Lib.hid hg
        have HNx := Lib.hid hnx
        clear hS hh e1 hg ea hnx
        go_wp2_with fail
        refine hC.mono ?_
        rintro e w2 ⟨⟨q', rfl, hq⟩, hb2⟩
        have HB := Lib.hid (HNx.out.trans (hb2.mono HNx.out.size))
        clear hC hb2 c1 c2 c3 c4
        rcases hq with hq | ⟨q0, q1, q2, q3⟩
        · go_wp2
          go_ret
          exact ⟨⟨-1, rfl, .inl (by omega)⟩, HB.out⟩
        · have i1 : ¬ q' < 0 := by omega
          go_wp2
          go_roundw
          case rel =>
            refine ⟨k + 1, q', by omega, by go_num, rfl, q0, q1, Lib.hid (fun j t hj ht => ?_), HB.out⟩
            by_cases e : j = k
            · subst e; rw [HG.out] at ht; cases ht; exact ⟨q2, q3⟩
            · exact hall.out j t (by omega) ht
          case measure => simp [intOf]; omega
      · have hkl : k = hs.length := by omega
        have HB := Lib.hid hnx
        clear hnx
        go_wp2
        go_ret
        have hall' : ∀ h ∈ hs, NOk h.names 1048576 ∧ h.names.length ≤ 1048576 := fun h hh => by
          obtain ⟨j, hj, rfl⟩ := List.mem_iff_getElem.1 hh
          exact hall.out j _ (by omega) (List.getElem?_eq_getElem hj)
        exact ⟨⟨q, rfl, .inr ⟨hq0, fun h hh => (hall' h hh).1, by omega, fun h hh => (hall' h hh).2⟩⟩, HB.out⟩

set_option maxHeartbeats 800000 in
theorem sz_cfg (v : Value) (hs : List Hs) (w : World) (hH : HRow w v hs) (hN : HOks hs maxLen) :
    Calls Tryz.prog 38 #[.agg #[v], .int .i64 1048576] w fun e w' => (∃ q : Int, e = .returned (.int .i64 q) ∧ (q < 0 ∨ (0 ≤ q ∧ HOks hs 1048576 ∧ hs.length ≤ 1048576 ∧ ∀ h ∈ hs, h.names.length ≤ 1048576))) ∧ Below w.heap.size w w' := by
  have hbA : Below w.heap.size w (w.alloc (.cells #[v] 65)) := (Below.refl _ _).alloc (Nat.le_refl _) _
  have hC := sz_houses v hs _ (hH.below (Nat.le_refl _) hbA) hN
  obtain ⟨a, c, rfl, _⟩ := hH
  have HB := Lib.hid hbA
  clear hbA hN
  go_enter Tryz.func38, Tryz.ntmps38
  go_wp2_with fail
  refine hC.mono ?_
  rintro e w1 ⟨⟨q, rfl, hq⟩, hb1⟩
  have HB1 := Lib.hid (HB.out.trans (hb1.mono (by simp)))
  clear hC hb1
  rcases hq with hq | ⟨q0, q1, q2, q3⟩
  · go_wp2
    go_ret
    exact ⟨⟨-1, rfl, .inl (by omega)⟩, HB1.out⟩
  · have i1 : ¬ q < 0 := by omega
    go_wp2
    go_ret
    exact ⟨⟨q, rfl, .inr ⟨q0, q1, q2, q3⟩⟩, HB1.out⟩
end Go.Proofs.YtiepobifbkleaaaGreatDoor

-- from XCfgE2
/- The laws' own helpers over houses: copies, each list in a block of its own. -/
namespace Go.Proofs.YtiepobifbkleaaaGreatDoor
open Go.RowKit Go.Maps

def sget (L : List ByteArray) (i : Nat) : ByteArray := (L[i]?).getD ⟨#[]⟩
theorem sget_at {L : List ByteArray} {i : Nat} {s : ByteArray} (h : L[i]? = some s) : sget L i = s := by simp [sget, h]
/-- Block g holds n texts; none is frozen. -/
def SC (w : World) (g n : Nat) (F : Nat → ByteArray) : Prop :=
  ∃ cur, w.heap[g]? = some (.cells cur 9 (0, 0)) ∧ cur.size = n ∧ ∀ i, i < n → cur[i]? = some (.string (F i))
theorem SC.lt {w : World} {g n : Nat} {F : Nat → ByteArray} (h : SC w g n F) : g < w.heap.size := by
  obtain ⟨cur, hh, _⟩ := h
  exact (Array.getElem?_eq_some_iff.1 hh).1
theorem SC.keep {w w' : World} {g n : Nat} {F : Nat → ByteArray} (h : SC w g n F) (hk : w'.heap[g]? = w.heap[g]?) : SC w' g n F := by
  obtain ⟨cur, hh, r⟩ := h
  exact ⟨cur, hk.trans hh, r⟩
theorem SC.congr {w : World} {g n : Nat} {F F' : Nat → ByteArray} (h : SC w g n F) (he : ∀ i, i < n → F i = F' i) : SC w g n F' := by
  obtain ⟨cur, hh, hs, hc⟩ := h
  exact ⟨cur, hh, hs, fun i hi => by rw [← he i hi]; exact hc i hi⟩
theorem SC.cell {w : World} {g n : Nat} {F : Nat → ByteArray} (h : SC w g n F) {i : Nat} (hi : i < n) : w.cell? ⟨g, i, none⟩ = some (.string (F i)) := by
  obtain ⟨cur, hh, hs, hc⟩ := h
  simp [World.cell?, hh, hc i hi]
theorem SC.frozen {w : World} {g n : Nat} {F : Nat → ByteArray} (h : SC w g n F) (j : Nat) : w.frozen? ⟨g, j, none⟩ = false := by
  obtain ⟨cur, hh, hs, hc⟩ := h
  simp [World.frozen?, hh]
def updS (F : Nat → ByteArray) (i : Nat) (s : ByteArray) : Nat → ByteArray := fun j => if j = i then s else F j
theorem SC.set {w : World} {g n : Nat} {F : Nat → ByteArray} (h : SC w g n F) {i : Nat} (_hi : i < n) (s : ByteArray) : SC (w.setCell ⟨g, i, none⟩ (.string s)) g n (updS F i s) := by
  obtain ⟨cur, hh, hs, hc⟩ := h
  refine ⟨_, heap_setCell_same w g i cur _ _ hh, by simpa using hs, fun j hj => ?_⟩
  rw [Array.getElem?_setIfInBounds]
  unfold updS
  by_cases e : j = i
  · subst e
    simp only [if_true, show j < cur.size from by omega]
  · rw [if_neg (fun k => e k.symm), if_neg e]
    exact hc j hj
theorem SC.row {w : World} {g : Nat} {L : List ByteArray} (h : SC w g L.length (sget L)) (hn : L.length ≤ maxLen) : NRow w (.slice (some ⟨g, 0, none⟩) L.length L.length) L := by
  refine ⟨_, _, rfl, Nat.le_refl _, hn, fun j s hj => ⟨g, 0, rfl, h.lt, ?_⟩⟩
  have := h.cell (i := j) (List.getElem?_eq_some_iff.1 hj).1
  rw [sget_at hj] at this
  rw [Nat.zero_add]; exact this

def uptoS (L : List ByteArray) (k : Nat) : Nat → ByteArray := fun i => if i < k then sget L i else ⟨#[]⟩
theorem uptoS_step {L : List ByteArray} {k : Nat} {a : ByteArray} (h : L[k]? = some a) : updS (uptoS L k) k a = uptoS L (k + 1) := by
  funext i
  unfold updS uptoS
  by_cases e : i = k
  · subst e; simp [sget_at h]
  · rw [if_neg e]
    by_cases hi : i < k
    · rw [if_pos hi, if_pos (by omega)]
    · rw [if_neg hi, if_neg (by omega)]
theorem made_str (n : Nat) : (madeCells (Value.string ⟨#[]⟩).cells (n * 1)).size = n ∧ ∀ i, i < n → (madeCells (Value.string ⟨#[]⟩).cells (n * 1))[i]? = some (.string ⟨#[]⟩) := by
  have h1 : (madeCells (Value.string ⟨#[]⟩).cells (n * 1)).size = n * 1 := size_madeCells _ _
  refine ⟨by omega, fun i hi => ?_⟩
  have hc : (Value.string ⟨#[]⟩).cells = #[.string ⟨#[]⟩] := by rfl
  unfold madeCells
  rw [hc]
  rw [Array.getElem?_map, Array.getElem?_range, if_pos (by omega)]
  simp [Nat.mod_one]

set_option maxHeartbeats 800000 in
theorem to_strs (v : Value) (L : List ByteArray) (w : World) (hS : NRow w v L) (hn : L.length ≤ 1048576) :
    Calls Tryz.prog 188 #[v] w fun e w' => e = .returned (.slice (some ⟨w.heap.size, 0, none⟩) L.length L.length) ∧ SC w' w.heap.size L.length (sget L) ∧ Below w.heap.size w w' := by
  obtain ⟨i0, hi, hz0, hz1, hz2⟩ := info_parts Tryz.infoStrC
  obtain ⟨a, c, rfl, h1, h2, h3⟩ := hS
  unfold maxLen at h2
  have H3 := Lib.hid h3; clear h3
  have hmk := fun W => run_make (P := Tryz.prog) W 46 9 i0 _ Tryz.underlying46 hi hz0 .i64 .i64 (L.length : Int) (L.length : Int) (by omega) (by omega) (by rw [hz2]; omega) (by omega)
  rw [hz1, Int.toNat_natCast] at hmk
  obtain ⟨m1, m2⟩ := made_str L.length
  generalize madeCells (Value.string ⟨#[]⟩).cells (L.length * 1) = M at hmk m1 m2
  have HM1 := Lib.hid m1; have HM2 := Lib.hid m2; clear m1 m2
  go_enter Tryz.func188, Tryz.ntmps188
  go_wp2
  go_loopw [4] (fun i wr => ∃ k : Nat, k ≤ L.length ∧ i = .int .i64 k ∧ SC wr w.heap.size L.length (uptoS L k) ∧ Below w.heap.size w wr) (fun i _ => L.length - (intOf i).toNat)
  case atStart => exact ⟨0, Nat.zero_le _, rfl, ⟨M, heap_alloc_new w _, HM1.out, fun i hi => by simpa [uptoS] using HM2.out i hi⟩, (Below.refl _ _).alloc (Nat.le_refl _) _⟩
  case round =>
    obtain ⟨k, hk, rfl, hown, hnx⟩ := hrel
    by_cases hlt : k < L.length
    · obtain ⟨s, hg⟩ : ∃ s, L[k]? = some s := ⟨_, List.getElem?_eq_getElem hlt⟩
      obtain ⟨b1, o1, ea, hb1, c1⟩ := H3.out k s hg
      subst ea
      have k1 := (hnx.cell (p := ⟨b1, o1 + k, none⟩) hb1).trans c1
      have q0 := hown.cell hlt
      have f0 := hown.frozen k
      have hst := hown.set hlt s
      rw [uptoS_step hg] at hst
      have HS := Lib.hid hst; have HN := Lib.hid hnx
      clear hown hst hnx c1 hg
      go_wp2
      go_roundw
      case rel => exact ⟨k + 1, by omega, by go_num, HS.out, (HN.out).setCell (p := ⟨w.heap.size, k, none⟩) (Nat.le_refl _) _⟩
      case measure => simp [intOf]; omega
    · have hkn : k = L.length := by omega
      subst hkn
      go_wp2
      go_ret
      exact ⟨rfl, hown.congr (fun i hi => by simp [uptoS, hi]), hnx⟩

set_option maxHeartbeats 800000 in
theorem eq_strs (v1 v2 : Value) (L : List ByteArray) (w : World) (h1 : NRow w v1 L) (h2 : NRow w v2 L) :
    Calls Tryz.prog 189 #[v1, v2] w fun e w' => e = .returned (.bool true) ∧ Below w.heap.size w w' := by
  have hr : ∀ v, NRow w v L → 0 < L.length → Rd1 w v ((L.map fun s => s.data.toList).map strV) := fun v hv hp => by
    obtain ⟨b, o, c, rfl, m1, m2, _, hcs⟩ := nrow_cells hv hp
    refine .inr ⟨b, o, c, by simp, by simpa using m1, m2, fun j u hu => ?_⟩
    have e : (L.map fun s => s.data.toList).map strV = L.map Value.string := by
      rw [List.map_map]
      refine List.map_congr_left fun s _ => ?_
      simp [strV]
    rw [e] at hu
    have := hcs j u hu
    have ea : (⟨b, o, none⟩ : Addr).add j = ⟨b, o + j, none⟩ := by unfold Addr.add; split <;> simp_all
    rwa [ea] at this
  by_cases hp : 0 < L.length
  · refine (eq_strings v1 v2 (L.map fun s => s.data.toList) w (hr v1 h1 hp) (hr v2 h2 hp)).mono ?_
    rintro e w' ⟨rfl, n, rfl⟩
    exact ⟨rfl, below_drewN (Below.refl _ _)⟩
  · have hl : L = [] := List.eq_nil_of_length_eq_zero (by omega)
    subst hl
    obtain ⟨a1, c1, rfl, _⟩ := nrow_get h1
    obtain ⟨a2, c2, rfl, _⟩ := nrow_get h2
    clear h1 h2 hr hp
    go_enter Tryz.func189, Tryz.ntmps189
    go_wp2
    go_loopw [5] (fun i wr => i = .int .i64 0 ∧ wr = w) (fun _ _ => 0)
    case atStart => exact ⟨rfl, rfl⟩
    case round =>
      obtain ⟨rfl, rfl⟩ := hrel
      go_wp2
      go_ret
      exact ⟨rfl, Below.refl _ _⟩
end Go.Proofs.YtiepobifbkleaaaGreatDoor

-- from XCfgE3
/- The laws' own helpers over houses: a copy of houses, in blocks of its own. -/
namespace Go.Proofs.YtiepobifbkleaaaGreatDoor
open Go.RowKit Go.Maps

/-- Block g has room for n houses, the first k of them are there, the names of the i-th in block G i; all these blocks lie from B on, and no two are one. -/
def HOwn (w : World) (B g n k : Nat) (hs : List Hs) (G : Nat → Nat) : Prop :=
  B ≤ g ∧ (∃ cur t, w.heap[g]? = some (.cells cur t (0, 0)) ∧ cur.size = n * 4 ∧ (∀ i, i < n → ∃ a l c, cur[i * 4]? = some (.slice a l c)) ∧ ∀ i h, i < k → hs[i]? = some h → cur[i * 4]? = some (.slice (some ⟨G i, 0, none⟩) h.names.length h.names.length) ∧
    cur[i * 4 + 1]? = some (.int .i64 h.key) ∧ cur[i * 4 + 2]? = some (.int .i64 h.maxN) ∧ cur[i * 4 + 3]? = some (.int .i64 h.maxB)) ∧
  (∀ i h, i < k → hs[i]? = some h → B ≤ G i ∧ G i ≠ g ∧ SC w (G i) h.names.length (sget h.names)) ∧ ∀ i j, i < j → j < k → G i ≠ G j

theorem HOwn.lt {w : World} {B g n k : Nat} {hs : List Hs} {G : Nat → Nat} (h : HOwn w B g n k hs G) : g < w.heap.size := by
  obtain ⟨_, ⟨cur, t, hh, _⟩, _⟩ := h
  exact (Array.getElem?_eq_some_iff.1 hh).1
theorem HOwn.keep {w w' : World} {B g n k : Nat} {hs : List Hs} {G : Nat → Nat} (h : HOwn w B g n k hs G) (hk : ∀ b, b < w.heap.size → B ≤ b → w'.heap[b]? = w.heap[b]?) : HOwn w' B g n k hs G := by
  have hlt := h.lt
  obtain ⟨h0, ⟨cur, t, hh, hc⟩, hg, hd⟩ := h
  refine ⟨h0, ⟨cur, t, (hk g hlt h0).trans hh, hc⟩, fun i x hi hx => ?_, hd⟩
  obtain ⟨q1, q2, q3⟩ := hg i x hi hx
  exact ⟨q1, q2, q3.keep (hk _ q3.lt q1)⟩
theorem HOwn.below {w w' : World} {B g n k : Nat} {hs : List Hs} {G : Nat → Nat} (h : HOwn w B g n k hs G) {C : Nat} (hC : w.heap.size ≤ C) (hb : Below C w w') : HOwn w' B g n k hs G :=
  h.keep fun b hlt _ => hb.block b (by omega)
theorem HOwn.cells {w : World} {B g n k : Nat} {hs : List Hs} {G : Nat → Nat} (h : HOwn w B g n k hs G) {i : Nat} {x : Hs} (hi : i < k) (hx : hs[i]? = some x) :
    w.cell? ⟨g, i * 4, none⟩ = some (.slice (some ⟨G i, 0, none⟩) x.names.length x.names.length) ∧ w.cell? ⟨g, i * 4 + 1, none⟩ = some (.int .i64 x.key) ∧ w.cell? ⟨g, i * 4 + 2, none⟩ = some (.int .i64 x.maxN) ∧ w.cell? ⟨g, i * 4 + 3, none⟩ = some (.int .i64 x.maxB) := by
  obtain ⟨_, ⟨cur, t, hh, _, _, hc⟩, _⟩ := h
  obtain ⟨c0, c1, c2, c3⟩ := hc i x hi hx
  simp [World.cell?, hh, c0, c1, c2, c3]
theorem HOwn.frozen {w : World} {B g n k : Nat} {hs : List Hs} {G : Nat → Nat} (h : HOwn w B g n k hs G) (j : Nat) : w.frozen? ⟨g, j, none⟩ = false := by
  obtain ⟨_, ⟨cur, t, hh, _⟩, _⟩ := h
  simp [World.frozen?, hh]
theorem HOwn.there {w : World} {B g n k : Nat} {hs : List Hs} {G : Nat → Nat} (h : HOwn w B g n k hs G) {i : Nat} (hi : i < n) : (∃ x, w.cell? ⟨g, i * 4, none⟩ = some x) ∧ (∃ x, w.cell? ⟨g, i * 4 + 1, none⟩ = some x) ∧ (∃ x, w.cell? ⟨g, i * 4 + 2, none⟩ = some x) ∧ ∃ x, w.cell? ⟨g, i * 4 + 3, none⟩ = some x := by
  obtain ⟨_, ⟨cur, t, hh, hs, _⟩, _⟩ := h
  have : ∀ j, j < n * 4 → ∃ x, w.cell? ⟨g, j, none⟩ = some x := fun j hj => ⟨cur[j]'(by omega), by simp [World.cell?, hh, Array.getElem?_eq_getElem (show j < cur.size by omega)]⟩
  exact ⟨this _ (by omega), this _ (by omega), this _ (by omega), this _ (by omega)⟩
theorem HOwn.row {w : World} {B g : Nat} {hs : List Hs} {G : Nat → Nat} (h : HOwn w B g hs.length hs.length hs G) (hn : hs.length ≤ 1048576) (hm : ∀ x ∈ hs, x.names.length ≤ 1048576) : HRow w (.slice (some ⟨g, 0, none⟩) hs.length hs.length) hs := by
  refine ⟨_, _, rfl, Nat.le_refl _, by unfold maxLen; omega, fun j x hj => ?_⟩
  have hjl := (List.getElem?_eq_some_iff.1 hj).1
  obtain ⟨c0, c1, c2, c3⟩ := h.cells hjl hj
  have hlt := h.lt
  obtain ⟨_, _, hg, _⟩ := h
  obtain ⟨_, _, hsc⟩ := hg j x hjl hj
  refine ⟨g, 0, _, rfl, hlt, ?_, hsc.row (by unfold maxLen; have := hm x (List.mem_of_getElem? hj); omega), ?_, ?_, ?_⟩
  all_goals rw [Nat.zero_add]; assumption

def set4 (w : World) (g k : Nat) (a b c d : Value) : World := (((w.setCell ⟨g, k * 4, none⟩ a).setCell ⟨g, k * 4 + 1, none⟩ b).setCell ⟨g, k * 4 + 2, none⟩ c).setCell ⟨g, k * 4 + 3, none⟩ d
def updG (G : Nat → Nat) (k x : Nat) : Nat → Nat := fun i => if i = k then x else G i
theorem set4_other (w : World) (g k : Nat) (a b c d : Value) {j : Nat} (h : j ≠ g) : (set4 w g k a b c d).heap[j]? = w.heap[j]? := by
  unfold set4
  rw [heap_setCell_other _ ⟨g, k * 4 + 3, none⟩ j _ (by simpa using h), heap_setCell_other _ ⟨g, k * 4 + 2, none⟩ j _ (by simpa using h), heap_setCell_other _ ⟨g, k * 4 + 1, none⟩ j _ (by simpa using h), heap_setCell_other _ ⟨g, k * 4, none⟩ j _ (by simpa using h)]
theorem HOwn.step {w : World} {B g n k gk : Nat} {hs : List Hs} {G : Nat → Nat} {x : Hs} (h : HOwn w B g n k hs G) (hx : hs[k]? = some x) (hkn : k < n) (hB : B ≤ gk) (hne : gk ≠ g) (hnew : ∀ i, i < k → G i ≠ gk) (hsc : SC w gk x.names.length (sget x.names)) :
    HOwn (set4 w g k (.slice (some ⟨gk, 0, none⟩) x.names.length x.names.length) (.int .i64 x.key) (.int .i64 x.maxN) (.int .i64 x.maxB)) B g n (k + 1) hs (updG G k gk) := by
  obtain ⟨h0, ⟨cur, t, hh, hsz, hsl, hc⟩, hg, hd⟩ := h
  have s1 := heap_setCell_same w g (k * 4) cur t (.slice (some ⟨gk, 0, none⟩) x.names.length x.names.length) hh
  have s2 := heap_setCell_same _ g (k * 4 + 1) _ t (.int .i64 x.key) s1
  have s3 := heap_setCell_same _ g (k * 4 + 2) _ t (.int .i64 x.maxN) s2
  have s4 := heap_setCell_same _ g (k * 4 + 3) _ t (.int .i64 x.maxB) s3
  refine ⟨h0, ⟨_, t, s4, by simpa using hsz, fun i hi => ?_, fun i y hi hy => ?_⟩, fun i y hi hy => ?_, fun i j hij hj => ?_⟩
  · by_cases e : i = k
    · subst e
      exact ⟨some ⟨gk, 0, none⟩, x.names.length, x.names.length, by
        rw [Array.getElem?_setIfInBounds_ne (by omega), Array.getElem?_setIfInBounds_ne (by omega), Array.getElem?_setIfInBounds_ne (by omega), Array.getElem?_setIfInBounds_self_of_lt (by omega)]⟩
    · obtain ⟨a, l, c, q⟩ := hsl i hi
      exact ⟨a, l, c, by
        rw [Array.getElem?_setIfInBounds_ne (by omega), Array.getElem?_setIfInBounds_ne (by omega), Array.getElem?_setIfInBounds_ne (by omega), Array.getElem?_setIfInBounds_ne (by omega)]; exact q⟩
  · by_cases e : i = k
    · subst e
      rw [hx] at hy; cases hy
      simp only [updG, if_true]
      refine ⟨?_, ?_, ?_, ?_⟩
      · rw [Array.getElem?_setIfInBounds_ne (by omega), Array.getElem?_setIfInBounds_ne (by omega), Array.getElem?_setIfInBounds_ne (by omega), Array.getElem?_setIfInBounds_self_of_lt (by omega)]
      · rw [Array.getElem?_setIfInBounds_ne (by omega), Array.getElem?_setIfInBounds_ne (by omega), Array.getElem?_setIfInBounds_self_of_lt (by simp; omega)]
      · rw [Array.getElem?_setIfInBounds_ne (by omega), Array.getElem?_setIfInBounds_self_of_lt (by simp; omega)]
      · rw [Array.getElem?_setIfInBounds_self_of_lt (by simp; omega)]
    · obtain ⟨c0, c1, c2, c3⟩ := hc i y (by omega) hy
      simp only [updG, if_neg e]
      refine ⟨?_, ?_, ?_, ?_⟩
      all_goals
        rw [Array.getElem?_setIfInBounds_ne (by omega), Array.getElem?_setIfInBounds_ne (by omega), Array.getElem?_setIfInBounds_ne (by omega), Array.getElem?_setIfInBounds_ne (by omega)]
        assumption
  · by_cases e : i = k
    · subst e
      rw [hx] at hy; cases hy
      simp only [updG, if_true]
      exact ⟨hB, hne, hsc.keep (set4_other w g _ _ _ _ _ hne)⟩
    · obtain ⟨q1, q2, q3⟩ := hg i y (by omega) hy
      simp only [updG, if_neg e]
      exact ⟨q1, q2, q3.keep (set4_other w g _ _ _ _ _ q2)⟩
  · unfold updG
    by_cases e : j = k
    · rw [if_pos e, if_neg (by omega)]; exact hnew i (by omega)
    · rw [if_neg (by omega), if_neg e]; exact hd i j hij (by omega)
theorem below_set4 {b : Nat} {w w3 : World} {k : Nat} {x y z u : Value} (h : Below b w w3) : Below b w (set4 w3 b k x y z u) := by
  have q : ∀ (W : World) (j : Nat) (v : Value), Below b w W → Below b w (W.setCell ⟨b, j, none⟩ v) := fun W j v hW => hW.setCell (p := ⟨b, j, none⟩) (Nat.le_refl _) _
  exact q _ _ _ (q _ _ _ (q _ _ _ (q _ _ _ h)))

theorem Tryz.infoHs : (Tryz.prog.info? 48).map (fun i => (i.zero, i.size, i.bytes)) = some (some (.agg #[.slice none 0 0, .int .i64 0, .int .i64 0, .int .i64 0]), 4, 48) := by kernel_rfl
theorem made_hs (n : Nat) : (madeCells (Value.agg #[.slice none 0 0, .int .i64 0, .int .i64 0, .int .i64 0]).cells (n * 4)).size = n * 4 ∧ ∀ i, i < n → (madeCells (Value.agg #[.slice none 0 0, .int .i64 0, .int .i64 0, .int .i64 0]).cells (n * 4))[i * 4]? = some (.slice none 0 0) := by
  refine ⟨size_madeCells _ _, fun i hi => ?_⟩
  have hc : (Value.agg #[.slice none 0 0, .int .i64 0, .int .i64 0, .int .i64 0]).cells = #[.slice none 0 0, .int .i64 0, .int .i64 0, .int .i64 0] := by rfl
  unfold madeCells
  rw [hc]
  rw [Array.getElem?_map, Array.getElem?_range, if_pos (by omega)]
  simp

theorem three_new (w : World) (a b c : Obj) : (((w.alloc a).alloc b).alloc c).heap[w.heap.size]? = some a ∧ (((w.alloc a).alloc b).alloc c).heap[w.heap.size + 1]? = some b ∧ (((w.alloc a).alloc b).alloc c).heap[w.heap.size + 1 + 1]? = some c := by
  refine ⟨?_, ?_, ?_⟩
  · exact (Below.heap_alloc _ _ _ (by simp; omega)).trans ((Below.heap_alloc _ _ _ (by simp)).trans (World.alloc_heap_new w a))
  · have := World.alloc_heap_new (w.alloc a) b
    rw [World.size_alloc] at this
    exact (Below.heap_alloc _ _ _ (by simp)).trans this
  · have := World.alloc_heap_new ((w.alloc a).alloc b) c
    rw [World.size_alloc, World.size_alloc] at this
    exact this

theorem four_set {w' : World} {g : Nat} {x0 x1 x2 x3 : Value} {T : TypeId} (h : w'.heap[g]? = some (.cells #[x0, x1, x2, x3] T (0, 0))) (a b c d : Value) :
    ((((w'.setCell ⟨g, 0, none⟩ a).setCell ⟨g, 1, none⟩ b).setCell ⟨g, 2, none⟩ c).setCell ⟨g, 3, none⟩ d).heap[g]? = some (.cells #[a, b, c, d] T (0, 0)) := by
  have h1 := heap_setCell_same w' g 0 _ _ a h
  have h2 := heap_setCell_same _ g 1 _ _ b h1
  have h3 := heap_setCell_same _ g 2 _ _ c h2
  have h4 := heap_setCell_same _ g 3 _ _ d h3
  rw [h4]; rfl
theorem four_other (w' : World) {g j : Nat} (a b c d : Value) (h : j ≠ g) : ((((w'.setCell ⟨g, 0, none⟩ a).setCell ⟨g, 1, none⟩ b).setCell ⟨g, 2, none⟩ c).setCell ⟨g, 3, none⟩ d).heap[j]? = w'.heap[j]? := by
  rw [heap_setCell_other _ ⟨g, 3, none⟩ j _ (by simpa using h), heap_setCell_other _ ⟨g, 2, none⟩ j _ (by simpa using h), heap_setCell_other _ ⟨g, 1, none⟩ j _ (by simpa using h), heap_setCell_other _ ⟨g, 0, none⟩ j _ (by simpa using h)]
theorem four_below {B : Nat} {w w' : World} {g : Nat} (a b c d : Value) (h : Below B w w') (hg : B ≤ g) : Below B w ((((w'.setCell ⟨g, 0, none⟩ a).setCell ⟨g, 1, none⟩ b).setCell ⟨g, 2, none⟩ c).setCell ⟨g, 3, none⟩ d) := by
  have q : ∀ (W : World) (j : Nat) (v : Value), Below B w W → Below B w (W.setCell ⟨g, j, none⟩ v) := fun W j v hW => hW.setCell (p := ⟨g, j, none⟩) hg _
  exact q _ _ _ (q _ _ _ (q _ _ _ (q _ _ _ h)))

set_option maxHeartbeats 1600000 in
theorem to_house (h : Hs) (u : Value) (w : World) (hS : NRow w u h.names) (hn : h.names.length ≤ 1048576) :
    Calls Tryz.prog 151 #[.agg #[u, .int .i64 h.key, .int .i64 h.maxN, .int .i64 h.maxB]] w fun e w' => ∃ g, e = .returned (.agg #[.slice (some ⟨g, 0, none⟩) h.names.length h.names.length, .int .i64 h.key, .int .i64 h.maxN, .int .i64 h.maxB]) ∧ w.heap.size ≤ g ∧ SC w' g h.names.length (sget h.names) ∧ Below w.heap.size w w' := by
  obtain ⟨sa, sc, rfl, _⟩ := nrow_get hS
  obtain ⟨wA, hwA⟩ : ∃ wA, wA = ((w.alloc (.cells #[.slice sa h.names.length sc, .int .i64 h.key, .int .i64 h.maxN, .int .i64 h.maxB] 169)).alloc (.cells #[.slice none 0 0, .int .i64 0, .int .i64 0, .int .i64 0] 48)).alloc (.cells #[.slice none 0 0, .int .i64 0, .int .i64 0, .int .i64 0] 48) := ⟨_, rfl⟩
  have hsA : wA.heap.size = w.heap.size + 3 := by rw [hwA]; simp
  have hbA : Below w.heap.size w wA := by rw [hwA]; exact (((Below.refl _ _).alloc (Nat.le_refl _) _).alloc (by simp) _).alloc (by simp; omega) _
  have hC := to_strs _ h.names wA (hS.below (Nat.le_refl _) hbA) hn
  obtain ⟨hx0, hx1, hx2⟩ := three_new w (.cells #[.slice sa h.names.length sc, .int .i64 h.key, .int .i64 h.maxN, .int .i64 h.maxB] 169) (.cells #[.slice none 0 0, .int .i64 0, .int .i64 0, .int .i64 0] 48) (.cells #[.slice none 0 0, .int .i64 0, .int .i64 0, .int .i64 0] 48)
  rw [← hwA] at hx0 hx1 hx2
  obtain ⟨t0, t1, t2, t3, _⟩ := four_facts hx0
  rw [hwA] at t0 t1 t2 t3
  have HwA := Lib.hid hwA
  have HBA := Lib.hid hbA
  clear hwA hbA
  go_enter Tryz.func151, Tryz.ntmps151
  go_wp2_with fail
  rw [← HwA.out]
  refine hC.mono ?_
  rintro e w1 ⟨rfl, hsc, hb1⟩
  have hy0 := (hb1.block w.heap.size (by omega)).trans hx0
  have hy1 := (hb1.block (w.heap.size + 1) (by omega)).trans hx1
  have hy2 := (hb1.block (w.heap.size + 1 + 1) (by omega)).trans hx2
  have HB := Lib.hid (HBA.out.trans (hb1.mono (by omega)))
  have HSC := Lib.hid hsc
  clear t0 t1 t2 t3 hx0 hx1 hx2 hC hb1 hsc
  obtain ⟨t0, t1, t2, t3, _⟩ := four_facts hy0
  obtain ⟨p0, p1, p2, p3, f0, f1, f2, f3⟩ := four_facts hy1
  obtain ⟨r0, r1, r2, r3, e0, e1, e2, e3⟩ := four_facts hy2
  have hz1 := (four_other w1 (g := w.heap.size + 1 + 1) (j := w.heap.size + 1) (.slice (some ⟨w.heap.size + 3, 0, none⟩) h.names.length h.names.length) (.int .i64 h.key) (.int .i64 h.maxN) (.int .i64 h.maxB) (by omega)).trans hy1
  have hz2 := four_set hz1 (.slice (some ⟨w.heap.size + 3, 0, none⟩) h.names.length h.names.length) (.int .i64 h.key) (.int .i64 h.maxN) (.int .i64 h.maxB)
  have hfin := four_below (g := w.heap.size + 1) (.slice (some ⟨w.heap.size + 3, 0, none⟩) h.names.length h.names.length) (.int .i64 h.key) (.int .i64 h.maxN) (.int .i64 h.maxB) (four_below (g := w.heap.size + 1 + 1) (.slice (some ⟨w.heap.size + 3, 0, none⟩) h.names.length h.names.length) (.int .i64 h.key) (.int .i64 h.maxN) (.int .i64 h.maxB) HB.out (by omega)) (by omega)
  have hk := (four_other _ (g := w.heap.size + 1) (j := w.heap.size + 3) (.slice (some ⟨w.heap.size + 3, 0, none⟩) h.names.length h.names.length) (.int .i64 h.key) (.int .i64 h.maxN) (.int .i64 h.maxB) (by omega)).trans (four_other w1 (g := w.heap.size + 1 + 1) (j := w.heap.size + 3) (.slice (some ⟨w.heap.size + 3, 0, none⟩) h.names.length h.names.length) (.int .i64 h.key) (.int .i64 h.maxN) (.int .i64 h.maxB) (by omega))
  have hsc := HSC.out
  rw [hsA] at hsc
  have HF := Lib.hid (And.intro hz2 (And.intro hfin (hsc.keep hk)))
  clear hy0 hy1 hy2 hz1 hz2 hfin hk hsc
  go_wp2
  obtain ⟨hz2, hfin, hsc⟩ := HF.out
  obtain ⟨k0, k1, k2, k3, _⟩ := four_facts hz2
  exact bodyPost_ret (v := .agg #[.slice (some ⟨w.heap.size + 3, 0, none⟩) h.names.length h.names.length, .int .i64 h.key, .int .i64 h.maxN, .int .i64 h.maxB]) (by simp [results, Tryz.results151, go_sem, k0, k1, k2, k3]) rfl ⟨w.heap.size + 3, rfl, by omega, hsc, hfin⟩

set_option maxRecDepth 100000 in
set_option maxHeartbeats 1600000 in
theorem to_houses (v : Value) (hs : List Hs) (w : World) (hH : HRow w v hs) (hn : hs.length ≤ 1048576) (hm : ∀ x ∈ hs, x.names.length ≤ 1048576) :
    Calls Tryz.prog 96 #[v] w fun e w' => ∃ G, e = .returned (.slice (some ⟨w.heap.size, 0, none⟩) hs.length hs.length) ∧ HOwn w' w.heap.size w.heap.size hs.length hs.length hs G ∧ Below w.heap.size w w' := by
  obtain ⟨i0, hi, hz0, hz1, hz2⟩ := info_parts Tryz.infoHs
  have hH0 := hH
  obtain ⟨a, c, rfl, h1, h2, _⟩ := hH0
  unfold maxLen at h2
  have HH := Lib.hid hH; have HM := Lib.hid hm
  clear hH hm
  have hmk := fun W => run_make (P := Tryz.prog) W 23 48 i0 _ Tryz.underlying23 hi hz0 .i64 .i64 (hs.length : Int) (hs.length : Int) (by omega) (by omega) (by rw [hz2]; omega) (by omega)
  rw [hz1, Int.toNat_natCast] at hmk
  obtain ⟨m1, m2⟩ := made_hs hs.length
  generalize madeCells (Value.agg #[.slice none 0 0, .int .i64 0, .int .i64 0, .int .i64 0]).cells (hs.length * 4) = M at hmk m1 m2
  have HM1 := Lib.hid m1; have HM2 := Lib.hid m2; clear m1 m2
  go_enter Tryz.func96, Tryz.ntmps96
  go_wp2
  go_loopw [4] (fun i wr => ∃ (k : Nat) (G : Nat → Nat), k ≤ hs.length ∧ i = .int .i64 k ∧ HOwn wr w.heap.size w.heap.size hs.length k hs G ∧ Below w.heap.size w wr) (fun i _ => hs.length - (intOf i).toNat)
  case atStart => exact ⟨0, fun _ => 0, Nat.zero_le _, rfl, ⟨Nat.le_refl _, ⟨M, _, heap_alloc_new w _, HM1.out, fun i hi => ⟨none, 0, 0, HM2.out i hi⟩, fun i h hi => absurd hi (Nat.not_lt_zero i)⟩, fun i h hi => absurd hi (Nat.not_lt_zero i), fun i j _ hj => absurd hj (Nat.not_lt_zero j)⟩, (Below.refl _ _).alloc (Nat.le_refl _) _⟩
  case round =>
    obtain ⟨k, G, hk, rfl, hown, hnx⟩ := hrel
    by_cases hlt : k < hs.length
    · obtain ⟨h, hg⟩ : ∃ h, hs[k]? = some h := ⟨_, List.getElem?_eq_getElem hlt⟩
      obtain ⟨_, _, e1, _, _, hh⟩ := HH.out.below (Nat.le_refl _) hnx
      obtain ⟨b, o, u, ea, hb, c1, hS, c2, c3, c4⟩ := hh k h hg
      have ha : a = some ⟨b, o, none⟩ := by injection e1 with e1 _ _; rw [e1, ea]
      subst ha
      have hC := to_house h u wr hS (HM.out h (List.mem_of_getElem? hg))
      have HG := Lib.hid hg
      have HOw := Lib.hid hown
      have HNx := Lib.hid hnx
      have hl0 := hown.lt
      clear hS hh e1 hg ea hnx hown
      go_wp2_with fail
      refine hC.mono ?_
      rintro e w2 ⟨gk, rfl, hgk, hsc, hb2⟩
      have hown2 := HOw.out.below (Nat.le_refl _) hb2
      have hstep := hown2.step HG.out hlt (by omega) (by omega) (fun i hi => by
        obtain ⟨y, hy⟩ : ∃ y, hs[i]? = some y := ⟨_, List.getElem?_eq_getElem (by omega)⟩
        have := (HOw.out.2.2.1 i y hi hy).2.2.lt
        omega) hsc
      obtain ⟨⟨y0, q0⟩, ⟨y1, q1⟩, ⟨y2, q2⟩, ⟨y3, q3⟩⟩ := hown2.there hlt
      have f0 := hown2.frozen (k * 4)
      have f1 := hown2.frozen (k * 4 + 1)
      have f2 := hown2.frozen (k * 4 + 2)
      have f3 := hown2.frozen (k * 4 + 3)
      have HS := Lib.hid hstep
      have HB := Lib.hid (HNx.out.trans (hb2.mono HNx.out.size))
      clear hC hb2 c1 c2 c3 c4 hown2 hstep hsc
      go_wp2
      exact ⟨⟨k + 1, updG G k gk, by omega, by simp, HS.out, below_set4 HB.out⟩, by simp [intOf]; omega⟩
    · have hkn : k = hs.length := by omega
      subst hkn
      go_wp2
      go_ret
      exact ⟨G, rfl, hown, hnx⟩
end Go.Proofs.YtiepobifbkleaaaGreatDoor

-- from XCfgE4
/- The laws' own helpers over houses: a copy of all, equality. -/
namespace Go.Proofs.YtiepobifbkleaaaGreatDoor
open Go.RowKit Go.Maps

set_option maxHeartbeats 1600000 in
theorem to_cfg (v : Value) (hs : List Hs) (w : World) (hH : HRow w v hs) (hn : hs.length ≤ 1048576) (hm : ∀ x ∈ hs, x.names.length ≤ 1048576) :
    Calls Tryz.prog 40 #[.agg #[v]] w fun e w' => ∃ g G, e = .returned (.agg #[.slice (some ⟨g, 0, none⟩) hs.length hs.length]) ∧ HOwn w' w.heap.size g hs.length hs.length hs G ∧ Below w.heap.size w w' := by
  have hH0 := hH
  obtain ⟨a, c, rfl, _⟩ := hH0
  obtain ⟨wA, hwA⟩ : ∃ wA, wA = ((w.alloc (.cells #[.slice a hs.length c] 65)).alloc (.cells #[.slice none 0 0] 25)).alloc (.cells #[.slice none 0 0] 25) := ⟨_, rfl⟩
  have hsA : wA.heap.size = w.heap.size + 3 := by rw [hwA]; simp
  have hbA : Below w.heap.size w wA := by rw [hwA]; exact (((Below.refl _ _).alloc (Nat.le_refl _) _).alloc (by simp) _).alloc (by simp; omega) _
  have hC := to_houses _ hs wA (hH.below (Nat.le_refl _) hbA) hn hm
  obtain ⟨hx0, hx1, hx2⟩ := three_new w (.cells #[.slice a hs.length c] 65) (.cells #[.slice none 0 0] 25) (.cells #[.slice none 0 0] 25)
  rw [← hwA] at hx0 hx1 hx2
  obtain ⟨t0, _⟩ := one_fact hx0
  rw [hwA] at t0
  have HwA := Lib.hid hwA
  have HBA := Lib.hid hbA
  clear hwA hbA hH hm
  go_enter Tryz.func40, Tryz.ntmps40
  go_wp2_with fail
  rw [← HwA.out]
  refine hC.mono ?_
  rintro e w1 ⟨G, rfl, hown, hb1⟩
  rw [hsA] at hown
  have hy1 := (hb1.block (w.heap.size + 1) (by omega)).trans hx1
  have hy2 := (hb1.block (w.heap.size + 1 + 1) (by omega)).trans hx2
  obtain ⟨p0, f0⟩ := one_fact hy1
  obtain ⟨r0, e0⟩ := one_fact hy2
  have hb := HBA.out.trans (hb1.mono (by omega))
  have hz1 := (heap_setCell_other w1 ⟨w.heap.size + 1 + 1, 0, none⟩ (w.heap.size + 1) (.slice (some ⟨w.heap.size + 3, 0, none⟩) hs.length hs.length) (by simp)).trans hy1
  have hz2 := heap_setCell_same _ (w.heap.size + 1) 0 _ _ (.slice (some ⟨w.heap.size + 3, 0, none⟩) hs.length hs.length) hz1
  have hfin : Below w.heap.size w ((w1.setCell ⟨w.heap.size + 1 + 1, 0, none⟩ (.slice (some ⟨w.heap.size + 3, 0, none⟩) hs.length hs.length)).setCell ⟨w.heap.size + 1, 0, none⟩ (.slice (some ⟨w.heap.size + 3, 0, none⟩) hs.length hs.length)) :=
    (hb.setCell (p := ⟨w.heap.size + 1 + 1, 0, none⟩) (by simp; omega) _).setCell (p := ⟨w.heap.size + 1, 0, none⟩) (by simp) _
  have hown2 : HOwn ((w1.setCell ⟨w.heap.size + 1 + 1, 0, none⟩ (.slice (some ⟨w.heap.size + 3, 0, none⟩) hs.length hs.length)).setCell ⟨w.heap.size + 1, 0, none⟩ (.slice (some ⟨w.heap.size + 3, 0, none⟩) hs.length hs.length)) (w.heap.size + 3) (w.heap.size + 3) hs.length hs.length hs G := by
    refine hown.keep fun b hlt hB => ?_
    rw [heap_setCell_other _ ⟨w.heap.size + 1, 0, none⟩ b _ (by simp; omega), heap_setCell_other _ ⟨w.heap.size + 1 + 1, 0, none⟩ b _ (by simp; omega)]
  have HF := Lib.hid (And.intro hz2 (And.intro hfin hown2))
  clear hy1 hy2 hz1 hz2 hfin hown2 hown hb hb1 t0 hx0 hx1 hx2 hC
  go_wp2
  obtain ⟨hz2, hfin, hown2⟩ := HF.out
  obtain ⟨k0, _⟩ := one_fact hz2
  refine bodyPost_ret (v := .agg #[.slice (some ⟨w.heap.size + 3, 0, none⟩) hs.length hs.length]) (by simp [results, Tryz.results40, go_sem, k0]) rfl ⟨w.heap.size + 3, G, rfl, ?_, hfin⟩
  obtain ⟨q1, q2, q3, q4⟩ := hown2
  exact ⟨by omega, q2, fun i x hi hx => ⟨by have := (q3 i x hi hx).1; omega, (q3 i x hi hx).2⟩, q4⟩

set_option maxHeartbeats 1600000 in
theorem eq_house (h : Hs) (u1 u2 : Value) (w : World) (h1 : NRow w u1 h.names) (h2 : NRow w u2 h.names) :
    Calls Tryz.prog 153 #[.agg #[u1, .int .i64 h.key, .int .i64 h.maxN, .int .i64 h.maxB], .agg #[u2, .int .i64 h.key, .int .i64 h.maxN, .int .i64 h.maxB]] w fun e w' => e = .returned (.bool true) ∧ Below w.heap.size w w' := by
  obtain ⟨wA, hwA⟩ : ∃ wA, wA = (w.alloc (.cells #[u1, .int .i64 h.key, .int .i64 h.maxN, .int .i64 h.maxB] 48)).alloc (.cells #[u2, .int .i64 h.key, .int .i64 h.maxN, .int .i64 h.maxB] 48) := ⟨_, rfl⟩
  have hsA : wA.heap.size = w.heap.size + 2 := by rw [hwA]; simp
  have hbA : Below w.heap.size w wA := by rw [hwA]; exact ((Below.refl _ _).alloc (Nat.le_refl _) _).alloc (by simp) _
  have hC := eq_strs _ _ h.names wA (h1.below (Nat.le_refl _) hbA) (h2.below (Nat.le_refl _) hbA)
  have hx0 : wA.heap[w.heap.size]? = some (.cells #[u1, .int .i64 h.key, .int .i64 h.maxN, .int .i64 h.maxB] 48 (0, 0)) := by rw [hwA]; exact (Below.heap_alloc _ _ _ (by simp)).trans (World.alloc_heap_new w _)
  have hx1 : wA.heap[w.heap.size + 1]? = some (.cells #[u2, .int .i64 h.key, .int .i64 h.maxN, .int .i64 h.maxB] 48 (0, 0)) := by
    rw [hwA]
    have := World.alloc_heap_new (w.alloc (.cells #[u1, .int .i64 h.key, .int .i64 h.maxN, .int .i64 h.maxB] 48)) (.cells #[u2, .int .i64 h.key, .int .i64 h.maxN, .int .i64 h.maxB] 48)
    rw [World.size_alloc] at this
    exact this
  obtain ⟨a1, c1, rfl, _⟩ := nrow_get h1
  obtain ⟨a2, c2, rfl, _⟩ := nrow_get h2
  obtain ⟨t0, t1, t2, t3, _⟩ := four_facts hx0
  obtain ⟨s0, s1, s2, s3, _⟩ := four_facts hx1
  rw [hwA] at t0 t1 t2 t3 s0 s1 s2 s3
  have HwA := Lib.hid hwA
  have HBA := Lib.hid hbA
  clear hwA hbA h1 h2
  go_enter Tryz.func153, Tryz.ntmps153
  go_wp2_with fail
  rw [← HwA.out]
  refine hC.mono ?_
  rintro e w1 ⟨rfl, hb1⟩
  clear t0 t1 t2 t3 s0 s1 s2 s3
  obtain ⟨t0, t1, t2, t3, _⟩ := four_facts ((hb1.block w.heap.size (by omega)).trans hx0)
  obtain ⟨s0, s1, s2, s3, _⟩ := four_facts ((hb1.block (w.heap.size + 1) (by omega)).trans hx1)
  have HB := Lib.hid (HBA.out.trans (hb1.mono (by omega)))
  clear hb1 hC hx0 hx1
  go_wp2
  go_ret
  exact ⟨rfl, HB.out⟩

set_option maxHeartbeats 1600000 in
theorem eq_houses (v1 v2 : Value) (hs : List Hs) (w : World) (hH1 : HRow w v1 hs) (hH2 : HRow w v2 hs) :
    Calls Tryz.prog 98 #[v1, v2] w fun e w' => e = .returned (.bool true) ∧ Below w.heap.size w w' := by
  have g1 := hH1
  have g2 := hH2
  obtain ⟨a1, c1, rfl, hl1, hl2, h1⟩ := g1
  obtain ⟨a2, c2, rfl, hl3, hl4, h2⟩ := g2
  unfold maxLen at hl2 hl4
  have H1 := Lib.hid h1; have H2 := Lib.hid h2
  clear h1 h2 hH1 hH2
  go_enter Tryz.func98, Tryz.ntmps98
  go_wp2
  go_loopw [5] (fun i wr => ∃ k : Nat, k ≤ hs.length ∧ i = .int .i64 k ∧ Below w.heap.size w wr) (fun i _ => hs.length - (intOf i).toNat)
  case atStart => exact ⟨0, Nat.zero_le _, rfl, Below.refl _ _⟩
  case round =>
    obtain ⟨k, hk, rfl, hnx⟩ := hrel
    by_cases hlt : k < hs.length
    · obtain ⟨h, hg⟩ : ∃ h, hs[k]? = some h := ⟨_, List.getElem?_eq_getElem hlt⟩
      obtain ⟨b1, o1, u1, ea1, hb1, x0, xS, x1, x2, x3⟩ := H1.out k h hg
      obtain ⟨b2, o2, u2, ea2, hb2, y0, yS, y1, y2, y3⟩ := H2.out k h hg
      subst ea1 ea2
      have hE : ∀ W, Below w.heap.size w W → Calls Tryz.prog 153 #[.agg #[u1, .int .i64 h.key, .int .i64 h.maxN, .int .i64 h.maxB], .agg #[u2, .int .i64 h.key, .int .i64 h.maxN, .int .i64 h.maxB]] W fun e w' => e = .returned (.bool true) ∧ Below w.heap.size w w' :=
        fun W hW => (eq_house h u1 u2 W (xS.below (Nat.le_refl _) hW) (yS.below (Nat.le_refl _) hW)).mono fun e w' q => ⟨q.1, hW.trans (q.2.mono hW.size)⟩
      have k0 := (hnx.cell (p := ⟨b1, o1 + k * 4, none⟩) hb1).trans x0
      have k1 := (hnx.cell (p := ⟨b1, o1 + k * 4 + 1, none⟩) hb1).trans x1
      have k2 := (hnx.cell (p := ⟨b1, o1 + k * 4 + 2, none⟩) hb1).trans x2
      have k3 := (hnx.cell (p := ⟨b1, o1 + k * 4 + 3, none⟩) hb1).trans x3
      have m0 := (hnx.cell (p := ⟨b2, o2 + k * 4, none⟩) hb2).trans y0
      have m1 := (hnx.cell (p := ⟨b2, o2 + k * 4 + 1, none⟩) hb2).trans y1
      have m2 := (hnx.cell (p := ⟨b2, o2 + k * 4 + 2, none⟩) hb2).trans y2
      have m3 := (hnx.cell (p := ⟨b2, o2 + k * 4 + 3, none⟩) hb2).trans y3
      have HE := Lib.hid hE
      clear x0 x1 x2 x3 y0 y1 y2 y3 hE xS yS hg
      have i1 : (k : Int) < (hs.length : Int) := by omega
      have HN := Lib.hid hnx; clear hnx
      go_wp2_with fail
      go_region_with (go_at_call 153; refine (HE.out _ HN.out.drew).mono ?_; rintro e w1 ⟨rfl, hbx⟩; have hbz := hbx)
      all_goals go_wp2
      all_goals go_roundw
      all_goals first
        | (case rel => exact ⟨k + 1, by omega, by go_num, hbz⟩)
        | (simp [intOf]; omega)
    · have hkn : k = hs.length := by omega
      subst hkn
      go_wp2
      go_ret
      exact ⟨rfl, hnx⟩

set_option maxHeartbeats 1600000 in
theorem eq_cfg (v1 v2 : Value) (hs : List Hs) (w : World) (hH1 : HRow w v1 hs) (hH2 : HRow w v2 hs) :
    Calls Tryz.prog 43 #[.agg #[v1], .agg #[v2]] w fun e w' => e = .returned (.bool true) ∧ Below w.heap.size w w' := by
  have hbA : Below w.heap.size w ((w.alloc (.cells #[v1] 25)).alloc (.cells #[v2] 25)) := ((Below.refl _ _).alloc (Nat.le_refl _) _).alloc (by simp) _
  have hC := eq_houses v1 v2 hs _ (hH1.below (Nat.le_refl _) hbA) (hH2.below (Nat.le_refl _) hbA)
  obtain ⟨a1, c1, rfl, _⟩ := hH1
  obtain ⟨a2, c2, rfl, _⟩ := hH2
  have HB := Lib.hid hbA
  clear hbA
  go_enter Tryz.func43, Tryz.ntmps43
  go_wp2_with fail
  refine hC.mono ?_
  rintro e w1 ⟨rfl, hb1⟩
  have HB1 := Lib.hid (HB.out.trans (hb1.mono HB.out.size))
  clear hC hb1
  go_wp2
  go_ret
  exact ⟨rfl, HB1.out⟩
end Go.Proofs.YtiepobifbkleaaaGreatDoor

-- from XCfgA
/- The laws' own helpers over houses: marks. -/
namespace Go.Proofs.YtiepobifbkleaaaGreatDoor
open Go.RowKit Go.Maps

/-- n houses in block g, the i-th one F i; us i: the slice of its names, a row of the call's own from block B on. -/
def HF (w : World) (B g n : Nat) (F : Nat → Hs) (us : Nat → Value) : Prop :=
  B ≤ g ∧ (∃ cur t, w.heap[g]? = some (.cells cur t (0, 0)) ∧ n * 4 ≤ cur.size ∧ ∀ i, i < n → cur[i * 4]? = some (us i) ∧ cur[i * 4 + 1]? = some (.int .i64 (F i).key) ∧ cur[i * 4 + 2]? = some (.int .i64 (F i).maxN) ∧ cur[i * 4 + 3]? = some (.int .i64 (F i).maxB)) ∧
  (∀ i, i < n → w.ownsRow B 9 1 (us i) (F i).names.length ((F i).names.map Value.string) ∧ (us i).ownBlock ≠ some g) ∧
  ∀ i j, i < j → j < n → (us i).ownBlock = none ∨ (us i).ownBlock ≠ (us j).ownBlock

theorem own_same {w w' : World} {B : Nat} {e : TypeId} {size : Nat} {v : Value} {n : Nat} {xs : List Value} (h : w.ownsRow B e size v n xs) (hk : ∀ b, v.ownBlock = some b → w'.heap[b]? = w.heap[b]?) : w'.ownsRow B e size v n xs := by
  refine ⟨h.1, ?_⟩
  rcases h.2 with h | ⟨g, cap, cur, rfl, hb, hh, rest⟩
  · exact .inl h
  · exact .inr ⟨g, cap, cur, rfl, hb, (hk g rfl).trans hh, rest⟩
theorem HF.lt {w : World} {B g n : Nat} {F : Nat → Hs} {us : Nat → Value} (h : HF w B g n F us) : g < w.heap.size := by
  obtain ⟨_, ⟨cur, t, hh, _⟩, _⟩ := h
  exact (Array.getElem?_eq_some_iff.1 hh).1
theorem HF.same {w w' : World} {B g n : Nat} {F : Nat → Hs} {us : Nat → Value} (h : HF w B g n F us) (hg : w'.heap[g]? = w.heap[g]?) (hk : ∀ i b, i < n → (us i).ownBlock = some b → w'.heap[b]? = w.heap[b]?) : HF w' B g n F us := by
  obtain ⟨h0, ⟨cur, t, hh, hc⟩, ho, hd⟩ := h
  exact ⟨h0, ⟨cur, t, hg.trans hh, hc⟩, fun i hi => ⟨own_same (ho i hi).1 (fun b hb => hk i b hi hb), (ho i hi).2⟩, hd⟩
theorem HF.below {w w' : World} {B g n : Nat} {F : Nat → Hs} {us : Nat → Value} (h : HF w B g n F us) (hb : Below w.heap.size w w') : HF w' B g n F us :=
  h.same (hb.block g h.lt) fun i b hi e => hb.block b ((h.2.2.1 i hi).1.lt b e).2
theorem HF.cells {w : World} {B g n : Nat} {F : Nat → Hs} {us : Nat → Value} (h : HF w B g n F us) {i : Nat} (hi : i < n) :
    w.cell? ⟨g, i * 4, none⟩ = some (us i) ∧ w.cell? ⟨g, i * 4 + 1, none⟩ = some (.int .i64 (F i).key) ∧ w.cell? ⟨g, i * 4 + 2, none⟩ = some (.int .i64 (F i).maxN) ∧ w.cell? ⟨g, i * 4 + 3, none⟩ = some (.int .i64 (F i).maxB) := by
  obtain ⟨_, ⟨cur, t, hh, _, hc⟩, _⟩ := h
  obtain ⟨c0, c1, c2, c3⟩ := hc i hi
  simp [World.cell?, hh, c0, c1, c2, c3]
theorem HF.frozen {w : World} {B g n : Nat} {F : Nat → Hs} {us : Nat → Value} (h : HF w B g n F us) (j : Nat) : w.frozen? ⟨g, j, none⟩ = false := by
  obtain ⟨_, ⟨cur, t, hh, _⟩, _⟩ := h
  simp [World.frozen?, hh]
theorem HF.congr {w : World} {B g n : Nat} {F F' : Nat → Hs} {us : Nat → Value} (h : HF w B g n F us) (he : ∀ i, i < n → F i = F' i) : HF w B g n F' us := by
  obtain ⟨h0, ⟨cur, t, hh, hs, hc⟩, ho, hd⟩ := h
  exact ⟨h0, ⟨cur, t, hh, hs, fun i hi => by rw [← he i hi]; exact hc i hi⟩, fun i hi => by rw [← he i hi]; exact ho i hi, hd⟩

def hget (hs : List Hs) (i : Nat) : Hs := (hs[i]?).getD ⟨[], 0, 0, 0⟩
theorem hget_at {hs : List Hs} {i : Nat} {x : Hs} (h : hs[i]? = some x) : hget hs i = x := by simp [hget, h]
theorem HF.row {w : World} {B g c : Nat} {hs : List Hs} {us : Nat → Value} (h : HF w B g hs.length (hget hs) us) (h1 : hs.length ≤ c) (h2 : c ≤ maxLen) : HRow w (.slice (some ⟨g, 0, none⟩) hs.length c) hs := by
  refine ⟨_, _, rfl, h1, h2, fun j x hj => ?_⟩
  have hjl := (List.getElem?_eq_some_iff.1 hj).1
  obtain ⟨c0, c1, c2, c3⟩ := h.cells hjl
  have ho := (h.2.2.1 j hjl).1
  rw [hget_at hj] at c1 c2 c3 ho
  refine ⟨g, 0, us j, rfl, h.lt, ?_, nrow_own ho, ?_, ?_, ?_⟩
  all_goals rw [Nat.zero_add]; assumption
theorem sc_own {w : World} {B g : Nat} {L : List ByteArray} (h : SC w g L.length (sget L)) (hB : B ≤ g) (hn : L.length ≤ maxLen) : w.ownsRow B 9 1 (.slice (some ⟨g, 0, none⟩) L.length L.length) L.length (L.map Value.string) := by
  obtain ⟨cur, hh, hs, hc⟩ := h
  refine ⟨by simp, .inr ⟨g, L.length, cur, rfl, hB, hh, Nat.le_refl _, hn, by omega, ?_⟩⟩
  apply List.ext_getElem?
  intro i
  by_cases hi : i < L.length
  · have := hc i hi
    rw [sget_at (List.getElem?_eq_getElem hi)] at this
    rw [List.getElem?_take, if_pos (by omega), Array.getElem?_toList, this, List.getElem?_map, List.getElem?_eq_getElem hi]
    rfl
  · rw [List.getElem?_eq_none (by simp; omega), List.getElem?_eq_none (by simp; omega)]
theorem hf_of_own {w : World} {B g : Nat} {hs : List Hs} {G : Nat → Nat} (h : HOwn w B g hs.length hs.length hs G) (hm : ∀ x ∈ hs, x.names.length ≤ 1048576) : HF w B g hs.length (hget hs) (fun i => .slice (some ⟨G i, 0, none⟩) (hget hs i).names.length (hget hs i).names.length) := by
  obtain ⟨h0, ⟨cur, t, hh, hs1, _, hc⟩, hg, hd⟩ := h
  refine ⟨h0, ⟨cur, t, hh, by omega, fun i hi => ?_⟩, fun i hi => ?_, fun i j hij hj => ?_⟩
  · have hx : hs[i]? = some hs[i] := List.getElem?_eq_getElem hi
    dsimp only
    rw [hget_at hx]
    exact hc i _ hi hx
  · have hx : hs[i]? = some hs[i] := List.getElem?_eq_getElem hi
    obtain ⟨q1, q2, q3⟩ := hg i _ hi hx
    dsimp only
    rw [hget_at hx]
    exact ⟨sc_own q3 q1 (by unfold maxLen; have := hm _ (List.getElem_mem hi); omega), fun e => q2 (by simpa [Value.ownBlock] using e)⟩
  · right
    simp only [Value.ownBlock, ne_eq, Option.some.injEq]
    exact hd i j hij hj

/-- What marking may turn: block g and the rows of the names. -/
def Frm (w w' : World) (g n : Nat) (us : Nat → Value) : Prop :=
  w'.os = w.os ∧ w'.tape = w.tape ∧ w'.output = w.output ∧ w.heap.size ≤ w'.heap.size ∧ ∀ b, b < w.heap.size → b ≠ g → (∀ i, i < n → (us i).ownBlock ≠ some b) → w'.heap[b]? = w.heap[b]?
theorem Frm.refl (w : World) (g n : Nat) (us : Nat → Value) : Frm w w g n us := ⟨rfl, rfl, rfl, Nat.le_refl _, fun _ _ _ _ => rfl⟩
theorem Frm.grown {a b c : World} {g n : Nat} {us : Nat → Value} {row : Option Nat} (h : Frm a b g n us) (k : b.grownBy c row) (hr : ∀ r, row = some r → r = g ∨ ∃ i, i < n ∧ (us i).ownBlock = some r) : Frm a c g n us := by
  obtain ⟨h1, h2, h3, h4, h5⟩ := h
  refine ⟨k.os.trans h1, k.tape.trans h2, k.output.trans h3, Nat.le_trans h4 k.size, fun x hx hg hu => (k.block x (by omega) (fun e => ?_)).trans (h5 x hx hg hu)⟩
  rcases hr x e.symm with e | ⟨i, hi, e⟩
  · exact hg e
  · exact hu i hi e

/-- The marks. -/
def mkNames (k n : Nat) : List ByteArray := (List.range n).map fun i => ⟨(markS (k + i)).toArray⟩
theorem mk_marks (k n : Nat) : (mkNames k n).map Value.string = marks k n := by
  simp [mkNames, marks, strV]
theorem mk_len (k n : Nat) : (mkNames k n).length = n := by simp [mkNames]
def mkHouse (k n : Nat) : Hs := ⟨mkNames k n, ((k + n : Nat) : Int), ((k + n + 1 : Nat) : Int), ((k + n + 2 : Nat) : Int)⟩
def kAt (k : Nat) (F : Nat → Hs) : Nat → Nat
  | 0 => k
  | j + 1 => kAt k F j + (F j).names.length + 3
def mkTo (k : Nat) (F : Nat → Hs) (j : Nat) : Nat → Hs := fun i => if i < j then mkHouse (kAt k F i) (F i).names.length else F i
end Go.Proofs.YtiepobifbkleaaaGreatDoor

-- from XCfgA2
/- The laws' own helpers over houses: marked, held. -/
namespace Go.Proofs.YtiepobifbkleaaaGreatDoor
open Go.RowKit Go.Maps

theorem kAt_le (k : Nat) (F : Nat → Hs) {i j : Nat} (h : i ≤ j) : kAt k F i ≤ kAt k F j := by
  induction j with
  | zero => have : i = 0 := by omega
            subst this; exact Nat.le_refl _
  | succ j ih =>
    by_cases e : i = j + 1
    · subst e; exact Nat.le_refl _
    · have := ih (by omega)
      show kAt k F i ≤ kAt k F j + (F j).names.length + 3
      omega
theorem kAt_step (k : Nat) (F : Nat → Hs) (j : Nat) : kAt k F (j + 1) = kAt k F j + (F j).names.length + 3 := rfl
def updF (F : Nat → Hs) (j : Nat) (x : Hs) : Nat → Hs := fun i => if i = j then x else F i
theorem mkTo_step (k : Nat) (F : Nat → Hs) (j : Nat) : updF (mkTo k F j) j (mkHouse (kAt k F j) (F j).names.length) = mkTo k F (j + 1) := by
  funext i
  unfold updF mkTo
  by_cases e : i = j
  · subst e; simp
  · rw [if_neg e]
    by_cases hi : i < j
    · rw [if_pos hi, if_pos (by omega)]
    · rw [if_neg hi, if_neg (by omega)]
theorem mkTo_at (k : Nat) (F : Nat → Hs) (j : Nat) : mkTo k F j j = F j := by simp [mkTo]

def set3 (w : World) (g j : Nat) (a b c : Value) : World := ((w.setCell ⟨g, j * 4 + 1, none⟩ a).setCell ⟨g, j * 4 + 2, none⟩ b).setCell ⟨g, j * 4 + 3, none⟩ c
theorem set3_other (w : World) (g j : Nat) (a b c : Value) {x : Nat} (h : x ≠ g) : (set3 w g j a b c).heap[x]? = w.heap[x]? := by
  unfold set3
  rw [heap_setCell_other _ ⟨g, j * 4 + 3, none⟩ x _ (by simpa using h), heap_setCell_other _ ⟨g, j * 4 + 2, none⟩ x _ (by simpa using h), heap_setCell_other _ ⟨g, j * 4 + 1, none⟩ x _ (by simpa using h)]
theorem set3_frm {a w : World} {g n : Nat} {us : Nat → Value} (h : Frm a w g n us) (j : Nat) (x y z : Value) : Frm a (set3 w g j x y z) g n us := by
  have q : ∀ (W : World) (i : Nat) (v : Value), Frm a W g n us → Frm a (W.setCell ⟨g, i, none⟩ v) g n us := fun W i v hW =>
    hW.grown (row := some g) ⟨rfl, rfl, rfl, by simp, fun j _ hj => heap_setCell_other W ⟨g, i, none⟩ j _ (fun e => hj (by simp [e]))⟩ (fun r e => by cases e; exact .inl rfl)
  exact q _ _ _ (q _ _ _ (q _ _ _ h))
theorem hf_mark {w w1 : World} {B g n j : Nat} {F : Nat → Hs} {us : Nat → Value} (h : HF w B g n F us) (hj : j < n) (hg : w.grownBy w1 (us j).ownBlock) (x : Hs) (ho : w1.ownsRow B 9 1 (us j) x.names.length (x.names.map Value.string)) :
    HF (set3 w1 g j (.int .i64 x.key) (.int .i64 x.maxN) (.int .i64 x.maxB)) B g n (updF F j x) us := by
  have hlt := h.lt
  obtain ⟨h0, ⟨cur, t, hh, hsz, hc⟩, hr, hd⟩ := h
  have hgg : w1.heap[g]? = some (.cells cur t (0, 0)) := (hg.block g hlt (fun e => (hr j hj).2 e.symm)).trans hh
  have s1 := heap_setCell_same w1 g (j * 4 + 1) cur t (.int .i64 x.key) hgg
  have s2 := heap_setCell_same _ g (j * 4 + 2) _ t (.int .i64 x.maxN) s1
  have s3 := heap_setCell_same _ g (j * 4 + 3) _ t (.int .i64 x.maxB) s2
  refine ⟨h0, ⟨_, t, s3, by simpa using hsz, fun i hi => ?_⟩, fun i hi => ?_, hd⟩
  · obtain ⟨c0, c1, c2, c3⟩ := hc i hi
    unfold updF
    by_cases e : i = j
    · subst e
      simp only [if_true]
      refine ⟨?_, ?_, ?_, ?_⟩
      · rw [Array.getElem?_setIfInBounds_ne (by omega), Array.getElem?_setIfInBounds_ne (by omega), Array.getElem?_setIfInBounds_ne (by omega)]; exact c0
      · rw [Array.getElem?_setIfInBounds_ne (by omega), Array.getElem?_setIfInBounds_ne (by omega), Array.getElem?_setIfInBounds_self_of_lt (by omega)]
      · rw [Array.getElem?_setIfInBounds_ne (by omega), Array.getElem?_setIfInBounds_self_of_lt (by simp; omega)]
      · rw [Array.getElem?_setIfInBounds_self_of_lt (by simp; omega)]
    · simp only [if_neg e]
      refine ⟨?_, ?_, ?_, ?_⟩
      all_goals
        rw [Array.getElem?_setIfInBounds_ne (by omega), Array.getElem?_setIfInBounds_ne (by omega), Array.getElem?_setIfInBounds_ne (by omega)]
        assumption
  · obtain ⟨q1, q2⟩ := hr i hi
    refine ⟨?_, q2⟩
    unfold updF
    by_cases e : i = j
    · subst e
      simp only [if_true]
      exact own_same ho fun b hb => set3_other w1 g i _ _ _ (fun e => q2 (by rw [hb, e]))
    · simp only [if_neg e]
      refine own_same q1 fun b hb => (set3_other w1 g j _ _ _ (fun e => q2 (by rw [hb, e]))).trans (hg.block b (q1.lt b hb).2 (fun e2 => ?_))
      rw [← hb] at e2
      rcases Nat.lt_or_gt_of_ne e with k | k
      · rcases hd i j k hj with z | z
        · rw [z] at hb; cases hb
        · exact z e2
      · rcases hd j i k hi with z | z
        · rw [z, hb] at e2; cases e2
        · exact z e2.symm

set_option maxRecDepth 100000 in
set_option maxHeartbeats 3200000 in
theorem mark_houses (g c k n B : Nat) (F : Nat → Hs) (us : Nat → Value) (w : World) (h : HF w B g n F us) (hk : kAt k F n < 10000000) :
    Calls Tryz.prog 100 #[.slice (some ⟨g, 0, none⟩) n c, .int .i64 (k : Int)] w fun e w' => e = .returned (.int .i64 ((kAt k F n : Nat) : Int)) ∧ HF w' B g n (mkTo k F n) us ∧ Frm w w' g n us := by
  have hsmall : n < 10000000 := by
    have : ∀ m, m ≤ kAt k F m := fun m => by
      induction m with
      | zero => exact Nat.zero_le _
      | succ m ih => unfold kAt; omega
    have := this n
    omega
  go_enter Tryz.func100, Tryz.ntmps100
  go_wp2_with fail
  go_loopw [1, 5] (fun q i wr => ∃ j : Nat, j ≤ n ∧ i = .int .i64 j ∧ q = .int .i64 ((kAt k F j : Nat) : Int) ∧ HF wr B g n (mkTo k F j) us ∧ Frm w wr g n us) (fun _ i _ => n - (intOf i).toNat)
  case atStart => exact ⟨0, Nat.zero_le _, rfl, rfl, h.congr (fun i _ => by simp [mkTo]), Frm.refl _ _ _ _⟩
  case round =>
    obtain ⟨j, hj, rfl, rfl, hown, hfr⟩ := hrel
    by_cases hlt : j < n
    · have hkj := kAt_le k F (show j + 1 ≤ n from hlt)
      rw [kAt_step] at hkj
      obtain ⟨c0, _⟩ := hown.cells hlt
      obtain ⟨ho, hne⟩ := hown.2.2.1 j hlt
      rw [mkTo_at] at ho
      have hC := mark_strings (us j) (kAt k F j) (F j).names.length B _ wr (by omega) ho
      have hl := hown.lt
      have HO := Lib.hid hown
      have HFr := Lib.hid hfr
      have HNe := Lib.hid hne
      have HStep := Lib.hid (kAt_step k F j)
      have HTo := Lib.hid (mkTo_step k F j)
      clear ho hown hfr hne
      generalize kAt k F j = kj at *
      go_wp2_with fail
      refine hC.mono ?_
      rintro e w1 ⟨rfl, ho1, hg1⟩
      have hst := hf_mark HO.out hlt hg1 (mkHouse kj (F j).names.length) (by unfold mkHouse; simp only [mk_len, mk_marks]; exact ho1)
      rw [HTo.out] at hst
      have hblk := (hg1.block g hl (fun e => HNe.out e.symm))
      obtain ⟨_, ⟨cur, t, hh, hsz, _⟩, _⟩ := HO.out
      have hh1 := hblk.trans hh
      have fz : ∀ x, w1.frozen? ⟨g, x, none⟩ = false := fun x => by simp [World.frozen?, hh1]
      have ce : ∀ x, x < n * 4 → w1.cell? ⟨g, x, none⟩ = some (cur[x]?.getD undef) := fun x hx => by
        simp [World.cell?, hh1, Array.getElem?_eq_getElem (show x < cur.size by omega)]
      have e1 := ce (j * 4 + 1) (by omega)
      have e2 := ce (j * 4 + 2) (by omega)
      have e3 := ce (j * 4 + 3) (by omega)
      have f1 := fz (j * 4 + 1)
      have f2 := fz (j * 4 + 2)
      have f3 := fz (j * 4 + 3)
      have hF2 := set3_frm (HFr.out.grown hg1 (fun r e => .inr ⟨j, hlt, e⟩)) j (.int .i64 (mkHouse kj (F j).names.length).key) (.int .i64 (mkHouse kj (F j).names.length).maxN) (.int .i64 (mkHouse kj (F j).names.length).maxB)
      have HS := Lib.hid (And.intro hst hF2)
      clear hC hg1 ho1 hst hF2 hblk hh hh1 fz ce c0 hsz
      generalize cur[j * 4 + 1]?.getD undef = y1 at *
      generalize cur[j * 4 + 2]?.getD undef = y2 at *
      generalize cur[j * 4 + 3]?.getD undef = y3 at *
      have ea : ((kj + (F j).names.length : Nat) : Int) = (kj : Int) + ((F j).names.length : Int) := by omega
      have eb : ((kj + (F j).names.length + 1 : Nat) : Int) = (kj : Int) + ((F j).names.length : Int) + 1 := by omega
      have ec : ((kj + (F j).names.length + 2 : Nat) : Int) = (kj : Int) + ((F j).names.length : Int) + 1 + 1 := by omega
      have hs2 := HS.out
      unfold set3 mkHouse at hs2
      dsimp only at hs2
      rw [ea, eb, ec] at hs2
      have HS2 := Lib.hid hs2
      have HE := Lib.hid (And.intro ea (And.intro eb ec))
      clear hs2 HS ea eb ec
      go_wp2
      exact ⟨⟨j + 1, by omega, by simp, by rw [HStep.out]; exact congrArg (Value.int .i64) (by omega), HS2.out⟩, by simp [intOf]; omega⟩
    · have hjn : j = n := by omega
      subst hjn
      go_wp2
      go_ret
      exact ⟨rfl, hown, hfr⟩

end Go.Proofs.YtiepobifbkleaaaGreatDoor

-- from XCfgB
/- Walks: one house by itself: a fresh copy of a house, by the program. -/
namespace Go.Proofs.YtiepobifbkleaaaGreatDoor
open Go.RowKit Go.Maps

set_option maxHeartbeats 400000 in
theorem fresh_n (s : ByteArray) (w : World) (hs : s.size ≤ 281474976710656) :
    Calls Tryz.prog 68 #[.string s] w fun e w' => e = .returned (.string s) ∧ Below w.heap.size w w' := by
  go_enter Tryz.func68, Tryz.ntmps68
  go_wp2_with (first | (go_at_call 168; refine (Tryz.stringslite_Clone _ _ hs).mono ?_; rintro e w' ⟨rfl, hb⟩) | go_in)
  go_ret
  exact ⟨rfl, hb⟩

end Go.Proofs.YtiepobifbkleaaaGreatDoor

-- from XCfgB2
/- Walks: one house by itself, by the program. -/
namespace Go.Proofs.YtiepobifbkleaaaGreatDoor
open Go.RowKit Go.Shelf Go.Maps
attribute [local go_sem] Oper.semAt_some

/-- House number k alone; none, if houses are not ok, or there is no such one. -/
def aloneL (hs : List Hs) (k : Int) : List Hs := if cfgB hs = true ∧ 0 ≤ k ∧ k < hs.length then [hget hs k.toNat] else []
/-- One house or none, in memory of the call's own. -/
def RAl (w : World) (B : Nat) (L : List Hs) (u : Value) : Prop :=
  (L = [] ∧ u = .slice none 0 0) ∨ ∃ g us h, L = [h] ∧ u = .slice (some ⟨g, 0, none⟩) 1 1 ∧ HF w B g 1 (hget [h]) us
theorem RAl.row {w : World} {B : Nat} {L : List Hs} {u : Value} (h : RAl w B L u) : HRow w u L := by
  rcases h with ⟨rfl, rfl⟩ | ⟨g, us, x, rfl, rfl, hf⟩
  · exact ⟨none, 0, rfl, Nat.le_refl _, Nat.zero_le _, fun j f hj => by simp at hj⟩
  · exact HF.row (hs := [x]) hf (Nat.le_refl _) (by decide)
theorem hf_own {w w' : World} {B g n D : Nat} {F : Nat → Hs} {us : Nat → Value} {row : Option Nat} (h : HF w B g n F us) (hg : w.grownBy w' row) (hr : ∀ r, row = some r → D ≤ r ∧ ∃ o : Obj, w.heap[r]? = some o ∧ o.isCells = false) : HF w' B g n F us := by
  obtain ⟨h0, ⟨cur, t, hh, hc⟩, ho, hd⟩ := h
  have hgl := (Array.getElem?_eq_some_iff.1 hh).1
  refine HF.same ⟨h0, ⟨cur, t, hh, hc⟩, ho, hd⟩ (hg.block g hgl (fun e => ?_)) (fun i b hi hb => hg.block b ((ho i hi).1.lt b hb).2 (fun e => ?_))
  · obtain ⟨o, ho2, hc2⟩ := (hr g e.symm).2
    rw [hh] at ho2; cases ho2; cases hc2
  · obtain ⟨o, ho2, hc2⟩ := (hr b e.symm).2
    rcases (ho i hi).1.2 with ⟨q, _⟩ | ⟨g', cap, cur', q, _, hh', _⟩
    · rw [q] at hb; cases hb
    · rw [q] at hb
      have : g' = b := by simpa [Value.ownBlock] using hb
      subst this
      rw [hh'] at ho2; cases ho2; cases hc2
theorem hf_one {w : World} {B g gk c : Nat} {x : Hs} {T : TypeId} (hB : B ≤ g) (hh : w.heap[g]? = some (.cells #[.slice (some ⟨gk, 0, none⟩) x.names.length c, .int .i64 x.key, .int .i64 x.maxN, .int .i64 x.maxB] T (0, 0)))
    (ho : w.ownsRow B 9 1 (.slice (some ⟨gk, 0, none⟩) x.names.length c) x.names.length (x.names.map Value.string)) (hne : gk ≠ g) : HF w B g 1 (hget [x]) (fun _ => .slice (some ⟨gk, 0, none⟩) x.names.length c) := by
  refine ⟨hB, ⟨_, T, hh, by simp, fun i hi => ?_⟩, fun i hi => ?_, fun i j hij hj => absurd hij (by omega)⟩
  · have : i = 0 := by omega
    subst this
    simp [hget]
  · have : i = 0 := by omega
    subst this
    exact ⟨by simpa [hget] using ho, fun e => hne (by simpa [Value.ownBlock] using e)⟩

end Go.Proofs.YtiepobifbkleaaaGreatDoor

-- from XCfgB3
/- Walks: one house by itself, by the specification; houses marked and held. -/
namespace Go.Proofs.YtiepobifbkleaaaGreatDoor
open Go.RowKit Go.Maps

theorem alone_no {hs : List Hs} {k : Int} (h : ¬ (cfgB hs = true ∧ 0 ≤ k ∧ k < hs.length)) : aloneL hs k = [] := if_neg h
theorem alone_yes {hs : List Hs} {k : Nat} {h : Hs} (hok : cfgB hs = true) (hg : hs[k]? = some h) : aloneL hs (k : Int) = [h] := by
  have hlt := (List.getElem?_eq_some_iff.1 hg).1
  unfold aloneL
  rw [if_pos ⟨hok, by omega, by omega⟩, Int.toNat_natCast, hget_at hg]

end Go.Proofs.YtiepobifbkleaaaGreatDoor

-- from XCfgB4
/- The laws' own helpers over houses: sizes, all together; marks of all. -/
namespace Go.Proofs.YtiepobifbkleaaaGreatDoor
open Go.RowKit Go.Maps

set_option maxHeartbeats 800000 in
theorem szt_strs (v : Value) (L : List ByteArray) (r : Int) (hr0 : 0 ≤ r) (hr1 : r ≤ 1048576) (w : World) (hS : NRow w v L) (hN : NOk L maxLen) :
    Calls Tryz.prog 187 #[v, .int .i64 r] w fun e w' => (∃ q : Int, e = .returned (.int .i64 q) ∧ (q < 0 ∨ (0 ≤ q ∧ q ≤ 1048576 ∧ NOk L 1048576 ∧ L.length ≤ 1048576 ∧ q + (L.length : Int) ≤ r))) ∧ w = w' := by
  obtain ⟨a, c, rfl, h1, h2, h3⟩ := hS
  unfold maxLen at h2 hN
  have H3 := Lib.hid h3; have HN := Lib.hid hN
  clear h3 hN
  by_cases hbig : r < L.length
  · go_enter Tryz.func187, Tryz.ntmps187
    go_wp2
    go_ret
    exact ⟨⟨-1, rfl, .inl (by omega)⟩, rfl⟩
  · go_enter Tryz.func187, Tryz.ntmps187
    go_wp2
    go_loopw [1, 5] (fun x i wr => ∃ (k : Nat) (q : Int), k ≤ L.length ∧ i = .int .i64 k ∧ x = .int .i64 q ∧ 0 ≤ q ∧ q ≤ 1048576 ∧ q + (L.length : Int) ≤ r ∧ Hid (∀ (j : Nat) (s : ByteArray), j < k → L[j]? = some s → s.size ≤ 1048576) ∧ wr = w) (fun _ i _ => L.length - (intOf i).toNat)
    case atStart => exact ⟨0, _, Nat.zero_le _, rfl, rfl, by omega, by omega, by omega, Lib.hid (fun j f hj => by omega), rfl⟩
    case round =>
      obtain ⟨k, q, hk, rfl, rfl, hq0, hq1, hq2, hall, rfl⟩ := hrel
      by_cases hlt : k < L.length
      · obtain ⟨s, hg⟩ : ∃ s, L[k]? = some s := ⟨_, List.getElem?_eq_getElem hlt⟩
        obtain ⟨b, o, ea, _, c1⟩ := H3.out k s hg
        subst ea
        have hs := HN.out s (List.mem_of_getElem? hg)
        have HG := Lib.hid hg
        clear hg
        by_cases hle : (s.size : Int) ≤ q
        · have i1 : ¬ (q - (s.size : Int) < 0) := by omega
          go_wp2
          go_roundw
          case rel =>
            refine ⟨k + 1, q - (s.size : Int), by omega, by go_num, by go_num, by omega, by omega, by omega, Lib.hid (fun j t hj ht => ?_), trivial⟩
            by_cases e : j = k
            · subst e; rw [HG.out] at ht; cases ht; omega
            · exact hall.out j t (by omega) ht
          case measure => simp [intOf]; omega
        · have i1 : q - (s.size : Int) < 0 := by omega
          go_wp2
          go_ret
          exact ⟨⟨-1, rfl, .inl (by omega)⟩, rfl⟩
      · have hkl : k = L.length := by omega
        go_wp2
        go_ret
        exact ⟨⟨q, rfl, .inr ⟨hq0, hq1, fun s hs => by
          obtain ⟨j, hj, rfl⟩ := List.mem_iff_getElem.1 hs
          exact hall.out j _ (by omega) (List.getElem?_eq_getElem hj), by omega, hq2⟩⟩, rfl⟩

set_option maxHeartbeats 800000 in
theorem szt_house (h : Hs) (u : Value) (r : Int) (hr0 : 0 ≤ r) (hr1 : r ≤ 1048576) (w : World) (hS : NRow w u h.names) (hN : NOk h.names maxLen) :
    Calls Tryz.prog 149 #[.agg #[u, .int .i64 h.key, .int .i64 h.maxN, .int .i64 h.maxB], .int .i64 r] w fun e w' => (∃ q : Int, e = .returned (.int .i64 q) ∧ (q < 0 ∨ (0 ≤ q ∧ q ≤ 1048576 ∧ NOk h.names 1048576 ∧ h.names.length ≤ 1048576 ∧ q + (h.names.length : Int) ≤ r))) ∧ Below w.heap.size w w' := by
  have hbA : Below w.heap.size w (w.alloc (.cells #[u, .int .i64 h.key, .int .i64 h.maxN, .int .i64 h.maxB] 169)) := (Below.refl _ _).alloc (Nat.le_refl _) _
  have hC := szt_strs u h.names r hr0 hr1 _ (hS.below (Nat.le_refl _) hbA) hN
  obtain ⟨sa, sc, rfl, _⟩ := nrow_get hS
  have HB := Lib.hid hbA
  clear hbA hN
  go_enter Tryz.func149, Tryz.ntmps149
  go_wp2_with fail
  refine hC.mono ?_
  rintro e w1 ⟨⟨q, rfl, hq⟩, rfl⟩
  clear hC
  rcases hq with hq | ⟨q0, q1, q2, q3, q4⟩
  · go_wp2
    go_ret
    exact ⟨⟨-1, rfl, .inl (by omega)⟩, HB.out⟩
  · have i1 : ¬ q < 0 := by omega
    go_wp2
    go_ret
    exact ⟨⟨q, rfl, .inr ⟨q0, q1, q2, q3, q4⟩⟩, HB.out⟩

set_option maxHeartbeats 1600000 in
theorem szt_houses (v : Value) (hs : List Hs) (w : World) (hH : HRow w v hs) (hN : HOks hs maxLen) :
    Calls Tryz.prog 94 #[v, .int .i64 1048576] w fun e w' => (∃ q : Int, e = .returned (.int .i64 q) ∧ (q < 0 ∨ (0 ≤ q ∧ HOks hs 1048576 ∧ hs.length ≤ 1048576 ∧ (∀ h ∈ hs, h.names.length ≤ 1048576) ∧ q + (hs.length : Int) + ((namesL hs).length : Int) ≤ 1048576))) ∧ Below w.heap.size w w' := by
  have hH0 := hH
  obtain ⟨a, c, rfl, h1, h2, _⟩ := hH0
  unfold maxLen at h2
  have HH := Lib.hid hH; have HN := Lib.hid hN
  clear hH hN
  by_cases hbig : 1048576 < hs.length
  · go_enter Tryz.func94, Tryz.ntmps94
    go_wp2
    go_ret
    exact ⟨⟨-1, rfl, .inl (by omega)⟩, Below.refl _ _⟩
  · go_enter Tryz.func94, Tryz.ntmps94
    go_wp2
    go_loopw [1, 5] (fun x i wr => ∃ (k : Nat) (q : Int), k ≤ hs.length ∧ i = .int .i64 k ∧ x = .int .i64 q ∧ 0 ≤ q ∧ q ≤ 1048576 ∧ q + (hs.length : Int) + ((namesL (hs.take k)).length : Int) ≤ 1048576 ∧ Hid (∀ (j : Nat) (h : Hs), j < k → hs[j]? = some h → NOk h.names 1048576 ∧ h.names.length ≤ 1048576) ∧ Below w.heap.size w wr) (fun _ i _ => hs.length - (intOf i).toNat)
    case atStart => exact ⟨0, _, Nat.zero_le _, rfl, rfl, by omega, by omega, by simp only [List.take_zero, namesL, List.flatMap_nil, List.length_nil]; omega, Lib.hid (fun j f hj => by omega), Below.refl _ _⟩
    case round =>
      obtain ⟨k, q, hk, rfl, rfl, hq0, hq1, hq2, hall, hnx⟩ := hrel
      by_cases hlt : k < hs.length
      · obtain ⟨h, hg⟩ : ∃ h, hs[k]? = some h := ⟨_, List.getElem?_eq_getElem hlt⟩
        obtain ⟨_, _, e1, _, _, hh⟩ := HH.out.below (Nat.le_refl _) hnx
        obtain ⟨b, o, u, ea, hb, c1, hS, c2, c3, c4⟩ := hh k h hg
        have ha : a = some ⟨b, o, none⟩ := by injection e1 with e1 _ _; rw [e1, ea]
        subst ha
        have hC := szt_house h u q hq0 hq1 wr hS (HN.out h (List.mem_of_getElem? hg))
        have HG := Lib.hid hg
        have HNx := Lib.hid hnx
        clear hS hh e1 hg ea hnx
        go_wp2_with fail
        refine hC.mono ?_
        rintro e w2 ⟨⟨q', rfl, hq⟩, hb2⟩
        have HB := Lib.hid (HNx.out.trans (hb2.mono HNx.out.size))
        clear hC hb2 c1 c2 c3 c4
        rcases hq with hq | ⟨q0, q1, q2, q3, q4⟩
        · go_wp2
          go_ret
          exact ⟨⟨-1, rfl, .inl (by omega)⟩, HB.out⟩
        · have i1 : ¬ q' < 0 := by omega
          go_wp2
          go_roundw
          case rel =>
            refine ⟨k + 1, q', by omega, by go_num, rfl, q0, q1, by rw [namesL_take HG.out, List.length_append]; omega, Lib.hid (fun j t hj ht => ?_), HB.out⟩
            by_cases e : j = k
            · subst e; rw [HG.out] at ht; cases ht; exact ⟨q2, q3⟩
            · exact hall.out j t (by omega) ht
          case measure => simp [intOf]; omega
      · have hkl : k = hs.length := by omega
        have HB := Lib.hid hnx
        rw [hkl, List.take_length] at hq2
        have HQ := Lib.hid hq2
        clear hnx hq2
        go_wp2
        go_ret
        have hall' : ∀ h ∈ hs, NOk h.names 1048576 ∧ h.names.length ≤ 1048576 := fun h hh => by
          obtain ⟨j, hj, rfl⟩ := List.mem_iff_getElem.1 hh
          exact hall.out j _ (by omega) (List.getElem?_eq_getElem hj)
        exact ⟨⟨q, rfl, .inr ⟨hq0, fun h hh => (hall' h hh).1, by omega, fun h hh => (hall' h hh).2, by have := HQ.out; omega⟩⟩, HB.out⟩

set_option maxHeartbeats 800000 in
theorem szt_cfg (v : Value) (hs : List Hs) (w : World) (hH : HRow w v hs) (hN : HOks hs maxLen) :
    Calls Tryz.prog 38 #[.agg #[v], .int .i64 1048576] w fun e w' => (∃ q : Int, e = .returned (.int .i64 q) ∧ (q < 0 ∨ (0 ≤ q ∧ HOks hs 1048576 ∧ hs.length ≤ 1048576 ∧ (∀ h ∈ hs, h.names.length ≤ 1048576) ∧ q + (hs.length : Int) + ((namesL hs).length : Int) ≤ 1048576))) ∧ Below w.heap.size w w' := by
  have hbA : Below w.heap.size w (w.alloc (.cells #[v] 65)) := (Below.refl _ _).alloc (Nat.le_refl _) _
  have hC := szt_houses v hs _ (hH.below (Nat.le_refl _) hbA) hN
  obtain ⟨a, c, rfl, _⟩ := hH
  have HB := Lib.hid hbA
  clear hbA hN
  go_enter Tryz.func38, Tryz.ntmps38
  go_wp2_with fail
  refine hC.mono ?_
  rintro e w1 ⟨⟨q, rfl, hq⟩, hb1⟩
  have HB1 := Lib.hid (HB.out.trans (hb1.mono (by simp)))
  clear hC hb1
  rcases hq with hq | ⟨q0, q1, q2, q3, q4⟩
  · go_wp2
    go_ret
    exact ⟨⟨-1, rfl, .inl (by omega)⟩, HB1.out⟩
  · have i1 : ¬ q < 0 := by omega
    go_wp2
    go_ret
    exact ⟨⟨q, rfl, .inr ⟨q0, q1, q2, q3, q4⟩⟩, HB1.out⟩

theorem kAt_names (k : Nat) (hs : List Hs) (j : Nat) (hj : j ≤ hs.length) : kAt k (hget hs) j = k + (namesL (hs.take j)).length + 3 * j := by
  induction j with
  | zero => simp [kAt, namesL]
  | succ j ih =>
    have hg : hs[j]? = some hs[j] := List.getElem?_eq_getElem (by omega)
    rw [kAt_step, ih (by omega), namesL_take hg, List.length_append, hget_at hg]
    omega

set_option maxHeartbeats 800000 in
theorem mark_cfg (g c n B : Nat) (F : Nat → Hs) (us : Nat → Value) (w : World) (h : HF w B g n F us) (hk : kAt 1 F n < 10000000) :
    Calls Tryz.prog 45 #[.agg #[.slice (some ⟨g, 0, none⟩) n c], .int .i64 1] w fun e w' => e = .returned (.int .i64 ((kAt 1 F n : Nat) : Int)) ∧ HF w' B g n (mkTo 1 F n) us ∧ Frm w w' g n us := by
  have hbA : Below w.heap.size w (w.alloc (.cells #[.slice (some ⟨g, 0, none⟩) n c] 25)) := (Below.refl _ _).alloc (Nat.le_refl _) _
  have hC := mark_houses g c 1 n B F us _ (h.below hbA) hk
  have hlt := h.lt
  have hul : ∀ i b, i < n → (us i).ownBlock = some b → b < w.heap.size := fun i b hi hb => ((h.2.2.1 i hi).1.lt b hb).2
  have HUl := Lib.hid hul
  have hbl : ∀ b, b < w.heap.size → (w.alloc (.cells #[.slice (some ⟨g, 0, none⟩) n c] 25)).heap[b]? = w.heap[b]? := fun b hb => Below.heap_alloc w _ b hb
  have HBl := Lib.hid hbl
  clear hul hbl h hbA
  go_enter Tryz.func45, Tryz.ntmps45
  go_wp2_with fail
  refine hC.mono ?_
  rintro e w1 ⟨rfl, hf, hfr⟩
  have HF1 := Lib.hid hf
  have hfr2 : Frm w w1 g n us := by
    obtain ⟨q1, q2, q3, q4, q5⟩ := hfr
    exact ⟨q1, q2, q3, by simp at q4; omega, fun b hb hg hu => (q5 b (by simp; omega) hg hu).trans (HBl.out b hb)⟩
  have HFr := Lib.hid hfr2
  clear hC hf hfr hfr2
  go_wp2
  go_ret
  exact ⟨rfl, HF1.out, HFr.out⟩
theorem mark_noneC (w : World) (c : Nat) :
    Calls Tryz.prog 45 #[.agg #[.slice none 0 c], .int .i64 1] w fun e w' => e = .returned (.int .i64 1) ∧ Below w.heap.size w w' := by
  have hC : ∀ W, Calls Tryz.prog 100 #[.slice none 0 c, .int .i64 1] W fun e w' => e = .returned (.int .i64 1) ∧ w' = W := fun W => by
    go_enter Tryz.func100, Tryz.ntmps100
    go_wp2_with fail
    go_loopw [1, 5] (fun q i wr => i = .int .i64 0 ∧ q = .int .i64 1 ∧ wr = W) (fun _ _ _ => 0)
    case atStart => exact ⟨rfl, rfl, rfl⟩
    case round =>
      obtain ⟨rfl, rfl, rfl⟩ := hrel
      go_wp2
      go_ret
      exact ⟨rfl, rfl⟩
  go_enter Tryz.func45, Tryz.ntmps45
  go_wp2_with fail
  refine (hC _).mono ?_
  rintro e w1 ⟨rfl, rfl⟩
  go_wp2
  go_ret
  exact ⟨rfl, (Below.refl _ _).alloc (Nat.le_refl _) _⟩
end Go.Proofs.YtiepobifbkleaaaGreatDoor

