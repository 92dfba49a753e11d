import Derived.Test.YtbhnjnoblkfckabGreatDoorGA12
import Derived.Test.YtbhnjnoblkfckabGreatDoorGA13
import Derived.Test.YtbhnjnoblkfckabGreatDoorGA02
import Derived.Deep.SlicePairs
import Derived.WideShapes
import Derived.ChangeArms
import Derived.Deep.Strs
import Derived.Deep.Fields
import Derived.Lib.SmallJoins
import Derived.Test.YtbhnjnoblkfckabGreatDoorGA11
import Derived.Test.YtbhnjnoblkfckabGreatDoorGA01
import Derived.Test.YtbhnjnoblkfckabGreatDoorGA09
import Derived.Stop.LaidErr
-- from XHxB
/- The laws' own helpers over requests: sized, copied, equal, marked, held. -/
namespace Go.Proofs.YtbhnjnoblkfckabGreatDoor
open Go.RowKit Go.Maps

def headV (h : Hd) (v : Value) : Value := .agg #[.string h.verb, .string h.target, .string h.host, v, .string h.body]
structure HSz (h : Hd) : Prop where
  verb : h.verb.size ≤ 1048576
  target : h.target.size ≤ 1048576
  host : h.host.size ≤ 1048576
  body : h.body.size ≤ 1048576
  fs : FOk h.fs 1048576
  len : h.fs.length ≤ 1048576

set_option maxRecDepth 100000 in
set_option maxHeartbeats 1600000 in
theorem sz_head (h : Hd) (v : Value) (w : World) (hF : FRow w v h.fs) (hok : FOk h.fs maxLen) (b1 : h.verb.size ≤ maxLen) (b2 : h.target.size ≤ maxLen) (b3 : h.host.size ≤ maxLen) (b4 : h.body.size ≤ maxLen) :
    Calls Tryz.prog 8 #[headV h v, .int .i64 1048576] w fun e w' => (∃ r : Int, e = .returned (.int .i64 r) ∧ (r < 0 ∨ (0 ≤ r ∧ HSz h))) ∧ Below w.heap.size w w' := by
  unfold maxLen at b1 b2 b3 b4
  obtain ⟨verb, target, host, fs, body⟩ := h
  dsimp only at *
  obtain ⟨wA, hwA⟩ : ∃ wA, wA = w.alloc (.cells #[.string verb, .string target, .string host, v, .string body] 24) := ⟨_, rfl⟩
  have hsA : wA.heap.size = w.heap.size + 1 := by rw [hwA]; simp
  have hbA : Below w.heap.size w wA := by rw [hwA]; exact (Below.refl _ _).alloc (Nat.le_refl _) _
  have hH : wA.heap[w.heap.size]? = some (.cells #[.string verb, .string target, .string host, v, .string body] 24 (0, 0)) := by rw [hwA]; exact heap_alloc_new w _
  obtain ⟨q0, q1, q2, q3, q4, _⟩ := five_facts hH
  have hFA := hF.below (Nat.le_refl _) hbA
  have HW := Lib.hid hwA; have HH := Lib.hid hH; have HB := Lib.hid hbA
  have HQ := Lib.hid (And.intro q0 (And.intro q1 (And.intro q2 (And.intro q3 q4))))
  clear hwA hF hH hbA q0 q1 q2 q3 q4
  unfold headV
  by_cases c1 : (1048576 : Int) - verb.size < 0
  · clear hFA
    go_enter Tryz.func8, Tryz.ntmps8
    go_wp2_with fail
    go_ret
    exact ⟨⟨-1, rfl, .inl (by omega)⟩, by rw [← HW.out]; exact HB.out⟩
  by_cases c2 : (1048576 : Int) - verb.size - target.size < 0
  · clear hFA
    go_enter Tryz.func8, Tryz.ntmps8
    go_wp2_with fail
    go_ret
    exact ⟨⟨-1, rfl, .inl (by omega)⟩, by rw [← HW.out]; exact HB.out⟩
  by_cases c3 : (1048576 : Int) - verb.size - target.size - host.size < 0
  · clear hFA
    go_enter Tryz.func8, Tryz.ntmps8
    go_wp2_with fail
    go_ret
    exact ⟨⟨-1, rfl, .inl (by omega)⟩, by rw [← HW.out]; exact HB.out⟩
  have hS := sz_fields v fs ((1048576 : Int) - verb.size - target.size - host.size) (by omega) (by omega) wA hFA hok
  clear hFA hok
  have HS := Lib.hid hS
  clear hS
  go_enter Tryz.func8, Tryz.ntmps8
  go_wp2_with fail
  rw [← HW.out]
  refine HS.out.mono ?_
  rintro e w2 ⟨⟨r, rfl, hr⟩, hb2⟩
  have hh2 := (hb2.block w.heap.size (by omega)).trans HH.out
  obtain ⟨q0, q1, q2, q3, q4, _⟩ := five_facts hh2
  have HB2 := Lib.hid (HB.out.trans (hb2.mono (by omega)))
  clear hb2 hh2
  rcases hr with rfl | ⟨h0, hL, hfo, hfn⟩
  · go_wp2
    go_ret
    exact ⟨⟨-1, rfl, .inl (by omega)⟩, HB2.out⟩
  · have HFo := Lib.hid hfo
    clear hfo
    by_cases c4 : r - body.size < 0
    · go_wp2
      go_ret
      exact ⟨⟨-1, rfl, .inl (by omega)⟩, HB2.out⟩
    · go_wp2
      go_ret
      exact ⟨⟨_, rfl, .inr ⟨by omega, ⟨by simp only; omega, by simp only; omega, by simp only; omega, by simp only; omega, HFo.out, hfn⟩⟩⟩, HB2.out⟩

set_option maxRecDepth 100000 in
set_option maxHeartbeats 1600000 in
theorem to_head (h : Hd) (v : Value) (w : World) (hF : FRow w v h.fs) (hn : h.fs.length ≤ 1048576) :
    Calls Tryz.prog 10 #[headV h v] w fun e w' => (∃ g, e = .returned (headV h (.slice (some ⟨g, 0, none⟩) h.fs.length h.fs.length)) ∧ w.heap.size ≤ g ∧ FCells w' g h.fs.length (fget h.fs)) ∧ Below w.heap.size w w' := by
  obtain ⟨verb, target, host, fs, body⟩ := h
  dsimp only at *
  unfold headV
  have hT := fun W hW => to_fields v fs W hW hn
  obtain ⟨W3, hW3⟩ : ∃ W3, W3 = ((w.alloc (.cells #[.string verb, .string target, .string host, v, .string body] 24)).alloc (.cells #[.string ⟨#[]⟩, .string ⟨#[]⟩, .string ⟨#[]⟩, .slice none 0 0, .string ⟨#[]⟩] 32)).alloc (.cells #[.string verb, .string target, .string host, .slice none 0 0, .string ⟨#[]⟩] 32) := ⟨_, rfl⟩
  have hz3 : W3.heap.size = w.heap.size + 3 := by rw [hW3]; simp
  have hb3 : Below w.heap.size w W3 := by
    rw [hW3]
    exact (((Below.refl _ _).alloc (Nat.le_refl _) _).alloc (by simp) _).alloc (by simp; omega) _
  have hA0 : W3.heap[w.heap.size]? = some (.cells #[.string verb, .string target, .string host, v, .string body] 24 (0, 0)) := by
    rw [hW3, Below.heap_alloc _ _ _ (by simp; omega), Below.heap_alloc _ _ _ (by simp)]; exact heap_alloc_new w _
  have hA1 : W3.heap[w.heap.size + 1]? = some (.cells #[.string ⟨#[]⟩, .string ⟨#[]⟩, .string ⟨#[]⟩, .slice none 0 0, .string ⟨#[]⟩] 32 (0, 0)) := by
    rw [hW3, Below.heap_alloc _ _ _ (by simp)]
    have := heap_alloc_new (w.alloc (.cells #[.string verb, .string target, .string host, v, .string body] 24)) (.cells #[.string ⟨#[]⟩, .string ⟨#[]⟩, .string ⟨#[]⟩, .slice none 0 0, .string ⟨#[]⟩] 32)
    simpa using this
  have hA2 : W3.heap[w.heap.size + 2]? = some (.cells #[.string verb, .string target, .string host, .slice none 0 0, .string ⟨#[]⟩] 32 (0, 0)) := by
    rw [hW3]
    have := heap_alloc_new ((w.alloc (.cells #[.string verb, .string target, .string host, v, .string body] 24)).alloc (.cells #[.string ⟨#[]⟩, .string ⟨#[]⟩, .string ⟨#[]⟩, .slice none 0 0, .string ⟨#[]⟩] 32)) (.cells #[.string verb, .string target, .string host, .slice none 0 0, .string ⟨#[]⟩] 32)
    simpa using this
  have hT3 := hT W3 (hF.below (Nat.le_refl _) hb3)
  have HA := Lib.hid (And.intro hA0 (And.intro hA1 hA2))
  have HB := Lib.hid hb3; have HW := Lib.hid hW3
  clear hA0 hA1 hA2 hb3 hW3 hT hF
  go_enter Tryz.func10, Tryz.ntmps10
  go_wp2_with fail
  rw [← HW.out]
  refine hT3.mono ?_
  rintro e w4 ⟨rfl, hfc, hb4⟩
  have h0 := (hb4.block w.heap.size (by omega)).trans HA.out.1
  have h1 := (hb4.block (w.heap.size + 1) (by omega)).trans HA.out.2.1
  have h2 := (hb4.block (w.heap.size + 2) (by omega)).trans HA.out.2.2
  have hbl := HB.out.trans (hb4.mono (by omega))
  have hglt := hfc.lt
  rw [hz3] at hfc hglt
  rw [hz3]
  clear hT3 hb4
  obtain ⟨a0, a1, a2, a3, a4, _⟩ := five_facts h0
  obtain ⟨b0, b1, b2, b3, b4, c0, c1, c2, c3, c4⟩ := five_facts h1
  obtain ⟨d0, d1, d2, d3, d4, e0, e1, e2, e3, e4⟩ := five_facts h2
  -- the two stores into the variable, then the result's variable
  have hs1 := heap_setCell_same w4 (w.heap.size + 2) 3 _ _ (.slice (some ⟨w.heap.size + 3, 0, none⟩) fs.length fs.length) h2
  have hs2 := heap_setCell_same _ (w.heap.size + 2) 4 _ _ (.string body) hs1
  have hr1 := (heap_setCell_other (w4.setCell ⟨w.heap.size + 2, 3, none⟩ (.slice (some ⟨w.heap.size + 3, 0, none⟩) fs.length fs.length)) ⟨w.heap.size + 2, 4, none⟩ (w.heap.size + 1) (.string body) (by simp)).trans ((heap_setCell_other w4 ⟨w.heap.size + 2, 3, none⟩ (w.heap.size + 1) (.slice (some ⟨w.heap.size + 3, 0, none⟩) fs.length fs.length) (by simp)).trans h1)
  have z := five_set hr1 (.string verb) (.string target) (.string host) (.slice (some ⟨w.heap.size + 3, 0, none⟩) fs.length fs.length) (.string body)
  have hfin : ∀ k, w.heap.size + 2 < k → (set5 ((w4.setCell ⟨w.heap.size + 2, 3, none⟩ (.slice (some ⟨w.heap.size + 3, 0, none⟩) fs.length fs.length)).setCell ⟨w.heap.size + 2, 4, none⟩ (.string body)) (w.heap.size + 1) (.string verb) (.string target) (.string host) (.slice (some ⟨w.heap.size + 3, 0, none⟩) fs.length fs.length) (.string body)).heap[k]? = w4.heap[k]? := fun k hk => by
    rw [set5_other (by omega), heap_setCell_other _ ⟨w.heap.size + 2, 4, none⟩ k _ (by simp; omega), heap_setCell_other _ ⟨w.heap.size + 2, 3, none⟩ k _ (by simp; omega)]
  have hbf : Below w.heap.size w (set5 ((w4.setCell ⟨w.heap.size + 2, 3, none⟩ (.slice (some ⟨w.heap.size + 3, 0, none⟩) fs.length fs.length)).setCell ⟨w.heap.size + 2, 4, none⟩ (.string body)) (w.heap.size + 1) (.string verb) (.string target) (.string host) (.slice (some ⟨w.heap.size + 3, 0, none⟩) fs.length fs.length) (.string body)) :=
    (below_setB (below_setB hbl (by omega)) (by omega)).trans ((below_set5 (Below.refl _ _)).mono (Nat.le_succ _))
  have hfc5 := hfc.keep (hfin _ (by omega))
  unfold set5 at z hbf hfc5
  obtain ⟨z0, z1, z2, z3, z4, _⟩ := five_facts z
  have HZ := Lib.hid (And.intro z0 (And.intro z1 (And.intro z2 (And.intro z3 (And.intro z4 (And.intro hbf hfc5))))))
  clear z0 z1 z2 z3 z4 z hfin hbf hfc5 hr1 hs1 hs2 h0 h1 h2 hbl hfc
  go_wp2_with fail
  obtain ⟨z0, z1, z2, z3, z4, hbf, hfc5⟩ := HZ.out
  refine bodyPost_ret (v := .agg #[.string verb, .string target, .string host, .slice (some ⟨w.heap.size + 3, 0, none⟩) fs.length fs.length, .string body]) (by simp [results, Tryz.results10, go_sem, z0, z1, z2, z3, z4]) rfl ?_
  exact ⟨⟨_, rfl, by omega, hfc5⟩, hbf⟩

set_option maxRecDepth 100000 in
set_option maxHeartbeats 1600000 in
theorem eq_head (h : Hd) (v1 v2 : Value) (w : World) (hF1 : FRow w v1 h.fs) (hF2 : FRow w v2 h.fs) (hn : h.fs.length ≤ 2000000) :
    Calls Tryz.prog 13 #[headV h v1, headV h v2] w fun e w' => e = .returned (.bool true) ∧ Below w.heap.size w w' := by
  obtain ⟨verb, target, host, fs, body⟩ := h
  dsimp only at *
  unfold headV
  obtain ⟨W2, hW2⟩ : ∃ W2, W2 = (w.alloc (.cells #[.string verb, .string target, .string host, v1, .string body] 32)).alloc (.cells #[.string verb, .string target, .string host, v2, .string body] 32) := ⟨_, rfl⟩
  have hz2 : W2.heap.size = w.heap.size + 2 := by rw [hW2]; simp
  have hb2 : Below w.heap.size w W2 := by
    rw [hW2]; exact ((Below.refl _ _).alloc (Nat.le_refl _) _).alloc (by simp) _
  have hA0 : W2.heap[w.heap.size]? = some (.cells #[.string verb, .string target, .string host, v1, .string body] 32 (0, 0)) := by
    rw [hW2, Below.heap_alloc _ _ _ (by simp)]; exact heap_alloc_new w _
  have hA1 : W2.heap[w.heap.size + 1]? = some (.cells #[.string verb, .string target, .string host, v2, .string body] 32 (0, 0)) := by
    rw [hW2]
    have := heap_alloc_new (w.alloc (.cells #[.string verb, .string target, .string host, v1, .string body] 32)) (.cells #[.string verb, .string target, .string host, v2, .string body] 32)
    simpa using this
  have hE := eq_fields v1 v2 fs W2 (hF1.below (Nat.le_refl _) hb2) (hF2.below (Nat.le_refl _) hb2) hn
  have HA := Lib.hid (And.intro hA0 hA1)
  have HB := Lib.hid hb2; have HW := Lib.hid hW2
  clear hA0 hA1 hb2 hW2 hF1 hF2
  have e1 := str_refl verb; have e2 := str_refl target; have e3 := str_refl host; have e4 := str_refl body
  go_enter Tryz.func13, Tryz.ntmps13
  go_wp2_with fail
  rw [← HW.out]
  refine hE.mono ?_
  rintro e w3 ⟨rfl, hb3⟩
  have h0 := (hb3.block w.heap.size (by omega)).trans HA.out.1
  have h1 := (hb3.block (w.heap.size + 1) (by omega)).trans HA.out.2
  have hbl := HB.out.trans (hb3.mono (by omega))
  clear hb3 hE
  obtain ⟨a0, a1, a2, a3, a4, _⟩ := five_facts h0
  obtain ⟨b0, b1, b2, b3, b4, _⟩ := five_facts h1
  go_wp2
  go_ret
  exact ⟨rfl, hbl⟩
end Go.Proofs.YtbhnjnoblkfckabGreatDoor

-- from XFOpen
/- A list of fields that came in, opened. -/
namespace Go.Proofs.YtbhnjnoblkfckabGreatDoor
open Go.RowKit Go.ChangeShapes Go.WideShapes Go.Deep

theorem cellsStrF : Tryz.prog.cellsOf 9 = 1 := by kernel_rfl
theorem cellsFd : Tryz.prog.cellsOf 113 = 2 := by kernel_rfl

theorem open_frow {H : Type} {enc : TypeId × Value → H} {W : World} {v : Value} {d : DataW H} {p : List MemPlace} {base : Nat} {held : Bool} (hv : ∃ a len cap, v = .slice a len cap) (h : DataW.Trod enc Tryz.prog W base (fun _ => true) held 22 v d p) :
    ∃ fs, FRow W v fs ∧ FOk fs maxLen := by
  obtain ⟨va, vlen, vcap, rfl⟩ := hv
  obtain ⟨fuel, hf⟩ := h
  rcases open_slice_pairs Tryz.underlying22 Tryz.underlying113 cellsFd rfl rfl cellsStrF cellsStrF hf with ⟨hcs, _⟩ | ⟨a, len, cap, m, n, V0, V1, D0, D1, P0, P1, hcs, _, hl, hc, hm, _, hx⟩
  · simp [Value.cells] at hcs
    obtain ⟨rfl, rfl, rfl⟩ := hcs
    exact ⟨[], ⟨none, 0, rfl, Nat.le_refl _, Nat.zero_le _, fun j f hj => by simp at hj⟩, fun f hf => by simp at hf⟩
  · simp [Value.cells] at hcs
    obtain ⟨rfl, rfl, rfl⟩ := hcs
    have hlm : vlen ≤ m := by rw [hm]; simpa using hl
    have each : ∀ i, i < m → ∃ f : Fd, W.cell? (a.add (i * 2)) = some (.string f.1) ∧ W.cell? (a.add (i * 2 + 1)) = some (.string f.2) ∧ f.1.size ≤ maxLen ∧ f.2.size ≤ maxLen := fun i hi => by
      obtain ⟨q0, q1, t0, t1⟩ := hx i hi
      obtain ⟨s0, e0, _, z0⟩ := DataW.trod_string Tryz.underlying9 t0
      obtain ⟨s1, e1, _, z1⟩ := DataW.trod_string Tryz.underlying9 t1
      simp only [List.cons.injEq, and_true] at e0 e1
      exact ⟨(s0, s1), by rw [q0, e0], by rw [q1, e1], z0, z1⟩
    obtain ⟨F, hF⟩ := choose_lt each
    have hget : ∀ j f, ((List.range vlen).map F)[j]? = some f → j < vlen ∧ F j = f := fun j f hj => by
      rw [List.getElem?_map] at hj
      rcases Nat.lt_or_ge j vlen with h | h
      · rw [List.getElem?_range h] at hj
        exact ⟨h, by simpa using hj⟩
      · rw [List.getElem?_eq_none (by simpa using h)] at hj; cases hj
    refine ⟨(List.range vlen).map F, ⟨some a, vcap, by simp, by simpa using hl, hc, fun j f hj => ?_⟩, fun f hf => ?_⟩
    · obtain ⟨hj1, hj2⟩ := hget j f hj
      obtain ⟨q0, q1, _, _⟩ := hF j (by omega)
      rw [hj2] at q0 q1
      obtain ⟨b, off, spot⟩ := a
      have hspot : spot = none := by have q := World.cell?_spot (hF 0 (by omega)).1; simpa [Addr.add] using q
      subst hspot
      have ea : ∀ k, (⟨b, off, none⟩ : Addr).add k = ⟨b, off + k, none⟩ := fun k => by unfold Addr.add; split <;> simp_all
      rw [ea] at q0 q1
      exact ⟨b, off, rfl, World.block_lt_of_cell? W _ q0, q0, q1⟩
    · obtain ⟨j, hj, rfl⟩ := List.mem_map.1 hf
      obtain ⟨_, _, z0, z1⟩ := hF j (by have := List.mem_range.1 hj; omega)
      exact ⟨z0, z1⟩
end Go.Proofs.YtbhnjnoblkfckabGreatDoor

-- from XAgg5
/- Structs of five cells that came in, opened; no function of the program. -/
namespace Go.Proofs.YtbhnjnoblkfckabGreatDoor
open Go.RowKit Go.ChangeShapes Go.WideShapes Go.Deep Go.Joins

theorem array5 {α : Type} {cs : Array α} (h : cs.size = 5) : ∃ c0 c1 c2 c3 c4, cs = #[c0, c1, c2, c3, c4] := by
  obtain ⟨l⟩ := cs
  match l, h with
  | [c0, c1, c2, c3, c4], _ => exact ⟨c0, c1, c2, c3, c4, rfl⟩

section
variable {H : Type} {enc : TypeId × Value → H} {P : Program} {w : World} {base : Nat} {spare : Nat → Bool} {held : Bool}
theorem trod_struct5 {t : TypeId} {f0 f1 f2 f3 f4 : Field} {fuel : Nat} {cs : List Value} {x : DataW H × List MemPlace} (ht : P.underlying t = some (.struct #[f0, f1, f2, f3, f4])) (h : DataW.trod enc P w base spare held fuel t cs = some x) :
    ∃ y0 y1 y2 y3 y4 n, x = (.agg [y0.1, y1.1, y2.1, y3.1, y4.1], y0.2 ++ (y1.2 ++ (y2.2 ++ (y3.2 ++ y4.2)))) ∧ DataW.trod enc P w base spare held n f0.type ((cs.drop f0.offset).take (P.cellsOf f0.type)) = some y0 ∧
      DataW.trod enc P w base spare held n f1.type ((cs.drop f1.offset).take (P.cellsOf f1.type)) = some y1 ∧ DataW.trod enc P w base spare held n f2.type ((cs.drop f2.offset).take (P.cellsOf f2.type)) = some y2 ∧
      DataW.trod enc P w base spare held n f3.type ((cs.drop f3.offset).take (P.cellsOf f3.type)) = some y3 ∧ DataW.trod enc P w base spare held n f4.type ((cs.drop f4.offset).take (P.cellsOf f4.type)) = some y4 := by
  obtain ⟨xs, n, _, rfl, hl, hlen, hf⟩ := DataW.trod_struct ht h
  match xs, hlen with
  | [y0, y1, y2, y3, y4], _ => exact ⟨y0, y1, y2, y3, y4, n, by simp, by simpa using hf 0 f0 rfl, by simpa using hf 1 f1 rfl, by simpa using hf 2 f2 rfl, by simpa using hf 3 f3 rfl, by simpa using hf 4 f4 rfl⟩
theorem open_agg5 {r : Reach} {b0 : Nat} {t : TypeId} {f0 f1 f2 f3 f4 : Field} {v : Value} {d : DataW H} {p : List MemPlace} (hs : P.underlying t = some (.struct #[f0, f1, f2, f3, f4])) (hone : oneCellFields P #[f0, f1, f2, f3, f4] = true) (hC : P.cellsOf t = 5)
    (hv : Value.okWide P w r b0 t v) (h : DataW.Trod enc P w base spare held t v d p) :
    ∃ (v0 v1 v2 v3 v4 : Value) (y0 y1 y2 y3 y4 : DataW H × List MemPlace) (n : Nat), v = .agg #[v0, v1, v2, v3, v4] ∧
      DataW.trod enc P w base spare held n f0.type [v0] = some y0 ∧ DataW.trod enc P w base spare held n f1.type [v1] = some y1 ∧ DataW.trod enc P w base spare held n f2.type [v2] = some y2 ∧ DataW.trod enc P w base spare held n f3.type [v3] = some y3 ∧ DataW.trod enc P w base spare held n f4.type [v4] = some y4 := by
  obtain ⟨cs, rfl, hsz⟩ := okWide_struct hs hv
  obtain ⟨c0, c1, c2, c3, c4, rfl⟩ := array5 (hsz.trans hC)
  obtain ⟨fuel, hf⟩ := h
  obtain ⟨y0, y1, y2, y3, y4, n, _, h0, h1, h2, h3, h4⟩ := trod_struct5 hs hf
  obtain ⟨o0, k0⟩ := hone_of hone 0 f0 rfl
  obtain ⟨o1, k1⟩ := hone_of hone 1 f1 rfl
  obtain ⟨o2, k2⟩ := hone_of hone 2 f2 rfl
  obtain ⟨o3, k3⟩ := hone_of hone 3 f3 rfl
  obtain ⟨o4, k4⟩ := hone_of hone 4 f4 rfl
  exact ⟨c0, c1, c2, c3, c4, y0, y1, y2, y3, y4, n, rfl, by simpa [Value.cells, o0, k0] using h0, by simpa [Value.cells, o1, k1] using h1, by simpa [Value.cells, o2, k2] using h2, by simpa [Value.cells, o3, k3] using h3, by simpa [Value.cells, o4, k4] using h4⟩
end
end Go.Proofs.YtbhnjnoblkfckabGreatDoor

-- from XHxF
/- A request that came in, opened. -/
namespace Go.Proofs.YtbhnjnoblkfckabGreatDoor
open Go.RowKit Go.ChangeShapes Go.WideShapes Go.Deep Go.Joins

set_option maxRecDepth 100000 in
theorem open_hd {H : Type} {enc : TypeId × Value → H} {W : World} {r : Reach} {b0 base : Nat} {held : Bool} {v : Value} {d : DataW H} {p : List MemPlace} (hv : Value.okWide Tryz.prog W r b0 24 v) (h : DataW.Trod enc Tryz.prog W base (fun _ => true) held 24 v d p) :
    ∃ (hh : Hd) (u : Value), v = headV hh u ∧ FRow W u hh.fs ∧ FOk hh.fs maxLen ∧ hh.verb.size ≤ maxLen ∧ hh.target.size ≤ maxLen ∧ hh.host.size ≤ maxLen ∧ hh.body.size ≤ maxLen := by
  obtain ⟨c0, c1, c2, c3, c4, y0, y1, y2, y3, y4, m, rfl, hy0, hy1, hy2, hy3, hy4⟩ := open_agg5 Tryz.underlying24 (by kernel_rfl) (by kernel_rfl) hv h
  obtain ⟨s0, e0, _, z0⟩ := DataW.trod_string Tryz.underlying9 hy0
  obtain ⟨s1, e1, _, z1⟩ := DataW.trod_string Tryz.underlying9 hy1
  obtain ⟨s2, e2, _, z2⟩ := DataW.trod_string Tryz.underlying9 hy2
  obtain ⟨s4, e4, _, z4⟩ := DataW.trod_string Tryz.underlying9 hy4
  simp only [List.cons.injEq, and_true] at e0 e1 e2 e4
  obtain ⟨a, l, c, e3⟩ : ∃ a l c, c3 = .slice a l c := by
    obtain ⟨a, l, c, e⟩ := slice_form Tryz.underlying22 hy3
    simp only [List.cons.injEq, and_true] at e
    exact ⟨a, l, c, e⟩
  have h3 : DataW.Trod enc Tryz.prog W base (fun _ => true) held 22 c3 y3.1 y3.2 := ⟨m, by subst e3; exact hy3⟩
  obtain ⟨fs, hF, hok⟩ := open_frow ⟨a, l, c, e3⟩ h3
  exact ⟨⟨s0, s1, s2, fs, s4⟩, c3, by unfold headV; rw [e0, e1, e2, e4], hF, hok, z0, z1, z2, z4⟩
end Go.Proofs.YtbhnjnoblkfckabGreatDoor

-- from XHxM
/- The laws' own helpers over requests: a made row, marked and held. -/
namespace Go.Proofs.YtbhnjnoblkfckabGreatDoor
open Go.RowKit Go.Maps

/-- A made row of fields, written out. -/
theorem own_fcells {w : World} {B : Nat} {T : TypeId} {v : Value} {fs : List Fd} (h : w.ownsRow B T 2 v fs.length (fcells fs)) :
    (v = .slice none 0 0 ∧ fs = []) ∨ ∃ g cap, v = .slice (some ⟨g, 0, none⟩) fs.length cap ∧ B ≤ g ∧ FCells w g fs.length (fget fs) := by
  rcases h.2 with ⟨rfl, h0⟩ | ⟨g, cap, cur, rfl, hB, hh, hn, hm, hs, ht⟩
  · exact .inl ⟨rfl, List.eq_nil_of_length_eq_zero h0⟩
  · refine .inr ⟨g, cap, rfl, hB, cur, T, hh, by omega, fun i hi => ?_⟩
    have hf : fs[i]? = some fs[i] := List.getElem?_eq_getElem hi
    have hc := fcells_at hf
    rw [fget_at hf]
    have hget : ∀ j x, j < fs.length * 2 → (fcells fs)[j]? = some x → cur[j]? = some x := fun j x hj hx => by
      rw [← ht, List.getElem?_take, if_pos hj] at hx
      simpa using hx
    exact ⟨hget _ _ (by omega) hc.1, hget _ _ (by omega) hc.2⟩

theorem frow_own' {w : World} {B : Nat} {T : TypeId} {v : Value} {fs : List Fd} (h : w.ownsRow B T 2 v fs.length (fcells fs)) : FRow w v fs := by
  rcases h.2 with ⟨rfl, h0⟩ | ⟨b, cap, cur, rfl, hb, hh, hn, hm, hs, ht⟩
  · have : fs = [] := List.eq_nil_of_length_eq_zero h0
    subst this
    exact ⟨none, 0, rfl, Nat.le_refl _, Nat.zero_le _, fun j f hj => by simp at hj⟩
  · rcases own_fcells h with ⟨e, rfl⟩ | ⟨g, cap2, e, _, hF⟩
    · cases e
    · injection e with e1 _ e2
      injection e1 with e3
      injection e3 with e4
      subst e4; subst e2
      refine ⟨_, _, rfl, hn, hm, fun j f hj => ⟨b, 0, rfl, hF.lt, ?_, ?_⟩⟩
      · have := hF.cell0 (i := j) (List.getElem?_eq_some_iff.1 hj).1
        rw [fget_at hj] at this
        rw [Nat.zero_add]; exact this
      · have := hF.cell1 (i := j) (List.getElem?_eq_some_iff.1 hj).1
        rw [fget_at hj] at this
        rw [Nat.zero_add]; exact this

def MkS (w : World) (v : Value) (n : Nat) : Prop := (v = .slice none 0 0 ∧ n = 0) ∨ ∃ g cap, v = .slice (some ⟨g, 0, none⟩) n cap ∧ FCells w g n (mkFd 1)
theorem MkS.keep {w w' : World} {v : Value} {n : Nat} (h : MkS w v n) (hb : Below w.heap.size w w') : MkS w' v n := by
  rcases h with h | ⟨g, cap, h1, h2⟩
  · exact .inl h
  · exact .inr ⟨g, cap, h1, h2.keep (hb.block g h2.lt)⟩
end Go.Proofs.YtbhnjnoblkfckabGreatDoor

-- from XHxN
/- What an operation leaves that makes a request. -/
namespace Go.Proofs.YtbhnjnoblkfckabGreatDoor
open Go.RowKit Go.Maps

def RHd (h : Hd) : Value → World → Prop := fun x w => ∃ g, x = .agg #[.string h.verb, .string h.target, .string h.host, .slice (some ⟨g, 0, none⟩) h.fs.length h.fs.length, .string h.body] ∧ FRow w (.slice (some ⟨g, 0, none⟩) h.fs.length h.fs.length) h.fs
theorem steady_hd (h : Hd) : Steady (RHd h) := fun _ _ _ ⟨g, h1, h2⟩ hb => ⟨g, h1, h2.below (Nat.le_refl _) hb⟩
theorem ok2 {fs : List Fd} (h : FOk fs 1048576) : FOk fs 2000000 := fun f hf => ⟨Nat.le_trans (h f hf).1 (by decide), Nat.le_trans (h f hf).2 (by decide)⟩
theorem ok3 {fs : List Fd} (h : FOk fs 1048576) : FOk fs 281474976710656 := fun f hf => ⟨Nat.le_trans (h f hf).1 (by decide), Nat.le_trans (h f hf).2 (by decide)⟩
end Go.Proofs.YtbhnjnoblkfckabGreatDoor

-- from XLaidN
/- What the rows' lists of the number functions' variables give. -/
namespace Go.Proofs.YtbhnjnoblkfckabGreatDoor
open Go.RowKit

theorem gTabNT : (Tryz.prog.globals[2]?).map (·.type) = some 208 := by kernel_rfl
theorem cells20 : Tryz.prog.cellsOf 208 = 20 := by kernel_rfl
theorem cells64 : Tryz.prog.cellsOf 190 = 1 := by kernel_rfl
theorem tab_of_head {W : World} {rest : List (String × DataW Unit)} (h : laidMet Tryz.prog (("internal/strconv.uint64pow10", Rows.laid_internal_strconv_uint64pow10) :: rest) W) : Tab W :=
  Lib.tabIs_of_head (rest := rest) gTabN gTabNT Tryz.underlying208 Tryz.underlying190 cells64 cells20 (by
    rw [show Lib.tabData .u64 Lib.pow10Tab = Rows.laid_internal_strconv_uint64pow10 from by kernel_rfl]; exact h)

theorem gErrST : (Tryz.prog.globals[3]?).map (·.type) = some 137 := by kernel_rfl
theorem gErrRT : (Tryz.prog.globals[4]?).map (·.type) = some 137 := by kernel_rfl
theorem cellsES : Tryz.prog.cellsOf 235 = 1 := by kernel_rfl
theorem cellsStr : Tryz.prog.cellsOf 9 = 1 := by kernel_rfl
theorem starES : "*" ++ "errors.errorString" = "*errors.errorString" := by decide
theorem rowES (u : TypeId) (h : Tryz.prog.typeName? 3 u = some "*errors.errorString") : u = 233 :=
  typeName_ptr_named (nm := "errors.errorString") (by rw [starES]; kernel_rfl) (by kernel_rfl) (by decide) u (by rw [starES]; exact h)
theorem errs_of_heads {W : World} {rest : List (String × DataW Unit)} (h : laidMet Tryz.prog (("strconv.ErrRange", Rows.laid_strconv_ErrRange) :: ("strconv.ErrSyntax", Rows.laid_strconv_ErrSyntax) :: rest) W) : Errs W := by
  obtain ⟨a0, s0, hv0, -, -, -⟩ := laid_sentinel h gErrR gErrRT Tryz.underlying137 rowES Tryz.underlying233 Tryz.underlying235 rfl rfl Tryz.underlying9 cellsES cellsStr
  obtain ⟨a1, s1, hv1, -, -, -⟩ := laid_sentinel h.tail gErrS gErrST Tryz.underlying137 rowES Tryz.underlying233 Tryz.underlying235 rfl rfl Tryz.underlying9 cellsES cellsStr
  exact ⟨_, _, _, _, hv1, hv0⟩

theorem i64_of_wf {n : Int} (h : (Lit.int .i64 n).wf = true) : -9223372036854775808 ≤ n ∧ n ≤ 9223372036854775807 := by
  simpa [Lit.wf, IntKind.min, IntKind.max, IntKind.signed, IntKind.bits] using h
namespace Lw
end Lw
end Go.Proofs.YtbhnjnoblkfckabGreatDoor

