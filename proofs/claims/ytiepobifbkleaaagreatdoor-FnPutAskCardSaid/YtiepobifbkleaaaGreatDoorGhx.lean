import Derived.Test.YtiepobifbkleaaaGreatDoorHxA
import Derived.Test.YtiepobifbkleaaaGreatDoorGhed
import Derived.Test.YtiepobifbkleaaaGreatDoorFOpen
import Derived.Lib.SmallJoins
import Derived.Test.YtiepobifbkleaaaGreatDoorGimp
-- from XHxB
/- The laws' own helpers over requests: sized, copied, equal, marked, held. -/
namespace Go.Proofs.YtiepobifbkleaaaGreatDoor
open Go.RowKit Go.Maps

def headV (h : Hd) (v : Value) : Value := .agg #[.string h.verb, .string h.target, .string h.host, v, .string h.body]
structure HSz (h : Hd) : Prop where
  verb : h.verb.size ≤ 1048576
  target : h.target.size ≤ 1048576
  host : h.host.size ≤ 1048576
  body : h.body.size ≤ 1048576
  fs : FOk h.fs 1048576
  len : h.fs.length ≤ 1048576

set_option maxRecDepth 100000 in
set_option maxHeartbeats 1600000 in
theorem sz_head (h : Hd) (v : Value) (w : World) (hF : FRow w v h.fs) (hok : FOk h.fs maxLen) (b1 : h.verb.size ≤ maxLen) (b2 : h.target.size ≤ maxLen) (b3 : h.host.size ≤ maxLen) (b4 : h.body.size ≤ maxLen) :
    Calls Tryz.prog 39 #[headV h v, .int .i64 1048576] w fun e w' => (∃ r : Int, e = .returned (.int .i64 r) ∧ (r < 0 ∨ (0 ≤ r ∧ HSz h))) ∧ Below w.heap.size w w' := by
  unfold maxLen at b1 b2 b3 b4
  obtain ⟨verb, target, host, fs, body⟩ := h
  dsimp only at *
  obtain ⟨wA, hwA⟩ : ∃ wA, wA = w.alloc (.cells #[.string verb, .string target, .string host, v, .string body] 68) := ⟨_, rfl⟩
  have hsA : wA.heap.size = w.heap.size + 1 := by rw [hwA]; simp
  have hbA : Below w.heap.size w wA := by rw [hwA]; exact (Below.refl _ _).alloc (Nat.le_refl _) _
  have hH : wA.heap[w.heap.size]? = some (.cells #[.string verb, .string target, .string host, v, .string body] 68 (0, 0)) := by rw [hwA]; exact heap_alloc_new w _
  obtain ⟨q0, q1, q2, q3, q4, _⟩ := five_facts hH
  have hFA := hF.below (Nat.le_refl _) hbA
  have HW := Lib.hid hwA; have HH := Lib.hid hH; have HB := Lib.hid hbA
  have HQ := Lib.hid (And.intro q0 (And.intro q1 (And.intro q2 (And.intro q3 q4))))
  clear hwA hF hH hbA q0 q1 q2 q3 q4
  unfold headV
  by_cases c1 : (1048576 : Int) - verb.size < 0
  · clear hFA
    go_enter Tryz.func39, Tryz.ntmps39
    go_wp2_with fail
    go_ret
    exact ⟨⟨-1, rfl, .inl (by omega)⟩, by rw [← HW.out]; exact HB.out⟩
  by_cases c2 : (1048576 : Int) - verb.size - target.size < 0
  · clear hFA
    go_enter Tryz.func39, Tryz.ntmps39
    go_wp2_with fail
    go_ret
    exact ⟨⟨-1, rfl, .inl (by omega)⟩, by rw [← HW.out]; exact HB.out⟩
  by_cases c3 : (1048576 : Int) - verb.size - target.size - host.size < 0
  · clear hFA
    go_enter Tryz.func39, Tryz.ntmps39
    go_wp2_with fail
    go_ret
    exact ⟨⟨-1, rfl, .inl (by omega)⟩, by rw [← HW.out]; exact HB.out⟩
  have hS := sz_fields v fs ((1048576 : Int) - verb.size - target.size - host.size) (by omega) (by omega) wA hFA hok
  clear hFA hok
  have HS := Lib.hid hS
  clear hS
  go_enter Tryz.func39, Tryz.ntmps39
  go_wp2_with fail
  rw [← HW.out]
  refine HS.out.mono ?_
  rintro e w2 ⟨⟨r, rfl, hr⟩, hb2⟩
  have hh2 := (hb2.block w.heap.size (by omega)).trans HH.out
  obtain ⟨q0, q1, q2, q3, q4, _⟩ := five_facts hh2
  have HB2 := Lib.hid (HB.out.trans (hb2.mono (by omega)))
  clear hb2 hh2
  rcases hr with rfl | ⟨h0, hL, hfo, hfn⟩
  · go_wp2
    go_ret
    exact ⟨⟨-1, rfl, .inl (by omega)⟩, HB2.out⟩
  · have HFo := Lib.hid hfo
    clear hfo
    by_cases c4 : r - body.size < 0
    · go_wp2
      go_ret
      exact ⟨⟨-1, rfl, .inl (by omega)⟩, HB2.out⟩
    · go_wp2
      go_ret
      exact ⟨⟨_, rfl, .inr ⟨by omega, ⟨by simp only; omega, by simp only; omega, by simp only; omega, by simp only; omega, HFo.out, hfn⟩⟩⟩, HB2.out⟩

set_option maxRecDepth 100000 in
set_option maxHeartbeats 1600000 in
theorem to_head (h : Hd) (v : Value) (w : World) (hF : FRow w v h.fs) (hn : h.fs.length ≤ 1048576) :
    Calls Tryz.prog 41 #[headV h v] w fun e w' => (∃ g, e = .returned (headV h (.slice (some ⟨g, 0, none⟩) h.fs.length h.fs.length)) ∧ w.heap.size ≤ g ∧ FCells w' g h.fs.length (fget h.fs)) ∧ Below w.heap.size w w' := by
  obtain ⟨verb, target, host, fs, body⟩ := h
  dsimp only at *
  unfold headV
  have hT := fun W hW => to_fields v fs W hW hn
  obtain ⟨W3, hW3⟩ : ∃ W3, W3 = ((w.alloc (.cells #[.string verb, .string target, .string host, v, .string body] 68)).alloc (.cells #[.string ⟨#[]⟩, .string ⟨#[]⟩, .string ⟨#[]⟩, .slice none 0 0, .string ⟨#[]⟩] 40)).alloc (.cells #[.string verb, .string target, .string host, .slice none 0 0, .string ⟨#[]⟩] 40) := ⟨_, rfl⟩
  have hz3 : W3.heap.size = w.heap.size + 3 := by rw [hW3]; simp
  have hb3 : Below w.heap.size w W3 := by
    rw [hW3]
    exact (((Below.refl _ _).alloc (Nat.le_refl _) _).alloc (by simp) _).alloc (by simp; omega) _
  have hA0 : W3.heap[w.heap.size]? = some (.cells #[.string verb, .string target, .string host, v, .string body] 68 (0, 0)) := by
    rw [hW3, Below.heap_alloc _ _ _ (by simp; omega), Below.heap_alloc _ _ _ (by simp)]; exact heap_alloc_new w _
  have hA1 : W3.heap[w.heap.size + 1]? = some (.cells #[.string ⟨#[]⟩, .string ⟨#[]⟩, .string ⟨#[]⟩, .slice none 0 0, .string ⟨#[]⟩] 40 (0, 0)) := by
    rw [hW3, Below.heap_alloc _ _ _ (by simp)]
    have := heap_alloc_new (w.alloc (.cells #[.string verb, .string target, .string host, v, .string body] 68)) (.cells #[.string ⟨#[]⟩, .string ⟨#[]⟩, .string ⟨#[]⟩, .slice none 0 0, .string ⟨#[]⟩] 40)
    simpa using this
  have hA2 : W3.heap[w.heap.size + 2]? = some (.cells #[.string verb, .string target, .string host, .slice none 0 0, .string ⟨#[]⟩] 40 (0, 0)) := by
    rw [hW3]
    have := heap_alloc_new ((w.alloc (.cells #[.string verb, .string target, .string host, v, .string body] 68)).alloc (.cells #[.string ⟨#[]⟩, .string ⟨#[]⟩, .string ⟨#[]⟩, .slice none 0 0, .string ⟨#[]⟩] 40)) (.cells #[.string verb, .string target, .string host, .slice none 0 0, .string ⟨#[]⟩] 40)
    simpa using this
  have hT3 := hT W3 (hF.below (Nat.le_refl _) hb3)
  have HA := Lib.hid (And.intro hA0 (And.intro hA1 hA2))
  have HB := Lib.hid hb3; have HW := Lib.hid hW3
  clear hA0 hA1 hA2 hb3 hW3 hT hF
  go_enter Tryz.func41, Tryz.ntmps41
  go_wp2_with fail
  rw [← HW.out]
  refine hT3.mono ?_
  rintro e w4 ⟨rfl, hfc, hb4⟩
  have h0 := (hb4.block w.heap.size (by omega)).trans HA.out.1
  have h1 := (hb4.block (w.heap.size + 1) (by omega)).trans HA.out.2.1
  have h2 := (hb4.block (w.heap.size + 2) (by omega)).trans HA.out.2.2
  have hbl := HB.out.trans (hb4.mono (by omega))
  have hglt := hfc.lt
  rw [hz3] at hfc hglt
  rw [hz3]
  clear hT3 hb4
  obtain ⟨a0, a1, a2, a3, a4, _⟩ := five_facts h0
  obtain ⟨b0, b1, b2, b3, b4, c0, c1, c2, c3, c4⟩ := five_facts h1
  obtain ⟨d0, d1, d2, d3, d4, e0, e1, e2, e3, e4⟩ := five_facts h2
  -- the two stores into the variable, then the result's variable
  have hs1 := heap_setCell_same w4 (w.heap.size + 2) 3 _ _ (.slice (some ⟨w.heap.size + 3, 0, none⟩) fs.length fs.length) h2
  have hs2 := heap_setCell_same _ (w.heap.size + 2) 4 _ _ (.string body) hs1
  have hr1 := (heap_setCell_other (w4.setCell ⟨w.heap.size + 2, 3, none⟩ (.slice (some ⟨w.heap.size + 3, 0, none⟩) fs.length fs.length)) ⟨w.heap.size + 2, 4, none⟩ (w.heap.size + 1) (.string body) (by simp)).trans ((heap_setCell_other w4 ⟨w.heap.size + 2, 3, none⟩ (w.heap.size + 1) (.slice (some ⟨w.heap.size + 3, 0, none⟩) fs.length fs.length) (by simp)).trans h1)
  have z := five_set hr1 (.string verb) (.string target) (.string host) (.slice (some ⟨w.heap.size + 3, 0, none⟩) fs.length fs.length) (.string body)
  have hfin : ∀ k, w.heap.size + 2 < k → (set5 ((w4.setCell ⟨w.heap.size + 2, 3, none⟩ (.slice (some ⟨w.heap.size + 3, 0, none⟩) fs.length fs.length)).setCell ⟨w.heap.size + 2, 4, none⟩ (.string body)) (w.heap.size + 1) (.string verb) (.string target) (.string host) (.slice (some ⟨w.heap.size + 3, 0, none⟩) fs.length fs.length) (.string body)).heap[k]? = w4.heap[k]? := fun k hk => by
    rw [set5_other (by omega), heap_setCell_other _ ⟨w.heap.size + 2, 4, none⟩ k _ (by simp; omega), heap_setCell_other _ ⟨w.heap.size + 2, 3, none⟩ k _ (by simp; omega)]
  have hbf : Below w.heap.size w (set5 ((w4.setCell ⟨w.heap.size + 2, 3, none⟩ (.slice (some ⟨w.heap.size + 3, 0, none⟩) fs.length fs.length)).setCell ⟨w.heap.size + 2, 4, none⟩ (.string body)) (w.heap.size + 1) (.string verb) (.string target) (.string host) (.slice (some ⟨w.heap.size + 3, 0, none⟩) fs.length fs.length) (.string body)) :=
    (below_setB (below_setB hbl (by omega)) (by omega)).trans ((below_set5 (Below.refl _ _)).mono (Nat.le_succ _))
  have hfc5 := hfc.keep (hfin _ (by omega))
  unfold set5 at z hbf hfc5
  obtain ⟨z0, z1, z2, z3, z4, _⟩ := five_facts z
  have HZ := Lib.hid (And.intro z0 (And.intro z1 (And.intro z2 (And.intro z3 (And.intro z4 (And.intro hbf hfc5))))))
  clear z0 z1 z2 z3 z4 z hfin hbf hfc5 hr1 hs1 hs2 h0 h1 h2 hbl hfc
  go_wp2_with fail
  obtain ⟨z0, z1, z2, z3, z4, hbf, hfc5⟩ := HZ.out
  refine bodyPost_ret (v := .agg #[.string verb, .string target, .string host, .slice (some ⟨w.heap.size + 3, 0, none⟩) fs.length fs.length, .string body]) (by simp [results, Tryz.results41, go_sem, z0, z1, z2, z3, z4]) rfl ?_
  exact ⟨⟨_, rfl, by omega, hfc5⟩, hbf⟩

set_option maxRecDepth 100000 in
set_option maxHeartbeats 1600000 in
theorem eq_head (h : Hd) (v1 v2 : Value) (w : World) (hF1 : FRow w v1 h.fs) (hF2 : FRow w v2 h.fs) (hn : h.fs.length ≤ 2000000) :
    Calls Tryz.prog 44 #[headV h v1, headV h v2] w fun e w' => e = .returned (.bool true) ∧ Below w.heap.size w w' := by
  obtain ⟨verb, target, host, fs, body⟩ := h
  dsimp only at *
  unfold headV
  obtain ⟨W2, hW2⟩ : ∃ W2, W2 = (w.alloc (.cells #[.string verb, .string target, .string host, v1, .string body] 40)).alloc (.cells #[.string verb, .string target, .string host, v2, .string body] 40) := ⟨_, rfl⟩
  have hz2 : W2.heap.size = w.heap.size + 2 := by rw [hW2]; simp
  have hb2 : Below w.heap.size w W2 := by
    rw [hW2]; exact ((Below.refl _ _).alloc (Nat.le_refl _) _).alloc (by simp) _
  have hA0 : W2.heap[w.heap.size]? = some (.cells #[.string verb, .string target, .string host, v1, .string body] 40 (0, 0)) := by
    rw [hW2, Below.heap_alloc _ _ _ (by simp)]; exact heap_alloc_new w _
  have hA1 : W2.heap[w.heap.size + 1]? = some (.cells #[.string verb, .string target, .string host, v2, .string body] 40 (0, 0)) := by
    rw [hW2]
    have := heap_alloc_new (w.alloc (.cells #[.string verb, .string target, .string host, v1, .string body] 40)) (.cells #[.string verb, .string target, .string host, v2, .string body] 40)
    simpa using this
  have hE := eq_fields v1 v2 fs W2 (hF1.below (Nat.le_refl _) hb2) (hF2.below (Nat.le_refl _) hb2) hn
  have HA := Lib.hid (And.intro hA0 hA1)
  have HB := Lib.hid hb2; have HW := Lib.hid hW2
  clear hA0 hA1 hb2 hW2 hF1 hF2
  have e1 := str_refl verb; have e2 := str_refl target; have e3 := str_refl host; have e4 := str_refl body
  go_enter Tryz.func44, Tryz.ntmps44
  go_wp2_with fail
  rw [← HW.out]
  refine hE.mono ?_
  rintro e w3 ⟨rfl, hb3⟩
  have h0 := (hb3.block w.heap.size (by omega)).trans HA.out.1
  have h1 := (hb3.block (w.heap.size + 1) (by omega)).trans HA.out.2
  have hbl := HB.out.trans (hb3.mono (by omega))
  clear hb3 hE
  obtain ⟨a0, a1, a2, a3, a4, _⟩ := five_facts h0
  obtain ⟨b0, b1, b2, b3, b4, _⟩ := five_facts h1
  go_wp2
  go_ret
  exact ⟨rfl, hbl⟩
end Go.Proofs.YtiepobifbkleaaaGreatDoor

-- from XHxF
/- A request that came in, opened. -/
namespace Go.Proofs.YtiepobifbkleaaaGreatDoor
open Go.RowKit Go.ChangeShapes Go.WideShapes Go.Deep Go.Joins

theorem array5 {α : Type} {cs : Array α} (h : cs.size = 5) : ∃ c0 c1 c2 c3 c4, cs = #[c0, c1, c2, c3, c4] := by
  obtain ⟨l⟩ := cs
  match l, h with
  | [c0, c1, c2, c3, c4], _ => exact ⟨c0, c1, c2, c3, c4, rfl⟩

section
variable {H : Type} {enc : TypeId × Value → H} {P : Program} {w : World} {base : Nat} {spare : Nat → Bool} {held : Bool}
theorem trod_struct5 {t : TypeId} {f0 f1 f2 f3 f4 : Field} {fuel : Nat} {cs : List Value} {x : DataW H × List MemPlace} (ht : P.underlying t = some (.struct #[f0, f1, f2, f3, f4])) (h : DataW.trod enc P w base spare held fuel t cs = some x) :
    ∃ y0 y1 y2 y3 y4 n, x = (.agg [y0.1, y1.1, y2.1, y3.1, y4.1], y0.2 ++ (y1.2 ++ (y2.2 ++ (y3.2 ++ y4.2)))) ∧ DataW.trod enc P w base spare held n f0.type ((cs.drop f0.offset).take (P.cellsOf f0.type)) = some y0 ∧
      DataW.trod enc P w base spare held n f1.type ((cs.drop f1.offset).take (P.cellsOf f1.type)) = some y1 ∧ DataW.trod enc P w base spare held n f2.type ((cs.drop f2.offset).take (P.cellsOf f2.type)) = some y2 ∧
      DataW.trod enc P w base spare held n f3.type ((cs.drop f3.offset).take (P.cellsOf f3.type)) = some y3 ∧ DataW.trod enc P w base spare held n f4.type ((cs.drop f4.offset).take (P.cellsOf f4.type)) = some y4 := by
  obtain ⟨xs, n, _, rfl, hl, hlen, hf⟩ := DataW.trod_struct ht h
  match xs, hlen with
  | [y0, y1, y2, y3, y4], _ => exact ⟨y0, y1, y2, y3, y4, n, by simp, by simpa using hf 0 f0 rfl, by simpa using hf 1 f1 rfl, by simpa using hf 2 f2 rfl, by simpa using hf 3 f3 rfl, by simpa using hf 4 f4 rfl⟩
theorem open_agg5 {r : Reach} {b0 : Nat} {t : TypeId} {f0 f1 f2 f3 f4 : Field} {v : Value} {d : DataW H} {p : List MemPlace} (hs : P.underlying t = some (.struct #[f0, f1, f2, f3, f4])) (hone : oneCellFields P #[f0, f1, f2, f3, f4] = true) (hC : P.cellsOf t = 5)
    (hv : Value.okWide P w r b0 t v) (h : DataW.Trod enc P w base spare held t v d p) :
    ∃ (v0 v1 v2 v3 v4 : Value) (y0 y1 y2 y3 y4 : DataW H × List MemPlace) (n : Nat), v = .agg #[v0, v1, v2, v3, v4] ∧
      DataW.trod enc P w base spare held n f0.type [v0] = some y0 ∧ DataW.trod enc P w base spare held n f1.type [v1] = some y1 ∧ DataW.trod enc P w base spare held n f2.type [v2] = some y2 ∧ DataW.trod enc P w base spare held n f3.type [v3] = some y3 ∧ DataW.trod enc P w base spare held n f4.type [v4] = some y4 := by
  obtain ⟨cs, rfl, hsz⟩ := okWide_struct hs hv
  obtain ⟨c0, c1, c2, c3, c4, rfl⟩ := array5 (hsz.trans hC)
  obtain ⟨fuel, hf⟩ := h
  obtain ⟨y0, y1, y2, y3, y4, n, _, h0, h1, h2, h3, h4⟩ := trod_struct5 hs hf
  obtain ⟨o0, k0⟩ := hone_of hone 0 f0 rfl
  obtain ⟨o1, k1⟩ := hone_of hone 1 f1 rfl
  obtain ⟨o2, k2⟩ := hone_of hone 2 f2 rfl
  obtain ⟨o3, k3⟩ := hone_of hone 3 f3 rfl
  obtain ⟨o4, k4⟩ := hone_of hone 4 f4 rfl
  exact ⟨c0, c1, c2, c3, c4, y0, y1, y2, y3, y4, n, rfl, by simpa [Value.cells, o0, k0] using h0, by simpa [Value.cells, o1, k1] using h1, by simpa [Value.cells, o2, k2] using h2, by simpa [Value.cells, o3, k3] using h3, by simpa [Value.cells, o4, k4] using h4⟩
end

set_option maxRecDepth 100000 in
theorem open_hd {H : Type} {enc : TypeId × Value → H} {W : World} {r : Reach} {b0 base : Nat} {held : Bool} {v : Value} {d : DataW H} {p : List MemPlace} (hv : Value.okWide Tryz.prog W r b0 68 v) (h : DataW.Trod enc Tryz.prog W base (fun _ => true) held 68 v d p) :
    ∃ (hh : Hd) (u : Value), v = headV hh u ∧ FRow W u hh.fs ∧ FOk hh.fs maxLen ∧ hh.verb.size ≤ maxLen ∧ hh.target.size ≤ maxLen ∧ hh.host.size ≤ maxLen ∧ hh.body.size ≤ maxLen := by
  obtain ⟨c0, c1, c2, c3, c4, y0, y1, y2, y3, y4, m, rfl, hy0, hy1, hy2, hy3, hy4⟩ := open_agg5 Tryz.underlying68 (by kernel_rfl) (by kernel_rfl) hv h
  obtain ⟨s0, e0, _, z0⟩ := DataW.trod_string Tryz.underlying9 hy0
  obtain ⟨s1, e1, _, z1⟩ := DataW.trod_string Tryz.underlying9 hy1
  obtain ⟨s2, e2, _, z2⟩ := DataW.trod_string Tryz.underlying9 hy2
  obtain ⟨s4, e4, _, z4⟩ := DataW.trod_string Tryz.underlying9 hy4
  simp only [List.cons.injEq, and_true] at e0 e1 e2 e4
  obtain ⟨a, l, c, e3⟩ : ∃ a l c, c3 = .slice a l c := by
    obtain ⟨a, l, c, e⟩ := slice_form Tryz.underlying66 hy3
    simp only [List.cons.injEq, and_true] at e
    exact ⟨a, l, c, e⟩
  have h3 : DataW.Trod enc Tryz.prog W base (fun _ => true) held 66 c3 y3.1 y3.2 := ⟨m, by subst e3; exact hy3⟩
  obtain ⟨fs, hF, hok⟩ := open_frow ⟨a, l, c, e3⟩ h3
  exact ⟨⟨s0, s1, s2, fs, s4⟩, c3, by unfold headV; rw [e0, e1, e2, e4], hF, hok, z0, z1, z2, z4⟩
end Go.Proofs.YtiepobifbkleaaaGreatDoor

-- from XHxM
/- The laws' own helpers over requests: a made row, marked and held. -/
namespace Go.Proofs.YtiepobifbkleaaaGreatDoor
open Go.RowKit Go.Maps

/-- A made row of fields, written out. -/
theorem own_fcells {w : World} {B : Nat} {T : TypeId} {v : Value} {fs : List Fd} (h : w.ownsRow B T 2 v fs.length (fcells fs)) :
    (v = .slice none 0 0 ∧ fs = []) ∨ ∃ g cap, v = .slice (some ⟨g, 0, none⟩) fs.length cap ∧ B ≤ g ∧ FCells w g fs.length (fget fs) := by
  rcases h.2 with ⟨rfl, h0⟩ | ⟨g, cap, cur, rfl, hB, hh, hn, hm, hs, ht⟩
  · exact .inl ⟨rfl, List.eq_nil_of_length_eq_zero h0⟩
  · refine .inr ⟨g, cap, rfl, hB, cur, T, hh, by omega, fun i hi => ?_⟩
    have hf : fs[i]? = some fs[i] := List.getElem?_eq_getElem hi
    have hc := fcells_at hf
    rw [fget_at hf]
    have hget : ∀ j x, j < fs.length * 2 → (fcells fs)[j]? = some x → cur[j]? = some x := fun j x hj hx => by
      rw [← ht, List.getElem?_take, if_pos hj] at hx
      simpa using hx
    exact ⟨hget _ _ (by omega) hc.1, hget _ _ (by omega) hc.2⟩

theorem frow_own' {w : World} {B : Nat} {T : TypeId} {v : Value} {fs : List Fd} (h : w.ownsRow B T 2 v fs.length (fcells fs)) : FRow w v fs := by
  rcases h.2 with ⟨rfl, h0⟩ | ⟨b, cap, cur, rfl, hb, hh, hn, hm, hs, ht⟩
  · have : fs = [] := List.eq_nil_of_length_eq_zero h0
    subst this
    exact ⟨none, 0, rfl, Nat.le_refl _, Nat.zero_le _, fun j f hj => by simp at hj⟩
  · rcases own_fcells h with ⟨e, rfl⟩ | ⟨g, cap2, e, _, hF⟩
    · cases e
    · injection e with e1 _ e2
      injection e1 with e3
      injection e3 with e4
      subst e4; subst e2
      refine ⟨_, _, rfl, hn, hm, fun j f hj => ⟨b, 0, rfl, hF.lt, ?_, ?_⟩⟩
      · have := hF.cell0 (i := j) (List.getElem?_eq_some_iff.1 hj).1
        rw [fget_at hj] at this
        rw [Nat.zero_add]; exact this
      · have := hF.cell1 (i := j) (List.getElem?_eq_some_iff.1 hj).1
        rw [fget_at hj] at this
        rw [Nat.zero_add]; exact this

set_option maxRecDepth 100000 in
set_option maxHeartbeats 800000 in
theorem mark_head (h : Hd) (g cap : Nat) (F : Nat → Fd) (n : Nat) (w : World) (hF : FCells w g n F) (hn : n ≤ 2000000) :
    Calls Tryz.prog 46 #[headV h (.slice (some ⟨g, 0, none⟩) n cap), .int .i64 1] w fun e w' => e = .returned (.int .i64 (1 + 2 * (n : Int))) ∧ FCells w' g n (mkUp 1 F n) ∧ w.grownBy w' (some g) := by
  have hg := hF.lt
  have hM := fun W hW => mark_fields g n cap 1 F W hW (by omega)
  have hb : ∀ o, Below w.heap.size w (w.alloc o) := fun o => (Below.refl _ _).alloc (Nat.le_refl _) o
  have HB := Lib.hid hb
  unfold headV
  have hMA := hM (w.alloc (.cells #[.string h.verb, .string h.target, .string h.host, .slice (some ⟨g, 0, none⟩) n cap, .string h.body] 40)) (hF.keep ((hb _).block g hg))
  clear hM hF hb
  go_enter Tryz.func46, Tryz.ntmps46
  go_wp2_with fail
  refine hMA.mono ?_
  rintro e w2 ⟨rfl, hfc, hgr⟩
  have HF := Lib.hid (And.intro hfc (grown_trans (grown_of_below (HB.out _) (some g)) hgr))
  clear hMA hfc hgr
  go_wp2
  go_ret
  exact ⟨by simp, HF.out⟩

set_option maxRecDepth 100000 in
set_option maxHeartbeats 800000 in
theorem held_head (h : Hd) (g cap : Nat) (n : Nat) (w : World) (hF : FCells w g n (mkFd 1)) (hn : n ≤ 2000000) :
    Calls Tryz.prog 47 #[headV h (.slice (some ⟨g, 0, none⟩) n cap), .int .i64 1] w fun e w' => e = .returned (.int .i64 (1 + 2 * (n : Int))) ∧ Below w.heap.size w w' := by
  have hg := hF.lt
  have hM := fun W hW => held_fields g n cap 1 W hW (by omega)
  have hb : ∀ o, Below w.heap.size w (w.alloc o) := fun o => (Below.refl _ _).alloc (Nat.le_refl _) o
  have HB := Lib.hid hb
  unfold headV
  have hMA := hM (w.alloc (.cells #[.string h.verb, .string h.target, .string h.host, .slice (some ⟨g, 0, none⟩) n cap, .string h.body] 40)) (hF.keep ((hb _).block g hg))
  clear hM hF hb
  have hz : ¬ ((1 : Int) + 2 * (n : Int) < 0) := by omega
  go_enter Tryz.func47, Tryz.ntmps47
  go_wp2_with fail
  refine hMA.mono ?_
  rintro e w2 ⟨rfl, hb2⟩
  have HF := Lib.hid ((HB.out (.cells #[.string h.verb, .string h.target, .string h.host, .slice (some ⟨g, 0, none⟩) n cap, .string h.body] 40)).trans (hb2.mono (by simp)))
  clear hMA hb2
  go_wp2
  go_ret
  exact ⟨by simp, HF.out⟩

theorem mark_none (h : Hd) (w : World) :
    Calls Tryz.prog 46 #[headV h (.slice none 0 0), .int .i64 1] w fun e w' => e = .returned (.int .i64 1) ∧ Below w.heap.size w w' := by
  have hM : ∀ W, Calls Tryz.prog 101 #[.slice none 0 0, .int .i64 1] W fun e w' => e = .returned (.int .i64 1) ∧ Below W.heap.size W w' := fun W => by
    go_enter Tryz.func101, Tryz.ntmps101
    go_wp2
    go_loop [1, 5] (fun q i => i = .int .i64 0 ∧ q = .int .i64 1) (fun _ _ => 0)
    case atStart => exact ⟨rfl, rfl⟩
    case round =>
      obtain ⟨rfl, rfl⟩ := hrel
      go_wp2
      go_ret
      exact ⟨rfl, Below.refl _ _⟩
  have hb : ∀ o, Below w.heap.size w (w.alloc o) := fun o => (Below.refl _ _).alloc (Nat.le_refl _) o
  have HB := Lib.hid hb
  clear hb
  unfold headV
  go_enter Tryz.func46, Tryz.ntmps46
  go_wp2_with fail
  refine (hM _).mono ?_
  rintro e w2 ⟨rfl, hb2⟩
  have HF := Lib.hid ((HB.out (.cells #[.string h.verb, .string h.target, .string h.host, .slice none 0 0, .string h.body] 40)).trans (hb2.mono (by simp)))
  clear hM hb2
  go_wp2
  go_ret
  exact ⟨rfl, HF.out⟩
theorem held_none (h : Hd) (w : World) :
    Calls Tryz.prog 47 #[headV h (.slice none 0 0), .int .i64 1] w fun e w' => e = .returned (.int .i64 1) ∧ Below w.heap.size w w' := by
  have hM : ∀ W, Calls Tryz.prog 102 #[.slice none 0 0, .int .i64 1] W fun e w' => e = .returned (.int .i64 1) ∧ Below W.heap.size W w' := fun W => by
    go_enter Tryz.func102, Tryz.ntmps102
    go_wp2
    go_loop [1, 5] (fun q i => i = .int .i64 0 ∧ q = .int .i64 1) (fun _ _ => 0)
    case atStart => exact ⟨rfl, rfl⟩
    case round =>
      obtain ⟨rfl, rfl⟩ := hrel
      go_wp2
      go_ret
      exact ⟨rfl, Below.refl _ _⟩
  have hb : ∀ o, Below w.heap.size w (w.alloc o) := fun o => (Below.refl _ _).alloc (Nat.le_refl _) o
  have HB := Lib.hid hb
  clear hb
  unfold headV
  go_enter Tryz.func47, Tryz.ntmps47
  go_wp2_with fail
  refine (hM _).mono ?_
  rintro e w2 ⟨rfl, hb2⟩
  have HF := Lib.hid ((HB.out (.cells #[.string h.verb, .string h.target, .string h.host, .slice none 0 0, .string h.body] 40)).trans (hb2.mono (by simp)))
  clear hM hb2
  go_wp2
  go_ret
  exact ⟨rfl, HF.out⟩

def MkS (w : World) (v : Value) (n : Nat) : Prop := (v = .slice none 0 0 ∧ n = 0) ∨ ∃ g cap, v = .slice (some ⟨g, 0, none⟩) n cap ∧ FCells w g n (mkFd 1)
theorem MkS.keep {w w' : World} {v : Value} {n : Nat} (h : MkS w v n) (hb : Below w.heap.size w w') : MkS w' v n := by
  rcases h with h | ⟨g, cap, h1, h2⟩
  · exact .inl h
  · exact .inr ⟨g, cap, h1, h2.keep (hb.block g h2.lt)⟩
theorem mark_any (h : Hd) (v : Value) (B : Nat) (T : TypeId) (fs : List Fd) (w : World) (ho : w.ownsRow B T 2 v fs.length (fcells fs)) (hn : fs.length ≤ 2000000) :
    Calls Tryz.prog 46 #[headV h v, .int .i64 1] w fun e w' => e = .returned (.int .i64 (1 + 2 * (fs.length : Int))) ∧ MkS w' v fs.length ∧ w.grownBy w' v.ownBlock := by
  rcases own_fcells ho with ⟨rfl, rfl⟩ | ⟨g, cap, rfl, _, hF⟩
  · refine (mark_none h w).mono ?_
    rintro e w' ⟨rfl, hb⟩
    exact ⟨rfl, .inl ⟨rfl, rfl⟩, grown_of_below hb _⟩
  · refine (mark_head h g cap (fget fs) fs.length w hF hn).mono ?_
    rintro e w' ⟨rfl, hc, hg⟩
    exact ⟨rfl, .inr ⟨g, cap, rfl, hc.congr (fun i hi => by simp [mkUp, hi])⟩, hg⟩
theorem held_any (h : Hd) (v : Value) (n : Nat) (w : World) (hm : MkS w v n) (hn : n ≤ 2000000) :
    Calls Tryz.prog 47 #[headV h v, .int .i64 1] w fun e w' => e = .returned (.int .i64 (1 + 2 * (n : Int))) ∧ Below w.heap.size w w' := by
  rcases hm with ⟨rfl, rfl⟩ | ⟨g, cap, rfl, hF⟩
  · exact (held_none h w).mono fun e w' h => by simpa using h
  · exact held_head h g cap n w hF hn

end Go.Proofs.YtiepobifbkleaaaGreatDoor

-- from XHxN
/- What an operation leaves that makes a request. -/
namespace Go.Proofs.YtiepobifbkleaaaGreatDoor
open Go.RowKit Go.Maps

def RHd (h : Hd) : Value → World → Prop := fun x w => ∃ g, x = .agg #[.string h.verb, .string h.target, .string h.host, .slice (some ⟨g, 0, none⟩) h.fs.length h.fs.length, .string h.body] ∧ FRow w (.slice (some ⟨g, 0, none⟩) h.fs.length h.fs.length) h.fs
theorem steady_hd (h : Hd) : Steady (RHd h) := fun _ _ _ ⟨g, h1, h2⟩ hb => ⟨g, h1, h2.below (Nat.le_refl _) hb⟩
theorem ok2 {fs : List Fd} (h : FOk fs 1048576) : FOk fs 2000000 := fun f hf => ⟨Nat.le_trans (h f hf).1 (by decide), Nat.le_trans (h f hf).2 (by decide)⟩
theorem ok3 {fs : List Fd} (h : FOk fs 1048576) : FOk fs 281474976710656 := fun f hf => ⟨Nat.le_trans (h f hf).1 (by decide), Nat.le_trans (h f hf).2 (by decide)⟩
end Go.Proofs.YtiepobifbkleaaaGreatDoor

