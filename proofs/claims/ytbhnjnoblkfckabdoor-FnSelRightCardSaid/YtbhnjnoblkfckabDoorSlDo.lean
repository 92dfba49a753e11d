/- Walks: the drawing of seals, some bent. -/
import Derived.Test.YtbhnjnoblkfckabDoorSlD
import Derived.Test.YtbhnjnoblkfckabDoorDrawD
import Derived.Deep.DeepCutAuto
namespace Go.Proofs.YtbhnjnoblkfckabDoor
open Go.RowKit

def DrawnSealW (w : World) (B g m : Nat) (e : Ending) (w' : World) : Prop := ∃ s : Sl, e = .returned (slV s) ∧ SlSz s ∧ Drawn w w' B g m
theorem path_le' (p : ByteArray) (h : p.size ≤ 50) : (ByteArray.mk (pathL p.data.toList).toArray).size ≤ 50 := by have := path_le p; omega

set_option maxRecDepth 100000 in
set_option maxHeartbeats 6400000 in
theorem sealor_any (g B m : Nat) (key now last mul : Int) (w : World) (hm : m ≤ 400000) (hn : 0 ≤ now ∧ now ≤ 1000) (hl : 0 ≤ last ∧ last ≤ 1000) (hq0 : 0 ≤ mul) (hq : mul ≤ 1000000) (h : RdAt w B g m) :
    Calls Tryd.prog 14 #[.pointer (some ⟨g, 0, none⟩), .int .i64 key, .int .i64 now, .int .i64 last, .int .i64 mul] w (DrawnSealW w B g (m + 40)) := by
  have hg := h.lt
  obtain ⟨w0, hw0⟩ : ∃ x, x = w.alloc (.cells #[.string ⟨#[]⟩, .bool false, .int .i64 0, .int .i64 0, .int .i64 0] 29) := ⟨_, rfl⟩
  have hd0 : Drawn w w0 B g m := by rw [hw0]; exact (Drawn.refl h).alloc _
  have g0 : w0.heap[w.heap.size]? = some (.cells noSlV 29 (0, 0)) := by rw [hw0]; exact heap_alloc_new w _
  have hz0 : w0.heap.size = w.heap.size + 1 := by rw [hw0]; simp
  have HW0 := Lib.hid hw0
  clear hw0 h
  go_enter Tryd.func14, Tryd.ntmps14
  go_wp2_with fail
  rw [← HW0.out]
  refine (seal_any g B m key now last w0 (by omega) hn hl hd0.1).mono ?_
  rintro e w1 ⟨s, rfl, hti, hd1⟩
  have hd01 := hd0.trans hd1
  have g1 := (hd1.2.block _ (Array.getElem?_eq_some_iff.1 g0).1 (fun e => by cases e; omega)).trans g0
  have hsz1 := hd1.2.size
  clear hd0 hd1 g0 HW0
  obtain ⟨sp, su, st, sn, sc⟩ := s
  obtain ⟨c0, c1, c2, c3⟩ := hti
  dsimp only at c0 c1 c2 c3
  have hs : SlSz ⟨sp, su, st, sn, sc⟩ := SlTi.sz ⟨c0, c1, c2, c3⟩
  obtain ⟨wB, hwB⟩ : ∃ x, x = w1.alloc (.cells #[.string sp, .bool su, .int .i64 st, .int .i64 sn, .int .i64 sc] 29) := ⟨_, rfl⟩
  have hI : SIn w wB B g (m + 10) w1.heap.size ⟨sp, su, st, sn, sc⟩ := by
    have hdA : Drawn w1 wB B g (m + 10) := by rw [hwB]; exact (Drawn.refl hd01.1).alloc _
    exact ⟨hd01.trans hdA, (hdA.2.block _ (Array.getElem?_eq_some_iff.1 g1).1 (fun e => by cases e; omega)).trans g1, by rw [hwB]; exact heap_alloc_new w1 _, by omega, hg, hs⟩
  have HWB := Lib.hid hwB
  unfold slV
  dsimp only
  clear hwB hd01 g1
  go_wp2_with fail
  rw [← HWB.out]
  generalize w1.heap.size = b at *
  refine (odd_any g mul B (m + 10) wB (by omega) hq hq0 hI.rd).mono ?_
  rintro e w5 ⟨bo, rfl, hd5⟩
  replace hI := hI.keep hd5
  have hbl := hI.lt
  clear hd5 HWB
  cases bo with
  | false =>
    obtain ⟨p0, p1, p2, p3, p4⟩ := sl_facts hI.box
    obtain ⟨r0, r1, r2, r3, r4⟩ := sl_frozen hI.res
    obtain ⟨t0, t1, t2, t3, t4⟩ := sl_facts hI.res
    obtain ⟨hF, hz⟩ := hI.fin (.string sp) (.bool su) (.int .i64 st) (.int .i64 sn) (.int .i64 sc)
    have HF := Lib.hid (And.intro hI.sz (hF.mono (show _ ≤ m + 40 by omega)))
    clear hI hF
    unfold set5s at hz HF
    have HZ := Lib.hid (sl_facts hz)
    clear hz
    go_wp2_with fail
    obtain ⟨z0, z1, z2, z3, z4⟩ := HZ.out
    refine bodyPost_ret (v := .agg #[.string sp, .bool su, .int .i64 st, .int .i64 sn, .int .i64 sc]) (by simp [results, Tryd.results14, go_sem, z0, z1, z2, z3, z4]) rfl ?_
    exact ⟨⟨sp, su, st, sn, sc⟩, rfl, HF.out⟩
  | true =>
    go_wp2_with fail
    refine (pick_lit g 6 6 rfl (by decide) B (m + 10 + 1) w5 (by omega) (by decide) hI.rd).mono ?_
    rintro e w6 ⟨k6, rfl, hk6, -, hd6⟩
    replace hI := hI.keep hd6
    clear hd6
    have hkk : k6 = 0 ∨ k6 = 1 ∨ k6 = 2 ∨ k6 = 3 ∨ k6 = 4 ∨ k6 = 5 := by omega
    clear hk6
    rcases hkk with rfl | rfl | rfl | rfl | rfl | rfl
    · obtain ⟨f0, f1, f2, f3, f4⟩ := sl_frozen hI.box
      obtain ⟨q0, q1, q2, q3, q4⟩ := sl_facts hI.box
      have hK := hI.set (j := 4) (v := .int .i64 (sc + 1)) (s' := ⟨sp, su, st, sn, (sc + 1)⟩) rfl ⟨hs.path, hs.til, hs.nonce, by unfold SmS; simp only; omega⟩
      clear hI
      obtain ⟨p0, p1, p2, p3, p4⟩ := sl_facts hK.box
      obtain ⟨r0, r1, r2, r3, r4⟩ := sl_frozen hK.res
      obtain ⟨t0, t1, t2, t3, t4⟩ := sl_facts hK.res
      obtain ⟨hF, hz⟩ := hK.fin (.string sp) (.bool su) (.int .i64 st) (.int .i64 sn) (.int .i64 (sc + 1))
      have HF := Lib.hid (And.intro hK.sz (hF.mono (show _ ≤ m + 40 by omega)))
      clear hK hF
      unfold set5s at hz HF
      have HZ := Lib.hid (sl_facts hz)
      clear hz
      go_wp2_with fail
      obtain ⟨z0, z1, z2, z3, z4⟩ := HZ.out
      refine bodyPost_ret (v := .agg #[.string sp, .bool su, .int .i64 st, .int .i64 sn, .int .i64 (sc + 1)]) (by simp [results, Tryd.results14, go_sem, z0, z1, z2, z3, z4]) rfl ?_
      exact ⟨⟨sp, su, st, sn, (sc + 1)⟩, rfl, HF.out⟩
    · go_wp2_with fail
      refine (raw_any g B (m + 10 + 1 + 1) w6 (by omega) hI.rd).mono ?_
      rintro e w7 ⟨rw7, rfl, hrw7, hd7⟩
      replace hI := hI.keep hd7
      clear hd7
      have hP := spec_path rw7 w7 (by unfold maxLen; omega)
      have hple := path_le' rw7 hrw7
      unfold strV at hP
      generalize (ByteArray.mk (pathL rw7.data.toList).toArray) = P at *
      go_wp2_with fail
      refine hP.mono ?_
      rintro e w8 ⟨rfl, n1, hn1'⟩
      replace hI : SIn w w8 B g (m + 10 + 1 + 1 + 8) b ⟨sp, su, st, sn, sc⟩ := by rw [hn1']; exact hI.keep ((Drawn.refl hI.rd).drewN n1)
      clear hP hn1' hrw7
      obtain ⟨f0, f1, f2, f3, f4⟩ := sl_frozen hI.box
      obtain ⟨q0, q1, q2, q3, q4⟩ := sl_facts hI.box
      have hK := hI.set (j := 0) (v := .string P) (s' := ⟨P, su, st, sn, sc⟩) rfl ⟨by simp only; omega, hs.til, hs.nonce, hs.code⟩
      clear hI
      obtain ⟨p0, p1, p2, p3, p4⟩ := sl_facts hK.box
      obtain ⟨r0, r1, r2, r3, r4⟩ := sl_frozen hK.res
      obtain ⟨t0, t1, t2, t3, t4⟩ := sl_facts hK.res
      obtain ⟨hF, hz⟩ := hK.fin (.string P) (.bool su) (.int .i64 st) (.int .i64 sn) (.int .i64 sc)
      have HF := Lib.hid (And.intro hK.sz (hF.mono (show _ ≤ m + 40 by omega)))
      clear hK hF
      unfold set5s at hz HF
      have HZ := Lib.hid (sl_facts hz)
      clear hz
      go_wp2_with fail
      obtain ⟨z0, z1, z2, z3, z4⟩ := HZ.out
      refine bodyPost_ret (v := .agg #[.string P, .bool su, .int .i64 st, .int .i64 sn, .int .i64 sc]) (by simp [results, Tryd.results14, go_sem, z0, z1, z2, z3, z4]) rfl ?_
      exact ⟨⟨P, su, st, sn, sc⟩, rfl, HF.out⟩
    · obtain ⟨f0, f1, f2, f3, f4⟩ := sl_frozen hI.box
      obtain ⟨q0, q1, q2, q3, q4⟩ := sl_facts hI.box
      have hK := hI.set (j := 1) (v := .bool (!su)) (s' := ⟨sp, (!su), st, sn, sc⟩) rfl ⟨hs.path, hs.til, hs.nonce, hs.code⟩
      clear hI
      obtain ⟨p0, p1, p2, p3, p4⟩ := sl_facts hK.box
      obtain ⟨r0, r1, r2, r3, r4⟩ := sl_frozen hK.res
      obtain ⟨t0, t1, t2, t3, t4⟩ := sl_facts hK.res
      obtain ⟨hF, hz⟩ := hK.fin (.string sp) (.bool (!su)) (.int .i64 st) (.int .i64 sn) (.int .i64 sc)
      have HF := Lib.hid (And.intro hK.sz (hF.mono (show _ ≤ m + 40 by omega)))
      clear hK hF
      unfold set5s at hz HF
      have HZ := Lib.hid (sl_facts hz)
      clear hz
      go_wp2_with fail
      obtain ⟨z0, z1, z2, z3, z4⟩ := HZ.out
      refine bodyPost_ret (v := .agg #[.string sp, .bool (!su), .int .i64 st, .int .i64 sn, .int .i64 sc]) (by simp [results, Tryd.results14, go_sem, z0, z1, z2, z3, z4]) rfl ?_
      exact ⟨⟨sp, (!su), st, sn, sc⟩, rfl, HF.out⟩
    · have hrd := hI.rd
      obtain ⟨v0, v1, v2, v3, v4⟩ := sl_facts hI.box
      have hgl := hrd.lt
      have hwr : IntKind.i64.wrap (st + 1) = st + 1 := by simp [IntKind.wrap, IntKind.bits, IntKind.signed]; omega
      have HI := Lib.hid hI
      clear hI
      have hlit : IntsL (-2) 1000002 (#[.int .i64 now, .int .i64 (-1), .int .i64 1000000, .int .i64 (st + 1)] : Array Value).toList := by repeat (first | exact trivial | refine ⟨⟨_, rfl, by omega, by omega⟩, ?_⟩)
      go_wp2_with fail
      go_region_with (go_at_call 13; first | (refine (pick_lit g 4 4 rfl (by decide) B (m + 10 + 1 + 1) _ (by omega) (by decide) (by with_reducible exact (hrd.alloc _).drew)).mono ?_; rintro e w8 ⟨r8, rfl, hr8, hr8', hd8⟩; obtain ⟨x, hx, hx0, hx1⟩ := lit_int (lo := -2) (hi := 1000002) hd8.of_drew hgl hlit r8 (by simp; omega); have hI := HI.out.keep hd8.of_drew.of_alloc; obtain ⟨f0, f1, f2, f3, f4⟩ := sl_frozen hI.box; obtain ⟨q0, q1, q2, q3, q4⟩ := sl_facts hI.box) | (refine (pick_lit g 4 4 rfl (by decide) B (m + 10 + 1 + 1) _ (by omega) (by decide) (by with_reducible exact hrd.drew)).mono ?_; rintro e w8 ⟨r8, rfl, hr8, hr8', hd8⟩; obtain ⟨x, hx', hx0, hx1⟩ := ints_at hlit (r := r8) (by simp; omega); have hI8 := HI.out.keep hd8.of_drew; obtain ⟨q0, q1, q2, q3, q4⟩ := sl_facts hI8.box; have hx := new_cell w8 3 (cs := #[.int .i64 now, .int .i64 (-1), .int .i64 1000000, .int .i64 (st + 1)]) (r := r8) (by simpa using hx'); have hI := hI8.keep ((Drawn.refl hI8.rd).alloc (.cells #[.int .i64 now, .int .i64 (-1), .int .i64 1000000, .int .i64 (st + 1)] 3)); obtain ⟨f0, f1, f2, f3, f4⟩ := sl_frozen hI.box; obtain ⟨s0, s1, s2, s3, s4⟩ := sl_facts hI.box))
      all_goals
        have hK := hI.set (j := 2) (v := .int .i64 x) (s' := ⟨sp, su, x, sn, sc⟩) rfl ⟨hs.path, ⟨hx0, hx1⟩, hs.nonce, hs.code⟩
        clear hI
        obtain ⟨p0, p1, p2, p3, p4⟩ := sl_facts hK.box
        obtain ⟨r0, r1, r2, r3, r4⟩ := sl_frozen hK.res
        obtain ⟨t0, t1, t2, t3, t4⟩ := sl_facts hK.res
        obtain ⟨hF, hz⟩ := hK.fin (.string sp) (.bool su) (.int .i64 x) (.int .i64 sn) (.int .i64 sc)
        have HF := Lib.hid (And.intro hK.sz (hF.mono (show _ ≤ m + 40 by omega)))
        clear hK hF
        unfold set5s at hz HF
        have HZ := Lib.hid (sl_facts hz)
        clear hz
        go_wp2_with fail
        obtain ⟨z0, z1, z2, z3, z4⟩ := HZ.out
        refine bodyPost_ret (v := .agg #[.string sp, .bool su, .int .i64 x, .int .i64 sn, .int .i64 sc]) (by simp [results, Tryd.results14, go_sem, z0, z1, z2, z3, z4]) rfl ?_
        exact ⟨⟨sp, su, x, sn, sc⟩, rfl, HF.out⟩
    · have hrd := hI.rd
      obtain ⟨v0, v1, v2, v3, v4⟩ := sl_facts hI.box
      have hgl := hrd.lt
      have hwr : IntKind.i64.wrap (sn + 1) = sn + 1 := by simp [IntKind.wrap, IntKind.bits, IntKind.signed]; omega
      have HI := Lib.hid hI
      clear hI
      have hlit : IntsL (-2) 1000002 (#[.int .i64 last, .int .i64 (-1), .int .i64 1000000, .int .i64 (sn + 1)] : Array Value).toList := by repeat (first | exact trivial | refine ⟨⟨_, rfl, by omega, by omega⟩, ?_⟩)
      go_wp2_with fail
      go_region_with (go_at_call 13; first | (refine (pick_lit g 4 4 rfl (by decide) B (m + 10 + 1 + 1) _ (by omega) (by decide) (by with_reducible exact (hrd.alloc _).drew)).mono ?_; rintro e w8 ⟨r8, rfl, hr8, hr8', hd8⟩; obtain ⟨x, hx, hx0, hx1⟩ := lit_int (lo := -2) (hi := 1000002) hd8.of_drew hgl hlit r8 (by simp; omega); have hI := HI.out.keep hd8.of_drew.of_alloc; obtain ⟨f0, f1, f2, f3, f4⟩ := sl_frozen hI.box; obtain ⟨q0, q1, q2, q3, q4⟩ := sl_facts hI.box) | (refine (pick_lit g 4 4 rfl (by decide) B (m + 10 + 1 + 1) _ (by omega) (by decide) (by with_reducible exact hrd.drew)).mono ?_; rintro e w8 ⟨r8, rfl, hr8, hr8', hd8⟩; obtain ⟨x, hx', hx0, hx1⟩ := ints_at hlit (r := r8) (by simp; omega); have hI8 := HI.out.keep hd8.of_drew; obtain ⟨q0, q1, q2, q3, q4⟩ := sl_facts hI8.box; have hx := new_cell w8 3 (cs := #[.int .i64 last, .int .i64 (-1), .int .i64 1000000, .int .i64 (sn + 1)]) (r := r8) (by simpa using hx'); have hI := hI8.keep ((Drawn.refl hI8.rd).alloc (.cells #[.int .i64 last, .int .i64 (-1), .int .i64 1000000, .int .i64 (sn + 1)] 3)); obtain ⟨f0, f1, f2, f3, f4⟩ := sl_frozen hI.box; obtain ⟨s0, s1, s2, s3, s4⟩ := sl_facts hI.box))
      all_goals
        have hK := hI.set (j := 3) (v := .int .i64 x) (s' := ⟨sp, su, st, x, sc⟩) rfl ⟨hs.path, hs.til, ⟨hx0, hx1⟩, hs.code⟩
        clear hI
        obtain ⟨p0, p1, p2, p3, p4⟩ := sl_facts hK.box
        obtain ⟨r0, r1, r2, r3, r4⟩ := sl_frozen hK.res
        obtain ⟨t0, t1, t2, t3, t4⟩ := sl_facts hK.res
        obtain ⟨hF, hz⟩ := hK.fin (.string sp) (.bool su) (.int .i64 st) (.int .i64 x) (.int .i64 sc)
        have HF := Lib.hid (And.intro hK.sz (hF.mono (show _ ≤ m + 40 by omega)))
        clear hK hF
        unfold set5s at hz HF
        have HZ := Lib.hid (sl_facts hz)
        clear hz
        go_wp2_with fail
        obtain ⟨z0, z1, z2, z3, z4⟩ := HZ.out
        refine bodyPost_ret (v := .agg #[.string sp, .bool su, .int .i64 st, .int .i64 x, .int .i64 sc]) (by simp [results, Tryd.results14, go_sem, z0, z1, z2, z3, z4]) rfl ?_
        exact ⟨⟨sp, su, st, x, sc⟩, rfl, HF.out⟩
    · have e42 : (sp ++ ⟨#[97, 97, 97, 97, 97, 97, 97, 97, 97, 97, 97, 97, 97, 97, 97, 97, 97, 97, 97, 97, 97, 97, 97, 97, 97, 97, 97, 97, 97, 97, 97, 97, 97, 97, 97, 97, 97, 97, 97, 97, 97, 97]⟩).size ≤ 120 := by rw [bytes_app]; exact Nat.add_le_add c0 (show _ ≤ 90 by decide)
      obtain ⟨f0, f1, f2, f3, f4⟩ := sl_frozen hI.box
      obtain ⟨q0, q1, q2, q3, q4⟩ := sl_facts hI.box
      have hK := hI.set (j := 0) (v := .string (sp ++ ⟨#[97, 97, 97, 97, 97, 97, 97, 97, 97, 97, 97, 97, 97, 97, 97, 97, 97, 97, 97, 97, 97, 97, 97, 97, 97, 97, 97, 97, 97, 97, 97, 97, 97, 97, 97, 97, 97, 97, 97, 97, 97, 97]⟩)) (s' := ⟨(sp ++ ⟨#[97, 97, 97, 97, 97, 97, 97, 97, 97, 97, 97, 97, 97, 97, 97, 97, 97, 97, 97, 97, 97, 97, 97, 97, 97, 97, 97, 97, 97, 97, 97, 97, 97, 97, 97, 97, 97, 97, 97, 97, 97, 97]⟩), su, st, sn, sc⟩) rfl ⟨e42, hs.til, hs.nonce, hs.code⟩
      clear hI
      obtain ⟨p0, p1, p2, p3, p4⟩ := sl_facts hK.box
      obtain ⟨r0, r1, r2, r3, r4⟩ := sl_frozen hK.res
      obtain ⟨t0, t1, t2, t3, t4⟩ := sl_facts hK.res
      obtain ⟨hF, hz⟩ := hK.fin (.string (sp ++ ⟨#[97, 97, 97, 97, 97, 97, 97, 97, 97, 97, 97, 97, 97, 97, 97, 97, 97, 97, 97, 97, 97, 97, 97, 97, 97, 97, 97, 97, 97, 97, 97, 97, 97, 97, 97, 97, 97, 97, 97, 97, 97, 97]⟩)) (.bool su) (.int .i64 st) (.int .i64 sn) (.int .i64 sc)
      have HF := Lib.hid (And.intro hK.sz (hF.mono (show _ ≤ m + 40 by omega)))
      clear hK hF
      unfold set5s at hz HF
      have HZ := Lib.hid (sl_facts hz)
      clear hz
      go_wp2_with fail
      obtain ⟨z0, z1, z2, z3, z4⟩ := HZ.out
      refine bodyPost_ret (v := .agg #[.string (sp ++ ⟨#[97, 97, 97, 97, 97, 97, 97, 97, 97, 97, 97, 97, 97, 97, 97, 97, 97, 97, 97, 97, 97, 97, 97, 97, 97, 97, 97, 97, 97, 97, 97, 97, 97, 97, 97, 97, 97, 97, 97, 97, 97, 97]⟩), .bool su, .int .i64 st, .int .i64 sn, .int .i64 sc]) (by simp [results, Tryd.results14, go_sem, z0, z1, z2, z3, z4]) rfl ?_
      exact ⟨⟨(sp ++ ⟨#[97, 97, 97, 97, 97, 97, 97, 97, 97, 97, 97, 97, 97, 97, 97, 97, 97, 97, 97, 97, 97, 97, 97, 97, 97, 97, 97, 97, 97, 97, 97, 97, 97, 97, 97, 97, 97, 97, 97, 97, 97, 97]⟩), su, st, sn, sc⟩, rfl, HF.out⟩
end Go.Proofs.YtbhnjnoblkfckabDoor
