import Derived.Test.YtbhnjnoblkfckaaGreatDoorGZ16
import Derived.Test.YtbhnjnoblkfckaaGreatDoorGZ18
import Derived.Test.YtbhnjnoblkfckaaGreatDoorGZ09
import Derived.Test.YtbhnjnoblkfckaaGreatDoorShelf
import Derived.Test.YtbhnjnoblkfckaaGreatDoorGZ13
import Derived.Test.YtbhnjnoblkfckaaGreatDoorGZ14
-- from XStX
/- Walks: storage, by the specification: without what is at a path, or under it. -/
namespace Go.Proofs.YtbhnjnoblkfckaaGreatDoor
open Go.RowKit Go.Maps

theorem drop_snoc {L : List En} {k : Nat} {e : En} (h : L[k]? = some e) (q : List UInt8) (un : Bool) : dropE (L.take (k + 1)) q un = dropE (L.take k) q un ++ (if goneB q un e = true then [] else [e]) := by
  obtain ⟨hlt, rfl⟩ := List.getElem?_eq_some_iff.1 h
  rw [List.take_add_one, h]
  unfold dropE
  rw [List.filter_append]
  cases hq : goneB q un L[k] <;> simp [hq]
theorem gone_snoc {L : List En} {k : Nat} {e : En} (h : L[k]? = some e) (q : List UInt8) (un : Bool) : goneN (L.take (k + 1)) q un = goneN (L.take k) q un + (if goneB q un e = true then 1 else 0) := by
  obtain ⟨hlt, rfl⟩ := List.getElem?_eq_some_iff.1 h
  rw [List.take_add_one, h]
  unfold goneN
  rw [List.countP_append]
  cases hq : goneB q un L[k] <;> simp [hq]
theorem gone_le (L : List En) (q : List UInt8) (un : Bool) : goneN L q un ≤ L.length := List.countP_le_length

end Go.Proofs.YtbhnjnoblkfckaaGreatDoor

-- from XRsZ
/- The laws' own helpers over answers: sized, copied, equal. -/
namespace Go.Proofs.YtbhnjnoblkfckaaGreatDoor
open Go.RowKit Go.Maps

set_option maxRecDepth 100000 in
set_option maxHeartbeats 800000 in
theorem sz_rsp (r : Rp) (L : Int) (hL0 : 0 ≤ L) (hL1 : L ≤ 1048576) (ht : r.tag.size ≤ maxLen) (hb : r.body.size ≤ maxLen) (w : World) :
    Calls Tryz.prog 48 #[rspV r, .int .i64 L] w fun e w' => (∃ n : Int, e = .returned (.int .i64 n) ∧ (n < 0 ∨ (0 ≤ n ∧ n ≤ L ∧ r.tag.size ≤ 1048576 ∧ r.body.size ≤ 1048576))) ∧ Below w.heap.size w w' := by
  obtain ⟨c, m, hd, t, k, b⟩ := r
  unfold maxLen at ht hb
  dsimp only at ht hb ⊢
  unfold rspV
  dsimp only
  by_cases c1 : L - (t.size : Int) < 0
  · go_enter Tryz.func48, Tryz.ntmps48
    go_wp2_with fail
    go_ret
    exact ⟨⟨-1, rfl, .inl (by omega)⟩, (Below.refl _ _).alloc (Nat.le_refl _) _⟩
  · by_cases c2 : L - (t.size : Int) - (b.size : Int) < 0
    · go_enter Tryz.func48, Tryz.ntmps48
      go_wp2_with fail
      go_ret
      exact ⟨⟨-1, rfl, .inl (by omega)⟩, (Below.refl _ _).alloc (Nat.le_refl _) _⟩
    · go_enter Tryz.func48, Tryz.ntmps48
      go_wp2_with fail
      go_ret
      exact ⟨⟨_, rfl, .inr ⟨by omega, by omega, by omega, by omega⟩⟩, (Below.refl _ _).alloc (Nat.le_refl _) _⟩

set_option maxRecDepth 100000 in
set_option maxHeartbeats 1600000 in
theorem to_rsp (r : Rp) (w : World) :
    Calls Tryz.prog 51 #[rspV r] w fun e w' => e = .returned (rspV r) ∧ Below w.heap.size w w' := by
  obtain ⟨c, m, hd, t, k, b⟩ := r
  unfold rspV
  dsimp only
  go_enter Tryz.func51, Tryz.ntmps51
  go_wp2
  exact bodyPost_ret (v := .agg #[.int .i64 c, .int .i64 m, .bool hd, .string t, .int .i64 k, .string b]) (by simp [results, Tryz.results51, go_sem]) rfl ⟨rfl, (((Below.refl _ _).alloc (Nat.le_refl _) _).alloc (by simp) _).alloc (by simp; omega) _⟩

set_option maxRecDepth 100000 in
set_option maxHeartbeats 1600000 in
theorem eq_rsp (r : Rp) (w : World) :
    Calls Tryz.prog 105 #[rspV r, rspV r] w fun e w' => e = .returned (.bool true) ∧ Below w.heap.size w w' := by
  obtain ⟨c, m, hd, t, k, b⟩ := r
  unfold rspV
  dsimp only
  have e0 : (t.toList != t.toList) = false := by simp
  have e1 : (b.toList != b.toList) = false := by simp
  have e2 : (hd != hd) = false := by cases hd <;> rfl
  go_enter Tryz.func105, Tryz.ntmps105
  go_wp2
  go_ret
  exact ⟨rfl, ((Below.refl _ _).alloc (Nat.le_refl _) _).alloc (by simp) _⟩
end Go.Proofs.YtbhnjnoblkfckaaGreatDoor

-- from XStY
/- The laws' own helpers over storage: an entry sized, copied, equal. -/
namespace Go.Proofs.YtbhnjnoblkfckaaGreatDoor
open Go.RowKit Go.Maps

theorem below_set9 {B q : Nat} {w w' : World} (h : Below B w w') (hq : B ≤ q) (a b c d e f g k i : Value) : Below B w (set9 w' q a b c d e f g k i) := by
  have s : ∀ (W : World) (j : Nat) (v : Value), Below B w W → Below B w (W.setCell ⟨q, j, none⟩ v) := fun W j v hW => hW.setCell (p := ⟨q, j, none⟩) hq _
  exact s _ _ _ (s _ _ _ (s _ _ _ (s _ _ _ (s _ _ _ (s _ _ _ (s _ _ _ (s _ _ _ (s _ _ _ h))))))))
theorem three_newE (w : World) (a b c : Obj) : (((w.alloc a).alloc b).alloc c).heap[w.heap.size]? = some a ∧ (((w.alloc a).alloc b).alloc c).heap[w.heap.size + 1]? = some b ∧ (((w.alloc a).alloc b).alloc c).heap[w.heap.size + 1 + 1]? = some c := by
  refine ⟨?_, ?_, ?_⟩
  · exact (Below.heap_alloc _ _ _ (by simp; omega)).trans ((Below.heap_alloc _ _ _ (by simp)).trans (heap_alloc_new w a))
  · have := heap_alloc_new (w.alloc a) b
    rw [World.size_alloc] at this
    exact (Below.heap_alloc _ _ _ (by simp)).trans this
  · have := heap_alloc_new ((w.alloc a).alloc b) c
    rw [World.size_alloc, World.size_alloc] at this
    exact this

set_option maxRecDepth 100000 in
set_option maxHeartbeats 1600000 in
theorem sz_entry (e : En) (L : Int) (hL0 : 0 ≤ L) (hL1 : L ≤ 1048576) (he : EnOk maxLen e) (w : World) :
    Calls Tryz.prog 18 #[enV e, .int .i64 L] w fun e' w' => (∃ n : Int, e' = .returned (.int .i64 n) ∧ (n < 0 ∨ (0 ≤ n ∧ n ≤ L ∧ EnOk 1048576 e))) ∧ Below w.heap.size w w' := by
  obtain ⟨h1, h2, h3, h4⟩ := he
  obtain ⟨p, m, ⟨c, x, hd, t, k, b⟩, a⟩ := e
  unfold maxLen at h1 h2 h3
  dsimp only at h1 h2 h3 h4
  unfold enV
  dsimp only
  by_cases c1 : L - (p.size : Int) < 0
  · go_enter Tryz.func18, Tryz.ntmps18
    go_wp2_with fail
    go_ret
    exact ⟨⟨-1, rfl, .inl (by omega)⟩, (Below.refl _ _).alloc (Nat.le_refl _) _⟩
  · have hc := fun W => sz_rsp ⟨c, x, hd, t, k, b⟩ (L - (p.size : Int)) (by omega) (by omega) (by unfold maxLen; exact h2) (by unfold maxLen; exact h3) W
    unfold rspV at hc
    dsimp only at hc
    have HC := Lib.hid hc
    clear hc
    go_enter Tryz.func18, Tryz.ntmps18
    go_wp2_with fail
    refine (HC.out _).mono ?_
    rintro e' w1 ⟨⟨n, rfl, hn⟩, hb1⟩
    have hb : Below w.heap.size w w1 := ((Below.refl _ _).alloc (Nat.le_refl _) _).trans (hb1.mono (by simp))
    clear hb1
    rcases hn with hn | ⟨q1, q2, q3, q4⟩
    · have HB := Lib.hid hb
      clear hb
      go_wp2_with fail
      go_ret
      exact ⟨⟨-1, rfl, .inl (by omega)⟩, HB.out⟩
    · have HB := Lib.hid hb
      clear hb
      have i1 : ¬ n < 0 := by omega
      go_wp2_with fail
      go_ret
      exact ⟨⟨n, rfl, .inr ⟨q1, by omega, by dsimp only; omega, q3, q4, h4⟩⟩, HB.out⟩

set_option maxRecDepth 100000 in
set_option maxHeartbeats 3200000 in
theorem to_entry (e : En) (w : World) :
    Calls Tryz.prog 20 #[enV e] w fun e' w' => e' = .returned (enV e) ∧ Below w.heap.size w w' := by
  obtain ⟨p, m, ⟨c, x, hd, t, k, b⟩, a⟩ := e
  unfold enV
  dsimp only
  have hc := fun W => to_rsp ⟨c, x, hd, t, k, b⟩ W
  unfold rspV at hc
  dsimp only at hc
  obtain ⟨wA, hwA⟩ : ∃ wA, wA = ((w.alloc (.cells #[.string p, .int .i64 m, .int .i64 c, .int .i64 x, .bool hd, .string t, .int .i64 k, .string b, .int .i64 a] 43)).alloc (.cells #[.string ⟨#[]⟩, .int .i64 0, .int .i64 0, .int .i64 0, .bool false, .string ⟨#[]⟩, .int .i64 0, .string ⟨#[]⟩, .int .i64 0] 48)).alloc (.cells #[.string p, .int .i64 m, .int .i64 0, .int .i64 0, .bool false, .string ⟨#[]⟩, .int .i64 0, .string ⟨#[]⟩, .int .i64 0] 48) := ⟨_, rfl⟩
  have hbA : Below w.heap.size w wA := by
    rw [hwA]
    exact (((Below.refl _ _).alloc (Nat.le_refl _) _).alloc (by simp) _).alloc (by simp; omega) _
  have hsA : wA.heap.size = w.heap.size + 3 := by rw [hwA]; simp
  obtain ⟨v0, v1, v2⟩ := three_newE w (.cells #[.string p, .int .i64 m, .int .i64 c, .int .i64 x, .bool hd, .string t, .int .i64 k, .string b, .int .i64 a] 43) (.cells #[.string ⟨#[]⟩, .int .i64 0, .int .i64 0, .int .i64 0, .bool false, .string ⟨#[]⟩, .int .i64 0, .string ⟨#[]⟩, .int .i64 0] 48) (.cells #[.string p, .int .i64 m, .int .i64 0, .int .i64 0, .bool false, .string ⟨#[]⟩, .int .i64 0, .string ⟨#[]⟩, .int .i64 0] 48)
  rw [← hwA] at v0 v1 v2
  obtain ⟨q0, q1, q2, q3, q4, q5, q6, q7, q8⟩ := nine_facts v0
  rw [hwA] at q0 q1 q2 q3 q4 q5 q6 q7 q8
  have HW := Lib.hid hwA
  have HC := Lib.hid hc
  clear hwA hc
  go_enter Tryz.func20, Tryz.ntmps20
  go_wp2_with fail
  rw [← HW.out]
  refine (HC.out _).mono ?_
  rintro e' w1 ⟨rfl, hb1⟩
  have hy0 := (hb1.block w.heap.size (by omega)).trans v0
  have hy1 := (hb1.block (w.heap.size + 1) (by omega)).trans v1
  have hy2 : w1.heap[w.heap.size + 1 + 1]? = some (.cells #[.string p, .int .i64 m, .int .i64 0, .int .i64 0, .bool false, .string ⟨#[]⟩, .int .i64 0, .string ⟨#[]⟩, .int .i64 0] 48 (0, 0)) := (hb1.block (w.heap.size + 1 + 1) (by omega)).trans v2
  clear q0 q1 q2 q3 q4 q5 q6 q7 q8 v0 v1 v2
  have hb := hbA.trans (hb1.mono (by omega))
  obtain ⟨q0, q1, q2, q3, q4, q5, q6, q7, q8⟩ := nine_facts hy0
  obtain ⟨r0, r1, r2, r3, r4, r5, r6, r7, r8⟩ := nine_facts hy1
  obtain ⟨f0, f1, f2, f3, f4, f5, f6, f7, f8⟩ := nine_frozen hy1
  obtain ⟨s0, s1, s2, s3, s4, s5, s6, s7, s8⟩ := nine_facts hy2
  obtain ⟨g0, g1, g2, g3, g4, g5, g6, g7, g8⟩ := nine_frozen hy2
  have hz2 := heap_setCell_same _ (w.heap.size + 1 + 1) 8 _ _ (.int .i64 a) (heap_setCell_same _ (w.heap.size + 1 + 1) 7 _ _ (.string b) (heap_setCell_same _ (w.heap.size + 1 + 1) 6 _ _ (.int .i64 k) (heap_setCell_same _ (w.heap.size + 1 + 1) 5 _ _ (.string t) (heap_setCell_same _ (w.heap.size + 1 + 1) 4 _ _ (.bool hd) (heap_setCell_same _ (w.heap.size + 1 + 1) 3 _ _ (.int .i64 x) (heap_setCell_same _ (w.heap.size + 1 + 1) 2 _ _ (.int .i64 c) hy2))))))
  have hz1 : ((((((((w1.setCell ⟨w.heap.size + 1 + 1, 2, none⟩ (.int .i64 c)).setCell ⟨w.heap.size + 1 + 1, 3, none⟩ (.int .i64 x)).setCell ⟨w.heap.size + 1 + 1, 4, none⟩ (.bool hd)).setCell ⟨w.heap.size + 1 + 1, 5, none⟩ (.string t)).setCell ⟨w.heap.size + 1 + 1, 6, none⟩ (.int .i64 k)).setCell ⟨w.heap.size + 1 + 1, 7, none⟩ (.string b)).setCell ⟨w.heap.size + 1 + 1, 8, none⟩ (.int .i64 a)).heap[w.heap.size + 1]?) = some (.cells #[.string ⟨#[]⟩, .int .i64 0, .int .i64 0, .int .i64 0, .bool false, .string ⟨#[]⟩, .int .i64 0, .string ⟨#[]⟩, .int .i64 0] 48 (0, 0)) := by
    rw [heap_setCell_other _ ⟨w.heap.size + 1 + 1, 8, none⟩ _ _ (by simp), heap_setCell_other _ ⟨w.heap.size + 1 + 1, 7, none⟩ _ _ (by simp), heap_setCell_other _ ⟨w.heap.size + 1 + 1, 6, none⟩ _ _ (by simp), heap_setCell_other _ ⟨w.heap.size + 1 + 1, 5, none⟩ _ _ (by simp), heap_setCell_other _ ⟨w.heap.size + 1 + 1, 4, none⟩ _ _ (by simp), heap_setCell_other _ ⟨w.heap.size + 1 + 1, 3, none⟩ _ _ (by simp), heap_setCell_other _ ⟨w.heap.size + 1 + 1, 2, none⟩ _ _ (by simp)]
    exact hy1
  have hz := nine_set hz1 (.string p) (.int .i64 m) (.int .i64 c) (.int .i64 x) (.bool hd) (.string t) (.int .i64 k) (.string b) (.int .i64 a)
  have hfin := below_set9 (q := w.heap.size + 1) (Below.setCell (Below.setCell (Below.setCell (Below.setCell (Below.setCell (Below.setCell (Below.setCell hb (p := ⟨w.heap.size + 1 + 1, 2, none⟩) (by simp; omega) (.int .i64 c)) (p := ⟨w.heap.size + 1 + 1, 3, none⟩) (by simp; omega) (.int .i64 x)) (p := ⟨w.heap.size + 1 + 1, 4, none⟩) (by simp; omega) (.bool hd)) (p := ⟨w.heap.size + 1 + 1, 5, none⟩) (by simp; omega) (.string t)) (p := ⟨w.heap.size + 1 + 1, 6, none⟩) (by simp; omega) (.int .i64 k)) (p := ⟨w.heap.size + 1 + 1, 7, none⟩) (by simp; omega) (.string b)) (p := ⟨w.heap.size + 1 + 1, 8, none⟩) (by simp; omega) (.int .i64 a)) (by omega) (.string p) (.int .i64 m) (.int .i64 c) (.int .i64 x) (.bool hd) (.string t) (.int .i64 k) (.string b) (.int .i64 a)
  unfold set9 at hz hfin
  have HF := Lib.hid (And.intro hz hfin)
  clear hz hb hfin hy0 hy1 hy2 hz1 hz2 hb1
  go_wp2
  obtain ⟨hz, hfin⟩ := HF.out
  obtain ⟨k0, k1, k2, k3, k4, k5, k6, k7, k8⟩ := nine_facts hz
  refine bodyPost_ret (v := .agg #[.string p, .int .i64 m, .int .i64 c, .int .i64 x, .bool hd, .string t, .int .i64 k, .string b, .int .i64 a]) (by simp [results, Tryz.results20, go_sem, k0, k1, k2, k3, k4, k5, k6, k7, k8]) rfl ⟨rfl, hfin⟩

set_option maxRecDepth 100000 in
set_option maxHeartbeats 3200000 in
theorem eq_entry (e : En) (w : World) :
    Calls Tryz.prog 78 #[enV e, enV e] w fun e' w' => e' = .returned (.bool true) ∧ Below w.heap.size w w' := by
  obtain ⟨p, m, ⟨c, x, hd, t, k, b⟩, a⟩ := e
  unfold enV
  dsimp only
  have e0 : (p.toList != p.toList) = false := by simp
  have hc := fun W => eq_rsp ⟨c, x, hd, t, k, b⟩ W
  unfold rspV at hc
  dsimp only at hc
  have HC := Lib.hid hc
  clear hc
  obtain ⟨wA, hwA⟩ : ∃ wA, wA = (w.alloc (.cells #[.string p, .int .i64 m, .int .i64 c, .int .i64 x, .bool hd, .string t, .int .i64 k, .string b, .int .i64 a] 48)).alloc (.cells #[.string p, .int .i64 m, .int .i64 c, .int .i64 x, .bool hd, .string t, .int .i64 k, .string b, .int .i64 a] 48) := ⟨_, rfl⟩
  have hbA : Below w.heap.size w wA := by rw [hwA]; exact ((Below.refl _ _).alloc (Nat.le_refl _) _).alloc (by simp) _
  have hsA : wA.heap.size = w.heap.size + 2 := by rw [hwA]; simp
  have v1 : wA.heap[w.heap.size + 1]? = some (.cells #[.string p, .int .i64 m, .int .i64 c, .int .i64 x, .bool hd, .string t, .int .i64 k, .string b, .int .i64 a] 48 (0, 0)) := by
    rw [hwA]
    have := heap_alloc_new (w.alloc (.cells #[.string p, .int .i64 m, .int .i64 c, .int .i64 x, .bool hd, .string t, .int .i64 k, .string b, .int .i64 a] 48)) (.cells #[.string p, .int .i64 m, .int .i64 c, .int .i64 x, .bool hd, .string t, .int .i64 k, .string b, .int .i64 a] 48)
    rwa [World.size_alloc] at this
  have v0 : wA.heap[w.heap.size]? = some (.cells #[.string p, .int .i64 m, .int .i64 c, .int .i64 x, .bool hd, .string t, .int .i64 k, .string b, .int .i64 a] 48 (0, 0)) := by
    rw [hwA]
    exact (Below.heap_alloc _ _ _ (by simp)).trans (heap_alloc_new w _)
  have HX : Hid (∀ W, Below wA.heap.size wA W → W.heap[w.heap.size]? = some (.cells #[.string p, .int .i64 m, .int .i64 c, .int .i64 x, .bool hd, .string t, .int .i64 k, .string b, .int .i64 a] 48 (0, 0)) ∧ W.heap[w.heap.size + 1]? = some (.cells #[.string p, .int .i64 m, .int .i64 c, .int .i64 x, .bool hd, .string t, .int .i64 k, .string b, .int .i64 a] 48 (0, 0)) ∧ Below w.heap.size w W) := Lib.hid fun W hW =>
    ⟨(hW.block _ (by omega)).trans v0, (hW.block _ (by omega)).trans v1, hbA.trans (hW.mono (by omega))⟩
  obtain ⟨q0, q1, q2, q3, q4, q5, q6, q7, q8⟩ := nine_facts v0
  obtain ⟨r0, r1, r2, r3, r4, r5, r6, r7, r8⟩ := nine_facts v1
  rw [hwA] at q0 q1 q2 q3 q4 q5 q6 q7 q8 r0 r1 r2 r3 r4 r5 r6 r7 r8
  have HW := Lib.hid hwA
  clear hwA hbA v0 v1
  go_enter Tryz.func78, Tryz.ntmps78
  go_wp2_with fail
  rw [← HW.out]
  clear q0 q1 q2 q3 q4 q5 q6 q7 q8 r0 r1 r2 r3 r4 r5 r6 r7 r8
  refine (HC.out wA).mono ?_
  rintro e' w7 ⟨rfl, hC⟩
  have HB := Lib.hid (HX.out w7 hC)
  obtain ⟨j0, j1, -⟩ := HX.out w7 hC
  obtain ⟨q0, q1, q2, q3, q4, q5, q6, q7, q8⟩ := nine_facts j0
  obtain ⟨r0, r1, r2, r3, r4, r5, r6, r7, r8⟩ := nine_facts j1
  clear hC j0 j1
  go_wp2
  go_ret
  exact ⟨rfl, HB.out.2.2⟩
end Go.Proofs.YtbhnjnoblkfckaaGreatDoor

