/- Walks: whether an entry is ok, by the program and by the specification. -/
import Derived.Test.YtbhnjnoblkfckaaGreatDoorGSn
import Derived.Test.YtbhnjnoblkfckaaGreatDoorGZ09
import Derived.Test.YtbhnjnoblkfckaaGreatDoorGZ11
namespace Go.Proofs.YtbhnjnoblkfckaaGreatDoor
open Go.RowKit

theorem nine_new (w : World) (e : En) (T : TypeId) : (w.alloc (.cells #[.string e.place, .int .i64 e.mask, .int .i64 e.rsp.code, .int .i64 e.rsp.mx, .bool e.rsp.hide, .string e.rsp.tag, .int .i64 e.rsp.cod, .string e.rsp.body, .int .i64 e.tm] T)).heap[w.heap.size]? = some (.cells #[.string e.place, .int .i64 e.mask, .int .i64 e.rsp.code, .int .i64 e.rsp.mx, .bool e.rsp.hide, .string e.rsp.tag, .int .i64 e.rsp.cod, .string e.rsp.body, .int .i64 e.tm] T (0, 0)) := heap_alloc_new w _
set_option maxRecDepth 100000 in
set_option maxHeartbeats 3200000 in
theorem impl_entryok (e : En) (w : World) (he : EnOk 1048576 e) (hcls : Cls w) :
    Calls Tryz.prog 44 #[enV e] w fun e' w' => e' = .returned (.bool (entryB e)) ∧ Below w.heap.size w w' := by
  obtain ⟨wA, hwA⟩ : ∃ wA, wA = w.alloc (.cells #[.string e.place, .int .i64 e.mask, .int .i64 e.rsp.code, .int .i64 e.rsp.mx, .bool e.rsp.hide, .string e.rsp.tag, .int .i64 e.rsp.cod, .string e.rsp.body, .int .i64 e.tm] 48) := ⟨_, rfl⟩
  have hsA : wA.heap.size = w.heap.size + 1 := by rw [hwA]; simp
  have hbA : Below w.heap.size w wA := by rw [hwA]; exact (Below.refl _ _).alloc (Nat.le_refl _) _
  have hH : wA.heap[w.heap.size]? = some (.cells #[.string e.place, .int .i64 e.mask, .int .i64 e.rsp.code, .int .i64 e.rsp.mx, .bool e.rsp.hide, .string e.rsp.tag, .int .i64 e.rsp.cod, .string e.rsp.body, .int .i64 e.tm] 48 (0, 0)) := by rw [hwA]; exact nine_new w e _
  have HX : Hid (∀ W, Below wA.heap.size wA W → Cls W ∧ Below w.heap.size w W ∧ W.heap[w.heap.size]? = some (.cells #[.string e.place, .int .i64 e.mask, .int .i64 e.rsp.code, .int .i64 e.rsp.mx, .bool e.rsp.hide, .string e.rsp.tag, .int .i64 e.rsp.cod, .string e.rsp.body, .int .i64 e.tm] 48 (0, 0))) := Lib.hid fun W hW => by
    have hb := hbA.trans (hW.mono (by omega))
    exact ⟨hcls.below hb (Nat.le_refl _), hb, (hW.block _ (by omega)).trans hH⟩
  have hT := fun W (hW : Cls W) => impl_target e.place W he.place hW
  have hK := fun W (hW : Cls W) => impl_keep e.rsp e.mask W (Nat.le_trans he.tag (by decide)) (Nat.le_trans he.body (by decide)) hW
  have hN := fun W => num_ok e.tm W
  obtain ⟨p, m, ⟨c, x, hd, t, k, b⟩, a⟩ := e
  unfold entryB enV rspV at *
  dsimp only at *
  generalize decide (canonL p.data.toList = some p.data.toList) = B1 at *
  generalize keepB ⟨c, x, hd, t, k, b⟩ m = B2 at *
  generalize decide (0 ≤ a ∧ a ≤ 999999) = B3 at *
  have hb0 : Below wA.heap.size wA wA := Below.refl _ _
  obtain ⟨q0, q1, q2, q3, q4, q5, q6, q7, q8⟩ := nine_facts hH
  rw [hwA] at q0 q1 q2 q3 q4 q5 q6 q7 q8
  have HW := Lib.hid hwA
  have HT := Lib.hid hT; have HK := Lib.hid hK
  clear hwA hH hbA hcls he hT hK
  go_enter Tryz.func44, Tryz.ntmps44
  go_wp2_with fail
  rw [← HW.out]
  refine (HT.out _ (HX.out _ hb0).1).mono ?_
  rintro e w1 ⟨rfl, hb1⟩
  clear hb0 q0 q1 q2 q3 q4 q5 q6 q7 q8
  obtain ⟨q0, q1, q2, q3, q4, q5, q6, q7, q8⟩ := nine_facts (HX.out _ hb1).2.2
  cases B1
  · have HB := Lib.hid (HX.out _ hb1).2.1
    clear hb1
    go_wp2
    go_ret
    exact ⟨rfl, HB.out⟩
  go_wp2_with fail
  refine (HK.out _ (HX.out _ hb1).1).mono ?_
  rintro e w2 ⟨rfl, hb2⟩
  have hb02 := hb1.trans (hb2.mono hb1.size)
  clear hb1 hb2 q0 q1 q2 q3 q4 q5 q6 q7 q8
  obtain ⟨q0, q1, q2, q3, q4, q5, q6, q7, q8⟩ := nine_facts (HX.out _ hb02).2.2
  have HB := Lib.hid (HX.out _ hb02).2.1
  clear hb02
  cases B2
  · go_wp2
    go_ret
    exact ⟨rfl, HB.out⟩
  go_wp2_with fail
  refine (hN _).mono ?_
  rintro e w3 ⟨rfl, rfl⟩
  clear hN
  cases B3
  all_goals
    go_wp2
    go_ret
    exact ⟨rfl, HB.out⟩

set_option maxRecDepth 100000 in
set_option maxHeartbeats 3200000 in
theorem spec_entryok (e : En) (w : World) (he : EnOk 1048576 e) :
    Calls Tryz.prog 39 #[enV e] w fun e' w' => e' = .returned (.bool (entryB e)) ∧ Below w.heap.size w w' := by
  obtain ⟨wA, hwA⟩ : ∃ wA, wA = w.alloc (.cells #[.string e.place, .int .i64 e.mask, .int .i64 e.rsp.code, .int .i64 e.rsp.mx, .bool e.rsp.hide, .string e.rsp.tag, .int .i64 e.rsp.cod, .string e.rsp.body, .int .i64 e.tm] 48) := ⟨_, rfl⟩
  have hsA : wA.heap.size = w.heap.size + 1 := by rw [hwA]; simp
  have hbA : Below w.heap.size w wA := by rw [hwA]; exact (Below.refl _ _).alloc (Nat.le_refl _) _
  have hH : wA.heap[w.heap.size]? = some (.cells #[.string e.place, .int .i64 e.mask, .int .i64 e.rsp.code, .int .i64 e.rsp.mx, .bool e.rsp.hide, .string e.rsp.tag, .int .i64 e.rsp.cod, .string e.rsp.body, .int .i64 e.tm] 48 (0, 0)) := by rw [hwA]; exact nine_new w e _
  have HX : Hid (∀ W, Below wA.heap.size wA W → Below w.heap.size w W ∧ W.heap[w.heap.size]? = some (.cells #[.string e.place, .int .i64 e.mask, .int .i64 e.rsp.code, .int .i64 e.rsp.mx, .bool e.rsp.hide, .string e.rsp.tag, .int .i64 e.rsp.cod, .string e.rsp.body, .int .i64 e.tm] 48 (0, 0))) := Lib.hid fun W hW => by
    have hb := hbA.trans (hW.mono (by omega))
    exact ⟨hb, (hW.block _ (by omega)).trans hH⟩
  have hU := fun W => spec_canon e.place W he.place
  have hK := fun W => spec_keep e.rsp e.mask W (Nat.le_trans he.tag (by decide)) (Nat.le_trans he.body (by decide))
  have hN := fun W => l1_in e.tm 0 999999 W
  obtain ⟨T, okT, hT, hTT⟩ := can_parts e.place
  rw [hT] at hU
  obtain ⟨p, m, ⟨c, x, hd, t, k, b⟩, a⟩ := e
  have hdef : entryB ⟨p, m, ⟨c, x, hd, t, k, b⟩, a⟩ = ((okT && decide (T = p)) && (keepB ⟨c, x, hd, t, k, b⟩ m && (decide (0 ≤ a) && decide (a ≤ 999999)))) := by
    unfold entryB
    dsimp only at hTT ⊢
    have h1 : decide (canonL p.data.toList = some p.data.toList) = (okT && decide (T = p)) := by rw [Bool.eq_iff_iff]; simpa using hTT.symm
    rw [h1, Bool.decide_and]
  rw [hdef]
  unfold enV rspV at *
  dsimp only at *
  generalize keepB ⟨c, x, hd, t, k, b⟩ m = B2 at *
  generalize (decide (0 ≤ a) && decide (a ≤ 999999)) = B3 at *
  obtain ⟨q0, q1, q2, q3, q4, q5, q6, q7, q8⟩ := nine_facts hH
  rw [hwA] at q0 q1 q2 q3 q4 q5 q6 q7 q8
  have HW := Lib.hid hwA
  have HK := Lib.hid hK
  clear hwA hH hbA he hK hT hTT hdef
  go_enter Tryz.func39, Tryz.ntmps39
  go_wp2_with fail
  rw [← HW.out]
  refine (hU _).mono ?_
  rintro e w1 ⟨rfl, hb1⟩
  clear hU q0 q1 q2 q3 q4 q5 q6 q7 q8
  obtain ⟨q0, q1, q2, q3, q4, q5, q6, q7, q8⟩ := nine_facts (HX.out _ hb1).2
  cases okT
  · have HB := Lib.hid (HX.out _ hb1).1
    clear hb1
    go_wp2
    go_ret
    exact ⟨rfl, HB.out⟩
  by_cases e1 : T = p
  · have se := str_same p
    subst e1
    go_wp2_with fail
    refine (HK.out _).mono ?_
    rintro e w2 ⟨rfl, hb2⟩
    have hb02 := hb1.trans (hb2.mono hb1.size)
    clear hb1 hb2 q0 q1 q2 q3 q4 q5 q6 q7 q8
    obtain ⟨q0, q1, q2, q3, q4, q5, q6, q7, q8⟩ := nine_facts (HX.out _ hb02).2
    have HB := Lib.hid (HX.out _ hb02).1
    clear hb02
    cases B2
    · go_wp2
      go_ret
      exact ⟨by simp, HB.out⟩
    go_wp2_with fail
    refine (hN _).mono ?_
    rintro e w3 ⟨rfl, rfl⟩
    clear hN
    cases B3
    all_goals
      go_wp2
      go_ret
      exact ⟨by simp, HB.out⟩
  · have se := str_ne e1
    have HB := Lib.hid (HX.out _ hb1).1
    have E := Lib.hid e1
    clear e1 hb1
    go_wp2
    go_ret
    exact ⟨by simp [E.out], HB.out⟩
end Go.Proofs.YtbhnjnoblkfckaaGreatDoor
