/- Walks: whether houses are ok, and where a name leads, by the program. -/
import Derived.Test.YtojmfcpkmknleaaDoorCfgI3
namespace Go.Proofs.YtojmfcpkmknleaaDoor
open Go.RowKit Go.Maps

set_option maxHeartbeats 1600000 in
theorem impl_cfgok (hs : List Hs) (v : Value) (w : World) (hH : HRow w v hs) (hN : HOks hs 1048576) (hcls : Cls w) :
    Calls Tryd.prog 12 #[.agg #[v]] w fun e w' => e = .returned (.bool (cfgB hs)) ∧ Below w.heap.size w w' := by
  obtain ⟨wA, hwA⟩ : ∃ wA, wA = w.alloc (.cells #[v] 25) := ⟨_, rfl⟩
  have hsA : wA.heap.size = w.heap.size + 1 := by rw [hwA]; simp
  have hbA : Below w.heap.size w wA := by rw [hwA]; exact (Below.refl _ _).alloc (Nat.le_refl _) _
  obtain ⟨t0, _⟩ := one_fact (w' := wA) (g := w.heap.size) (x0 := v) (T := 25) (by rw [hwA]; exact heap_alloc_new w _)
  have hC := routes_of hs v wA (hH.below (Nat.le_refl _) hbA) hN (hcls.below hbA (Nat.le_refl _))
  obtain ⟨a, c, rfl, _⟩ := hH
  have HBA := Lib.hid hbA
  rw [hwA] at t0
  have HwA := Lib.hid hwA
  clear hbA hwA hcls hN
  go_enter Tryd.func12, Tryd.ntmps12
  go_wp2_with fail
  rw [← HwA.out]
  refine hC.mono ?_
  rintro e w1 ⟨hb1, h⟩
  have HB := Lib.hid (HBA.out.trans (hb1.mono (by omega)))
  clear hC t0 hb1
  rcases h with ⟨hf, rfl⟩ | ⟨hf, b, D, n, rfl, _⟩
  · have HF := Lib.hid hf
    clear hf
    go_wp2
    go_ret
    rw [HF.out]; exact ⟨rfl, HB.out⟩
  · have HF := Lib.hid hf
    clear hf
    go_wp2
    go_ret
    rw [HF.out]; exact ⟨rfl, HB.out⟩

theorem look_nil (w : World) (key : Value) (kl : Lit) (hkey : keyOf Tryd.prog 9 key = some kl) : (Instr.lookup 53 (.map none) key true).run Tryd.prog w = .ok (.tuple #[.int .i64 0, .bool false]) w := by
  have hu : Tryd.prog.underlying 53 = some (.map 9 3) := by kernel_rfl
  have hf : (Instr.findKey 9 key []).run Tryd.prog w = .ok none w := by simp [Instr.findKey, Instr.findNow, run_underlying Tryd.underlying9, Result.andThen]
  have hz := zeroInt w
  simp [Instr.lookup, run_underlying hu, lawStr.check w _ hkey, hf, hz, Result.andThen]

set_option maxHeartbeats 1600000 in
theorem impl_route (hs : List Hs) (v : Value) (s : ByteArray) (w : World) (hH : HRow w v hs) (hN : HOks hs 1048576) (hs1 : s.size ≤ maxLen) (hcls : Cls w) :
    Calls Tryd.prog 10 #[.agg #[v], .string s] w fun e w' => e = .returned (.int .i64 (routeI hs s)) ∧ Below w.heap.size w w' := by
  have hkey := Go.WideMaps.keyOf_string_mk Tryd.underlying9 hs1
  have hu : Tryd.prog.underlying 53 = some (.map 9 3) := by kernel_rfl
  have he := Tryd.underlying3
  have hnil := fun w => look_nil w (.string s) _ hkey
  obtain ⟨wA, hwA⟩ : ∃ wA, wA = w.alloc (.cells #[v] 25) := ⟨_, rfl⟩
  have hsA : wA.heap.size = w.heap.size + 1 := by rw [hwA]; simp
  have hbA : Below w.heap.size w wA := by rw [hwA]; exact (Below.refl _ _).alloc (Nat.le_refl _) _
  obtain ⟨t0, _⟩ := one_fact (w' := wA) (g := w.heap.size) (x0 := v) (T := 25) (by rw [hwA]; exact heap_alloc_new w _)
  have hC := routes_of hs v wA (hH.below (Nat.le_refl _) hbA) hN (hcls.below hbA (Nat.le_refl _))
  obtain ⟨a, c, rfl, _⟩ := hH
  have HBA := Lib.hid hbA
  rw [hwA] at t0
  have HwA := Lib.hid hwA
  clear hbA hwA hcls hN
  go_enter Tryd.func10, Tryd.ntmps10
  go_wp2_with fail
  rw [← HwA.out]
  refine hC.mono ?_
  rintro e w1 ⟨hb1, h⟩
  have HB := Lib.hid (HBA.out.trans (hb1.mono (by omega)))
  clear hC t0 hb1
  rcases h with ⟨hf, rfl⟩ | ⟨hf, b, D, n, rfl, _, hown, hM⟩
  · have HF : Hid (routeI hs s = -1) := Lib.hid (if_neg (by rw [hf]; decide))
    clear hf
    go_wp2
    go_ret
    rw [HF.out]; exact ⟨rfl, HB.out⟩
  · have HF : Hid (routeI hs s = optI (findI hs s)) := Lib.hid (if_pos hf)
    obtain ⟨m1, m2⟩ := hM.2 s
    rw [look_all] at m1 m2
    clear hf hM
    cases hl : findI hs s with
    | none =>
      rw [hl] at m1 m2 HF
      have m1 : Maps.has D (.string s.data.toList) = false := m1
      have m2 : D.atKey (.string s.data.toList) (.lit (.int .i64 0)) = .lit (.int .i64 0) := m2
      clear hl
      go_wp2_with (first
        | (at_lookup; refine wpList_lookup_own_ok_int _ rfl _ _ 53 rfl 9 3 .i64 lawStr hu he (zeroInt _) b n _ rfl hown _ _ rfl hkey ?_; intro c hat hwc; rw [m1]))
      go_ret
      rw [HF.out]; exact ⟨rfl, HB.out⟩
    | some k =>
      rw [hl] at m1 m2 HF
      have m1 : Maps.has D (.string s.data.toList) = true := m1
      have m2 : D.atKey (.string s.data.toList) (.lit (.int .i64 0)) = .lit (.int .i64 (k : Int)) := m2
      clear hl
      go_wp2_with (first
        | (at_lookup; refine wpList_lookup_own_ok_int _ rfl _ _ 53 rfl 9 3 .i64 lawStr hu he (zeroInt _) b n _ rfl hown _ _ rfl hkey ?_; intro c hat hwc; rw [m1]; obtain rfl : c = (k : Int) := by rw [m2] at hat; simpa using hat.symm))
      go_ret
      rw [HF.out]; exact ⟨rfl, HB.out⟩
end Go.Proofs.YtojmfcpkmknleaaDoor
