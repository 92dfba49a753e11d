/- Walks: a house, by the program; a name put where it leads. -/
import Derived.Test.YtojmfcpkmknleaaDoorCfgS5
namespace Go.Proofs.YtojmfcpkmknleaaDoor
open Go.RowKit Go.Maps

set_option maxHeartbeats 400000 in
theorem count_ok (n hi : Int) (w : World) :
    Calls Tryd.prog 45 #[.int .i64 n, .int .i64 hi] w fun e w' => e = .returned (.bool (inI n 1 hi)) ∧ w = w' := by
  unfold inI
  by_cases h1 : 1 ≤ n
  · by_cases h2 : n ≤ hi
    all_goals
      go_enter Tryd.func45, Tryd.ntmps45
      go_wp2
      go_ret
      exact ⟨by simp [h1, h2], rfl⟩
  · go_enter Tryd.func45, Tryd.ntmps45
    go_wp2
    go_ret
    exact ⟨by simp; omega, rfl⟩

set_option maxRecDepth 100000 in
set_option maxHeartbeats 3200000 in
theorem house_ok (h : Hs) (u : Value) (w : World) (hS : SRow w u h.names) (hN : NOk h.names 1048576) (hcls : Cls w) :
    Calls Tryd.prog 46 #[.agg #[u, .int .i64 h.key, .int .i64 h.maxN, .int .i64 h.maxB]] w fun e w' => e = .returned (.bool (houseB h)) ∧ Below w.heap.size w w' := by
  have hsp := house_split h
  generalize houseB h = R at *
  obtain ⟨wA, hwA⟩ : ∃ wA, wA = w.alloc (.cells #[u, .int .i64 h.key, .int .i64 h.maxN, .int .i64 h.maxB] 33) := ⟨_, rfl⟩
  have hsA : wA.heap.size = w.heap.size + 1 := by rw [hwA]; simp
  have hbA : Below w.heap.size w wA := by rw [hwA]; exact (Below.refl _ _).alloc (Nat.le_refl _) _
  have hcell : ∀ W, Below (w.heap.size + 1) wA W → W.heap[w.heap.size]? = some (.cells #[u, .int .i64 h.key, .int .i64 h.maxN, .int .i64 h.maxB] 33 (0, 0)) := fun W hW =>
    (hW.block w.heap.size (by omega)).trans (by rw [hwA]; exact heap_alloc_new w _)
  have HCell := Lib.hid hcell
  obtain ⟨a, c, rfl, hl1, hl2, h3⟩ := hS
  have h4 : ∀ W, Below (w.heap.size + 1) wA W → Below w.heap.size w W ∧ Cls W ∧ ∀ j s, h.names[j]? = some s → ∃ b o, a = some ⟨b, o, none⟩ ∧ W.cell? ⟨b, o + j, none⟩ = some (.string s) := fun W hW => by
    have hb := hbA.trans (hW.mono (Nat.le_succ _))
    refine ⟨hb, hcls.below hb (Nat.le_refl _), fun j s hj => ?_⟩
    obtain ⟨b, o, e, hlt, c1⟩ := h3 j s hj
    exact ⟨b, o, e, (hb.cell (p := ⟨b, o + j, none⟩) hlt).trans c1⟩
  have HW := Lib.hid h4
  have HN := Lib.hid hN
  have HwA := Lib.hid hwA
  have HS := Lib.hid hsp
  unfold maxLen at hl2
  have hb0 : Below (w.heap.size + 1) wA wA := Below.refl _ _
  obtain ⟨t0, t1, t2, t3, _⟩ := four_facts (hcell _ hb0)
  rw [hwA] at t0 t1 t2 t3
  have HB0 := Lib.hid (h4 _ hb0).1
  have HI := Lib.hid hb0
  clear hcell hwA hbA hsp h3 h4 hN hb0 hcls
  go_enter Tryd.func46, Tryd.ntmps46
  have q := fun (x hi : Int) W => count_ok x hi W
  rcases Bool.eq_false_or_eq_true (inI h.names.length 1 3) with j1 | j1
  · go_wp2_with (go_at_call 45; refine (q _ _ _).mono ?_; rintro e w' ⟨rfl, rfl⟩)
    have HJ1 := Lib.hid j1
    clear j1 t0 t1 t2 t3
    rw [← HwA.out]
    go_loopw [4, 13] (fun _ i wr => ∃ k : Nat, k ≤ h.names.length ∧ i = .int .i64 k ∧ namesB (h.names.take k) = true ∧ Below (w.heap.size + 1) wA wr) (fun _ i _ => h.names.length - (intOf i).toNat)
    case atStart => exact ⟨0, Nat.zero_le _, rfl, rfl, HI.out⟩
    case round =>
      obtain ⟨k, hk, rfl, hall, hbr⟩ := hrel
      obtain ⟨t0, t1, t2, t3, _⟩ := four_facts (HCell.out wr hbr)
      by_cases hlt : k < h.names.length
      · obtain ⟨x, hg⟩ : ∃ x, h.names[k]? = some x := ⟨_, List.getElem?_eq_getElem hlt⟩
        obtain ⟨b, o, ea, c1⟩ := (HW.out wr hbr).2.2 k x hg
        subst ea
        have hC := impl_hok x wr (HN.out x (List.mem_of_getElem? hg)) (HW.out wr hbr).2.1
        have HG := Lib.hid hg
        have HA := Lib.hid hall
        have HBr := Lib.hid hbr
        clear hg hall hbr
        obtain ⟨B, hB⟩ : ∃ B, B = hostB x.data.toList := ⟨_, rfl⟩
        rw [← hB] at hC
        have HBB := Lib.hid hB
        clear hB
        cases B
        · have HR := Lib.hid (namesB_false HG.out HBB.out.symm)
          go_wp2_with fail
          refine hC.mono ?_
          rintro e w2 ⟨rfl, hb2⟩
          have HB2 := Lib.hid ((HW.out wr HBr.out).1.trans (hb2.mono (HW.out wr HBr.out).1.size))
          clear hC hb2 t0 t1 t2 t3 c1
          go_wp2
          go_ret
          rw [HS.out, HR.out]; exact ⟨by simp, HB2.out⟩
        · have HR := Lib.hid (namesB_take HG.out HA.out HBB.out.symm)
          go_wp2_with fail
          refine hC.mono ?_
          rintro e w2 ⟨rfl, hb2⟩
          have HB2 := Lib.hid (HBr.out.trans (hb2.mono (by have := HBr.out.size; omega)))
          clear hC hb2 t0 t1 t2 t3 c1
          go_wp2
          go_roundw
          case rel => exact ⟨k + 1, by omega, by go_num, HR.out, HB2.out⟩
          case measure => simp [intOf]; omega
      · have hkl : k = h.names.length := by omega
        rw [hkl, List.take_length] at hall
        have HA := Lib.hid hall
        have HB2 := Lib.hid (HW.out wr hbr).1
        clear hall hbr
        rcases Bool.eq_false_or_eq_true (inI h.key 1 9999) with j2 | j2
        · rcases Bool.eq_false_or_eq_true (inI h.maxN 1 6) with j3 | j3
          · rcases Bool.eq_false_or_eq_true (inI h.maxB 1 120) with j4 | j4
            all_goals
              have HF := Lib.hid HS.out
              rw [HJ1.out, j2, j3, j4, HA.out] at HF
              go_wp2_with (go_at_call 45; refine (q _ _ _).mono ?_; rintro e w' ⟨rfl, rfl⟩)
              go_ret
              rw [HF.out]; exact ⟨rfl, HB2.out⟩
          · have HF := Lib.hid HS.out
            rw [HJ1.out, j2, j3, HA.out] at HF
            go_wp2_with (go_at_call 45; refine (q _ _ _).mono ?_; rintro e w' ⟨rfl, rfl⟩)
            go_ret
            rw [HF.out]; exact ⟨rfl, HB2.out⟩
        · have HF := Lib.hid HS.out
          rw [HJ1.out, j2, HA.out] at HF
          go_wp2_with (go_at_call 45; refine (q _ _ _).mono ?_; rintro e w' ⟨rfl, rfl⟩)
          go_ret
          rw [HF.out]; exact ⟨rfl, HB2.out⟩
  · have HF : Hid (R = false) := Lib.hid (by rw [HS.out, j1]; rfl)
    clear HS
    go_wp2_with (go_at_call 45; refine (q _ _ _).mono ?_; rintro e w' ⟨rfl, rfl⟩)
    go_ret
    rw [HF.out, ← HwA.out]; exact ⟨rfl, HB0.out⟩

theorem lawStr : Keyed Tryd.prog 9 := string_keyed Tryd.underlying9
theorem zeroInt (w : World) : (zeroValue 3).run Tryd.prog w = .ok (.int .i64 0) w := by kernel_rfl

set_option maxHeartbeats 1600000 in
/-- A name put where it leads: false, if it stands there already. -/
theorem add_name (s : ByteArray) (i : Int) (b n : Nat) (D : DataW Unit) (L : List (ByteArray × Int)) (w : World) (hs : s.size ≤ maxLen) (hi : (Lit.int .i64 i).wf = true) (hn : n + 1 ≤ maxLen)
    (hown : w.ownsMap Tryd.prog 9 (plainElem Tryd.prog 3) b n D) (hM : MapIs D L) :
    Calls Tryd.prog 47 #[.map (some b), .string s, .int .i64 i] w fun e w' =>
      (lookL L s ≠ none ∧ e = .returned (.bool false) ∧ w' = w) ∨
      (lookL L s = none ∧ e = .returned (.bool true) ∧ w'.ownsMap Tryd.prog 9 (plainElem Tryd.prog 3) b (n + 1) (D.put (.string s.data.toList) (.lit (.int .i64 i))) ∧ w.grownBy w' (some b)) := by
  have hkey := Go.WideMaps.keyOf_string_mk Tryd.underlying9 hs
  obtain ⟨m1, m2⟩ := hM.2 s
  have hu : Tryd.prog.underlying 53 = some (.map 9 3) := by kernel_rfl
  have he := Tryd.underlying3
  go_enter Tryd.func47, Tryd.ntmps47
  cases hl : lookL L s with
  | some x =>
    rw [hl] at m1 m2
    have HL := Lib.hid hl
    clear hl
    go_wp2_with (first
      | (at_lookup; refine wpList_lookup_own_ok_int _ rfl _ _ 53 rfl 9 3 .i64 lawStr hu he (zeroInt _) b n _ rfl hown _ _ rfl hkey ?_; intro c hat hwc; rw [m1]))
    go_ret
    exact .inl ⟨by simp, rfl, rfl⟩
  | none =>
    rw [hl] at m1 m2
    have HL := Lib.hid hl
    clear hl
    go_wp2_with (first
      | (at_lookup; refine wpList_lookup_own_ok_int _ rfl _ _ 53 rfl 9 3 .i64 lawStr hu he (zeroInt _) b n _ rfl hown _ _ rfl hkey ?_; intro c hat hwc; rw [m1])
      | (at_mapUpdate; refine wpList_mapUpdate_own _ rfl _ _ _ 53 rfl 9 3 lawStr hu _ b n _ rfl hown hn _ _ _ rfl rfl hkey _ [] (plainElem_int he hi) ?_; intro w1 hown1 hgrow1))
    go_ret
    first | exact .inr ⟨rfl, rfl, hown1, hgrow1⟩ | exact ⟨rfl, hown1, hgrow1⟩
end Go.Proofs.YtojmfcpkmknleaaDoor
