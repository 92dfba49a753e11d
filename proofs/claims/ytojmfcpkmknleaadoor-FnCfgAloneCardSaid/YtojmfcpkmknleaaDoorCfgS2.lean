/- Walks: a house, by the specification. -/
import Derived.Test.YtojmfcpkmknleaaDoorCfgS
namespace Go.Proofs.YtojmfcpkmknleaaDoor
open Go.RowKit

theorem four_facts {w' : World} {g : Nat} {x0 x1 x2 x3 : Value} {T : TypeId} (h : w'.heap[g]? = some (.cells #[x0, x1, x2, x3] T (0, 0))) :
    w'.cell? ⟨g, 0, none⟩ = some x0 ∧ w'.cell? ⟨g, 1, none⟩ = some x1 ∧ w'.cell? ⟨g, 2, none⟩ = some x2 ∧ w'.cell? ⟨g, 3, none⟩ = some x3 ∧
    w'.frozen? ⟨g, 0, none⟩ = false ∧ w'.frozen? ⟨g, 1, none⟩ = false ∧ w'.frozen? ⟨g, 2, none⟩ = false ∧ w'.frozen? ⟨g, 3, none⟩ = false := by
  refine ⟨?_, ?_, ?_, ?_, ?_, ?_, ?_, ?_⟩ <;> simp [World.cell?, World.frozen?, h]
theorem one_fact {w' : World} {g : Nat} {x0 : Value} {T : TypeId} (h : w'.heap[g]? = some (.cells #[x0] T (0, 0))) :
    w'.cell? ⟨g, 0, none⟩ = some x0 ∧ w'.frozen? ⟨g, 0, none⟩ = false := by
  refine ⟨?_, ?_⟩ <;> simp [World.cell?, World.frozen?, h]
theorem host_at (s : ByteArray) : ∃ (T : ByteArray) (ok : Bool), hostR s.data.toList = (T, ok) ∧ ((ok = true ∧ T = s) ↔ hostB s.data.toList = true) := host_ps s
theorem house_split (h : Hs) : houseB h = (inI h.names.length 1 3 && (inI h.key 1 9999 && (inI h.maxN 1 6 && (inI h.maxB 1 120 && namesB h.names)))) := rfl
theorem namesB_false {L : List ByteArray} {k : Nat} {x : ByteArray} (hk : L[k]? = some x) (h : hostB x.data.toList = false) : namesB L = false := by
  rw [Bool.eq_false_iff]; intro e
  unfold namesB at e
  rw [List.all_eq_true] at e
  rw [e x (List.mem_of_getElem? hk)] at h; cases h
theorem namesB_take {L : List ByteArray} {k : Nat} {x : ByteArray} (hk : L[k]? = some x) (h : namesB (L.take k) = true) (hx : hostB x.data.toList = true) : namesB (L.take (k + 1)) = true := by
  rw [List.take_add_one, hk]
  unfold namesB at *
  rw [List.all_append, h]
  simp [hx]

set_option maxRecDepth 100000 in
set_option maxHeartbeats 3200000 in
theorem l5_house (h : Hs) (u : Value) (w : World) (hS : SRow w u h.names) (hN : NOk h.names 1048576) :
    Calls Tryd.prog 30 #[.agg #[u, .int .i64 h.key, .int .i64 h.maxN, .int .i64 h.maxB]] w fun e w' => e = .returned (.bool (houseB h)) ∧ Below w.heap.size w w' := by
  have hsp := house_split h
  generalize houseB h = R at *
  obtain ⟨wA, hwA⟩ : ∃ wA, wA = w.alloc (.cells #[u, .int .i64 h.key, .int .i64 h.maxN, .int .i64 h.maxB] 33) := ⟨_, rfl⟩
  have hsA : wA.heap.size = w.heap.size + 1 := by rw [hwA]; simp
  have hbA : Below w.heap.size w wA := by rw [hwA]; exact (Below.refl _ _).alloc (Nat.le_refl _) _
  have hcell : ∀ W, Below (w.heap.size + 1) wA W → W.heap[w.heap.size]? = some (.cells #[u, .int .i64 h.key, .int .i64 h.maxN, .int .i64 h.maxB] 33 (0, 0)) := fun W hW =>
    (hW.block w.heap.size (by omega)).trans (by rw [hwA]; exact heap_alloc_new w _)
  have HCell := Lib.hid hcell
  obtain ⟨a, c, rfl, hl1, hl2, h3⟩ := hS
  have h4 : ∀ W, Below (w.heap.size + 1) wA W → Below w.heap.size w W ∧ ∀ j s, h.names[j]? = some s → ∃ b o, a = some ⟨b, o, none⟩ ∧ W.cell? ⟨b, o + j, none⟩ = some (.string s) := fun W hW => by
    have hb := hbA.trans (hW.mono (Nat.le_succ _))
    refine ⟨hb, fun j s hj => ?_⟩
    obtain ⟨b, o, e, hlt, c1⟩ := h3 j s hj
    exact ⟨b, o, e, (hb.cell (p := ⟨b, o + j, none⟩) hlt).trans c1⟩
  have HW := Lib.hid h4
  have HN := Lib.hid hN
  have HwA := Lib.hid hwA
  have HS := Lib.hid hsp
  unfold maxLen at hl2
  have hb0 : Below (w.heap.size + 1) wA wA := Below.refl _ _
  obtain ⟨t0, t1, t2, t3, _⟩ := four_facts (hcell _ hb0)
  rw [hwA] at t0 t1 t2 t3
  have HB0 := Lib.hid (h4 _ hb0).1
  have hI0 := hb0
  clear hcell hwA hbA hsp h3 h4 hN hb0
  go_enter Tryd.func30, Tryd.ntmps30
  have q := fun (x lo hi : Int) W => l1_inI x lo hi W
  rcases Bool.eq_false_or_eq_true (inI h.names.length 1 3) with j1 | j1
  · rcases Bool.eq_false_or_eq_true (inI h.key 1 9999) with j2 | j2
    · rcases Bool.eq_false_or_eq_true (inI h.maxN 1 6) with j3 | j3
      · rcases Bool.eq_false_or_eq_true (inI h.maxB 1 120) with j4 | j4
        · have HF : Hid (R = namesB h.names) := Lib.hid (by rw [HS.out, j1, j2, j3, j4]; rfl)
          clear HS
          go_wp2_with (go_at_call 29; refine (q _ _ _ _).mono ?_; rintro e w' ⟨rfl, rfl⟩)
          clear j1 j2 j3 j4 t0 t1 t2 t3
          rw [← HwA.out]
          have HI := Lib.hid hI0
          clear hI0
          go_loopw [3, 4, 5] (fun i _ _ wr => ∃ k : Nat, k ≤ h.names.length ∧ i = .int .i64 k ∧ namesB (h.names.take k) = true ∧ Below (w.heap.size + 1) wA wr) (fun i _ _ _ => h.names.length - (intOf i).toNat)
          case atStart => exact ⟨0, Nat.zero_le _, rfl, rfl, HI.out⟩
          case round =>
            obtain ⟨k, hk, rfl, hall, hbr⟩ := hrel
            obtain ⟨t0, t1, t2, t3, _⟩ := four_facts (HCell.out wr hbr)
            by_cases hlt : k < h.names.length
            · obtain ⟨x, hg⟩ : ∃ x, h.names[k]? = some x := ⟨_, List.getElem?_eq_getElem hlt⟩
              obtain ⟨b, o, ea, c1⟩ := (HW.out wr hbr).2 k x hg
              subst ea
              have hC := spec_host x wr (HN.out x (List.mem_of_getElem? hg))
              obtain ⟨T, ok, hR, hiff⟩ := host_at x
              rw [hR] at hC
              have HG := Lib.hid hg
              have HA := Lib.hid hall
              have HIff := Lib.hid hiff
              have HBr := Lib.hid hbr
              clear hR hg hall hiff hbr
              go_wp2_with fail
              refine hC.mono ?_
              rintro e w2 ⟨rfl, hb2⟩
              have hb02 := HBr.out.trans (hb2.mono (by have := HBr.out.size; omega))
              clear hC hb2 t0 t1 t2 t3 c1
              obtain ⟨t0, t1, t2, t3, _⟩ := four_facts (HCell.out w2 hb02)
              obtain ⟨b2, o2, ea, c1⟩ := (HW.out w2 hb02).2 k x HG.out
              obtain ⟨rfl, rfl⟩ : b = b2 ∧ o = o2 := by simpa using ea
              have HB2 := Lib.hid (HW.out w2 hb02).1
              have HB02 := Lib.hid hb02
              clear hb02 ea
              cases ok
              · have hf : hostB x.data.toList = false := by
                  rw [Bool.eq_false_iff]; intro e; have := HIff.out.2 e; simp at this
                have HR := Lib.hid (HF.out.trans (namesB_false HG.out hf))
                clear hf
                go_wp2
                go_ret
                rw [HR.out]; exact ⟨rfl, HB2.out⟩
              · by_cases e : T = x
                · subst e
                  have se := strh_same T
                  have ht : hostB T.data.toList = true := HIff.out.1 ⟨rfl, rfl⟩
                  have HN2 := Lib.hid (namesB_take HG.out HA.out ht)
                  clear ht
                  go_wp2
                  go_roundw
                  case rel => exact ⟨k + 1, by omega, by go_num, HN2.out, HB02.out⟩
                  case measure => simp [intOf]; omega
                · have se := strh_ne e
                  have hf : hostB x.data.toList = false := by
                    rw [Bool.eq_false_iff]; intro e2; exact e (HIff.out.2 e2).2
                  have HR := Lib.hid (HF.out.trans (namesB_false HG.out hf))
                  clear hf e
                  go_wp2
                  go_ret
                  rw [HR.out]; exact ⟨rfl, HB2.out⟩
            · have hkl : k = h.names.length := by omega
              rw [hkl, List.take_length] at hall
              have HR := Lib.hid (HF.out.trans hall)
              have HB2 := Lib.hid (HW.out wr hbr).1
              clear hall hbr
              go_wp2
              go_ret
              rw [HR.out]; exact ⟨rfl, HB2.out⟩
        · have HF : Hid (R = false) := Lib.hid (by rw [HS.out, j1, j2, j3, j4]; rfl)
          clear HS
          go_wp2_with (go_at_call 29; refine (q _ _ _ _).mono ?_; rintro e w' ⟨rfl, rfl⟩)
          go_ret
          rw [HF.out, ← HwA.out]; exact ⟨rfl, HB0.out⟩
      · have HF : Hid (R = false) := Lib.hid (by rw [HS.out, j1, j2, j3]; rfl)
        clear HS
        go_wp2_with (go_at_call 29; refine (q _ _ _ _).mono ?_; rintro e w' ⟨rfl, rfl⟩)
        go_ret
        rw [HF.out, ← HwA.out]; exact ⟨rfl, HB0.out⟩
    · have HF : Hid (R = false) := Lib.hid (by rw [HS.out, j1, j2]; rfl)
      clear HS
      go_wp2_with (go_at_call 29; refine (q _ _ _ _).mono ?_; rintro e w' ⟨rfl, rfl⟩)
      go_ret
      rw [HF.out, ← HwA.out]; exact ⟨rfl, HB0.out⟩
  · have HF : Hid (R = false) := Lib.hid (by rw [HS.out, j1]; rfl)
    clear HS
    go_wp2_with (go_at_call 29; refine (q _ _ _ _).mono ?_; rintro e w' ⟨rfl, rfl⟩)
    go_ret
    rw [HF.out, ← HwA.out]; exact ⟨rfl, HB0.out⟩
end Go.Proofs.YtojmfcpkmknleaaDoor
