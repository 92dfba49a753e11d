/- Walks: the set of what would be taken, by the specification. -/
import Derived.Test.YtlfcamapjeldjaaGreatDoorWant
namespace Go.Proofs.YtlfcamapjeldjaaGreatDoor
open Go.RowKit Go.Maps

set_option maxHeartbeats 3200000 in
theorem spec_qual1000 (v : Value) (ws : List Wt) (c : Int) (w : World) (hF : WRow w v ws) (hce : (c == 0) = true) :
    Calls Tryz.prog 36 #[v, .int .i64 c] w fun e w' => e = .returned (.int .i64 (lastQ ws c (lastQ ws (-1) 1000))) ∧ ∃ n, w' = w.drewN n := by
  obtain ⟨a, cap, rfl, h1, h2, h3⟩ := hF
  unfold maxLen at h2
  have H3 := Lib.hid h3; clear h3
  go_enter Tryz.func36, Tryz.ntmps36
  go_wp2
  go_loopw [5, 6] (fun q i wr => ∃ k : Nat, k ≤ ws.length ∧ i = .int .i64 k ∧ q = .int .i64 (lastQ (ws.take k) (-1) 1000) ∧ ∃ n, wr = w.drewN n) (fun _ i _ => ws.length - (intOf i).toNat)
  case atStart => exact ⟨0, Nat.zero_le _, rfl, rfl, 0, rfl⟩
  case round =>
    obtain ⟨k, hk, rfl, rfl, n, rfl⟩ := hrel
    by_cases hlt : k < ws.length
    · obtain ⟨b1, o1, rfl, hb1, c1, c2⟩ := H3.out k ws[k] (List.getElem?_eq_getElem hlt)
      obtain ⟨f, hf⟩ : ∃ f, f = ws[k] := ⟨_, rfl⟩
      rw [← hf] at c1 c2
      have hfk : ws[k]? = some f := by rw [hf]; exact List.getElem?_eq_getElem hlt
      clear hf
      have hst := lastQ_take hfk (-1) 1000
      obtain ⟨x, y⟩ := f
      simp only at c1 c2 hst
      clear hfk
      by_cases he : x = (-1)
      · rw [if_pos he] at hst
        have HS := Lib.hid hst
        have hxe : (x == (-1)) = true := beq_iff_eq.2 he
        clear hst he
        go_wp2
        go_roundw
        case rel => exact ⟨k + 1, by omega, by go_num, by rw [HS.out], _, rfl⟩
        case measure => simp [intOf]; omega
      · rw [if_neg he] at hst
        have HS := Lib.hid hst
        have hxe : (x == (-1)) = false := beq_eq_false_iff_ne.2 he
        clear hst he
        go_wp2
        go_roundw
        case rel => exact ⟨k + 1, by omega, by go_num, by rw [HS.out], _, rfl⟩
        case measure => simp [intOf]; omega
    · have hkn : k = ws.length := by omega
      subst hkn
      rw [List.take_length]
      generalize ho : lastQ ws (-1) 1000 = o
      have HO := Lib.hid ho
      clear ho
      go_wp2
      go_loopw [5, 7] (fun q i wr => ∃ k : Nat, k ≤ ws.length ∧ i = .int .i64 k ∧ q = .int .i64 (lastQ (ws.take k) c o) ∧ ∃ n, wr = w.drewN n) (fun _ i _ => ws.length - (intOf i).toNat)
      case atStart => exact ⟨0, Nat.zero_le _, rfl, by simp [lastQ], _, rfl⟩
      case round =>
        obtain ⟨k, hk, rfl, rfl, n, rfl⟩ := hrel
        by_cases hlt : k < ws.length
        · obtain ⟨b1, o1, rfl, hb1, c1, c2⟩ := H3.out k ws[k] (List.getElem?_eq_getElem hlt)
          obtain ⟨f, hf⟩ : ∃ f, f = ws[k] := ⟨_, rfl⟩
          rw [← hf] at c1 c2
          have hfk : ws[k]? = some f := by rw [hf]; exact List.getElem?_eq_getElem hlt
          clear hf
          have hst := lastQ_take hfk c o
          obtain ⟨x, y⟩ := f
          simp only at c1 c2 hst
          clear hfk
          by_cases he : x = c
          · rw [if_pos he] at hst
            have HS := Lib.hid hst
            have hxe : (x == c) = true := beq_iff_eq.2 he
            clear hst he
            go_wp2
            go_roundw
            case rel => exact ⟨k + 1, by omega, by go_num, by rw [HS.out], _, rfl⟩
            case measure => simp [intOf]; omega
          · rw [if_neg he] at hst
            have HS := Lib.hid hst
            have hxe : (x == c) = false := beq_eq_false_iff_ne.2 he
            clear hst he
            go_wp2
            go_roundw
            case rel => exact ⟨k + 1, by omega, by go_num, by rw [HS.out], _, rfl⟩
            case measure => simp [intOf]; omega
        · have hkn : k = ws.length := by omega
          subst hkn
          rw [List.take_length]
          go_wp2
          go_ret
          exact ⟨by rw [HO.out]; rfl, _, rfl⟩

set_option maxHeartbeats 3200000 in
theorem spec_qual0 (v : Value) (ws : List Wt) (c : Int) (w : World) (hF : WRow w v ws) (hce : (c == 0) = false) :
    Calls Tryz.prog 36 #[v, .int .i64 c] w fun e w' => e = .returned (.int .i64 (lastQ ws c (lastQ ws (-1) 0))) ∧ ∃ n, w' = w.drewN n := by
  obtain ⟨a, cap, rfl, h1, h2, h3⟩ := hF
  unfold maxLen at h2
  have H3 := Lib.hid h3; clear h3
  go_enter Tryz.func36, Tryz.ntmps36
  go_wp2
  go_loopw [5, 6] (fun q i wr => ∃ k : Nat, k ≤ ws.length ∧ i = .int .i64 k ∧ q = .int .i64 (lastQ (ws.take k) (-1) 0) ∧ ∃ n, wr = w.drewN n) (fun _ i _ => ws.length - (intOf i).toNat)
  case atStart => exact ⟨0, Nat.zero_le _, rfl, rfl, 0, rfl⟩
  case round =>
    obtain ⟨k, hk, rfl, rfl, n, rfl⟩ := hrel
    by_cases hlt : k < ws.length
    · obtain ⟨b1, o1, rfl, hb1, c1, c2⟩ := H3.out k ws[k] (List.getElem?_eq_getElem hlt)
      obtain ⟨f, hf⟩ : ∃ f, f = ws[k] := ⟨_, rfl⟩
      rw [← hf] at c1 c2
      have hfk : ws[k]? = some f := by rw [hf]; exact List.getElem?_eq_getElem hlt
      clear hf
      have hst := lastQ_take hfk (-1) 0
      obtain ⟨x, y⟩ := f
      simp only at c1 c2 hst
      clear hfk
      by_cases he : x = (-1)
      · rw [if_pos he] at hst
        have HS := Lib.hid hst
        have hxe : (x == (-1)) = true := beq_iff_eq.2 he
        clear hst he
        go_wp2
        go_roundw
        case rel => exact ⟨k + 1, by omega, by go_num, by rw [HS.out], _, rfl⟩
        case measure => simp [intOf]; omega
      · rw [if_neg he] at hst
        have HS := Lib.hid hst
        have hxe : (x == (-1)) = false := beq_eq_false_iff_ne.2 he
        clear hst he
        go_wp2
        go_roundw
        case rel => exact ⟨k + 1, by omega, by go_num, by rw [HS.out], _, rfl⟩
        case measure => simp [intOf]; omega
    · have hkn : k = ws.length := by omega
      subst hkn
      rw [List.take_length]
      generalize ho : lastQ ws (-1) 0 = o
      have HO := Lib.hid ho
      clear ho
      go_wp2
      go_loopw [5, 7] (fun q i wr => ∃ k : Nat, k ≤ ws.length ∧ i = .int .i64 k ∧ q = .int .i64 (lastQ (ws.take k) c o) ∧ ∃ n, wr = w.drewN n) (fun _ i _ => ws.length - (intOf i).toNat)
      case atStart => exact ⟨0, Nat.zero_le _, rfl, by simp [lastQ], _, rfl⟩
      case round =>
        obtain ⟨k, hk, rfl, rfl, n, rfl⟩ := hrel
        by_cases hlt : k < ws.length
        · obtain ⟨b1, o1, rfl, hb1, c1, c2⟩ := H3.out k ws[k] (List.getElem?_eq_getElem hlt)
          obtain ⟨f, hf⟩ : ∃ f, f = ws[k] := ⟨_, rfl⟩
          rw [← hf] at c1 c2
          have hfk : ws[k]? = some f := by rw [hf]; exact List.getElem?_eq_getElem hlt
          clear hf
          have hst := lastQ_take hfk c o
          obtain ⟨x, y⟩ := f
          simp only at c1 c2 hst
          clear hfk
          by_cases he : x = c
          · rw [if_pos he] at hst
            have HS := Lib.hid hst
            have hxe : (x == c) = true := beq_iff_eq.2 he
            clear hst he
            go_wp2
            go_roundw
            case rel => exact ⟨k + 1, by omega, by go_num, by rw [HS.out], _, rfl⟩
            case measure => simp [intOf]; omega
          · rw [if_neg he] at hst
            have HS := Lib.hid hst
            have hxe : (x == c) = false := beq_eq_false_iff_ne.2 he
            clear hst he
            go_wp2
            go_roundw
            case rel => exact ⟨k + 1, by omega, by go_num, by rw [HS.out], _, rfl⟩
            case measure => simp [intOf]; omega
        · have hkn : k = ws.length := by omega
          subst hkn
          rw [List.take_length]
          go_wp2
          go_ret
          exact ⟨by rw [HO.out]; rfl, _, rfl⟩

theorem spec_qual (v : Value) (ws : List Wt) (c : Int) (w : World) (hF : WRow w v ws) :
    Calls Tryz.prog 36 #[v, .int .i64 c] w fun e w' => e = .returned (.int .i64 (qual ws c)) ∧ ∃ n, w' = w.drewN n := by
  unfold qual
  by_cases hc : c = 0
  · rw [if_pos hc]; exact spec_qual1000 v ws c w hF (beq_iff_eq.2 hc)
  · rw [if_neg hc]; exact spec_qual0 v ws c w hF (beq_eq_false_iff_ne.2 hc)

set_option maxHeartbeats 1600000 in
theorem spec_mask (v : Value) (ws : List Wt) (w : World) (hF : WRow w v ws) :
    Calls Tryz.prog 22 #[v] w fun e w' => e = .returned (.int .i64 (maskL ws : Int)) ∧ ∃ n, w' = w.drewN n := by
  have HM := Lib.hid (maskTo_all ws)
  go_enter Tryz.func22, Tryz.ntmps22
  go_wp2
  go_loopw [3, 4, 5] (fun m x i wr => ∃ k : Nat, k ≤ 3 ∧ i = .int .i64 k ∧ m = .int .i64 (maskTo ws k : Int) ∧ x = .int .i64 ((2 ^ k : Nat) : Int) ∧ ∃ n, wr = w.drewN n) (fun _ _ i _ => 3 - (intOf i).toNat)
  case atStart => exact ⟨0, by omega, rfl, by rw [maskTo_zero]; rfl, rfl, 0, rfl⟩
  case round =>
    obtain ⟨k, hk, rfl, rfl, rfl, n, rfl⟩ := hrel
    have h3 : k = 0 ∨ k = 1 ∨ k = 2 ∨ k = 3 := by omega
    have hst := maskTo_step ws k
    have hlt := maskTo_lt ws k hk
    have hS := fun W (h : WRow W v ws) => spec_qual v ws k W h
    have hm3 : k = 3 → maskTo ws 3 = maskTo ws k := fun h => by rw [h]
    generalize maskTo ws k = M at *
    have HST := Lib.hid hst; have HS := Lib.hid hS; have HM3' := Lib.hid hm3
    clear hst hS hm3
    rcases h3 with rfl | rfl | rfl | rfl
    · have hC := HS.out (w.drewN n) hF
      have hst := HST.out (by decide)
      simp only [show (((0 : Nat)) : Int) = 0 from rfl] at hC hst
      generalize qual ws 0 = Y at *
      have HC := Lib.hid hC
      clear hC HST HS
      by_cases hY : 0 < Y
      · rw [if_pos hY] at hst
        have HM1 := Lib.hid hst
        clear hst
        go_wp2_with fail
        refine HC.out.mono ?_
        rintro e w2 ⟨rfl, n2, rfl⟩
        go_wp2
        go_roundw
        case rel => exact ⟨1, by omega, by go_num, by rw [show maskTo ws 1 = M + 1 from HM1.out]; go_num, by go_num, _, rfl⟩
        case measure => simp [intOf]
      · rw [if_neg hY] at hst
        have HM1 := Lib.hid hst
        clear hst
        go_wp2_with fail
        refine HC.out.mono ?_
        rintro e w2 ⟨rfl, n2, rfl⟩
        go_wp2
        go_roundw
        case rel => exact ⟨1, by omega, by go_num, by rw [show maskTo ws 1 = M from HM1.out], by go_num, _, rfl⟩
        case measure => simp [intOf]
    · have hC := HS.out (w.drewN n) hF
      have hst := HST.out (by decide)
      simp only [show (((1 : Nat)) : Int) = 1 from rfl] at hC hst
      generalize qual ws 1 = Y at *
      have HC := Lib.hid hC
      clear hC HST HS
      by_cases hY : 0 < Y
      · rw [if_pos hY] at hst
        have HM1 := Lib.hid hst
        clear hst
        go_wp2_with fail
        refine HC.out.mono ?_
        rintro e w2 ⟨rfl, n2, rfl⟩
        go_wp2
        go_roundw
        case rel => exact ⟨2, by omega, by go_num, by rw [show maskTo ws 2 = M + 2 from HM1.out]; go_num, by go_num, _, rfl⟩
        case measure => simp [intOf]
      · rw [if_neg hY] at hst
        have HM1 := Lib.hid hst
        clear hst
        go_wp2_with fail
        refine HC.out.mono ?_
        rintro e w2 ⟨rfl, n2, rfl⟩
        go_wp2
        go_roundw
        case rel => exact ⟨2, by omega, by go_num, by rw [show maskTo ws 2 = M from HM1.out], by go_num, _, rfl⟩
        case measure => simp [intOf]
    · have hC := HS.out (w.drewN n) hF
      have hst := HST.out (by decide)
      simp only [show (((2 : Nat)) : Int) = 2 from rfl] at hC hst
      generalize qual ws 2 = Y at *
      have HC := Lib.hid hC
      clear hC HST HS
      by_cases hY : 0 < Y
      · rw [if_pos hY] at hst
        have HM1 := Lib.hid hst
        clear hst
        go_wp2_with fail
        refine HC.out.mono ?_
        rintro e w2 ⟨rfl, n2, rfl⟩
        go_wp2
        go_roundw
        case rel => exact ⟨3, by omega, by go_num, by rw [show maskTo ws 3 = M + 4 from HM1.out]; go_num, by go_num, _, rfl⟩
        case measure => simp [intOf]
      · rw [if_neg hY] at hst
        have HM1 := Lib.hid hst
        clear hst
        go_wp2_with fail
        refine HC.out.mono ?_
        rintro e w2 ⟨rfl, n2, rfl⟩
        go_wp2
        go_roundw
        case rel => exact ⟨3, by omega, by go_num, by rw [show maskTo ws 3 = M from HM1.out], by go_num, _, rfl⟩
        case measure => simp [intOf]
    · have hm3 := HM3'.out rfl
      rw [HM.out] at hm3
      subst hm3
      clear HST HS
      go_wp2
      go_ret
      exact ⟨rfl, _, rfl⟩
end Go.Proofs.YtlfcamapjeldjaaGreatDoor
