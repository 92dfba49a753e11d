/- Walks: a quality. -/
import Derived.Test.YtlfcamapjeldjaaGreatDoorCodP
import Derived.Test.YtlfcamapjeldjaaGreatDoorCutB
import Derived.Test.YtlfcamapjeldjaaGreatDoorNumR
namespace Go.Proofs.YtlfcamapjeldjaaGreatDoor
open Go.RowKit

theorem codQ_no {l : List UInt8} (h : ¬ (((cutL l 46).1 = [48] ∨ (cutL l 46).1 = [49]) ∧ (cutL l 46).2.1.length ≤ 3 ∧ (cutL l 46).2.1.all isDig = true ∧ qVal ((cutL l 46).1.headD 0) (cutL l 46).2.1 ≤ 1000)) : codQ l = (0, false) := by
  unfold codQ; rw [if_neg h]
theorem codQ_one (a : UInt8) (h : a = 48 ∨ a = 49) : codQ [a] = ((a.toNat - 48) * 1000, true) := by
  rcases h with rfl | rfl <;> decide
theorem cut_dot {a : UInt8} {d : List UInt8} (h : a = 48 ∨ a = 49) : cutL (a :: 46 :: d) 46 = ([a], d, true) := by
  rcases h with rfl | rfl <;> simp [cutL]
theorem codQ_dot {a : UInt8} {d : List UInt8} (h : a = 48 ∨ a = 49) : codQ (a :: 46 :: d) = if d.length ≤ 3 ∧ d.all isDig = true ∧ qVal a d ≤ 1000 then (qVal a d, true) else (0, false) := by
  unfold codQ
  rw [cut_dot h]
  have h1 : ([a] = [48] ∨ [a] = [49]) := by rcases h with rfl | rfl <;> simp
  simp only [h1, true_and, List.headD_cons]
theorem cut_head (a : UInt8) (l : List UInt8) (h : (cutL (a :: l) 46).1 = [48] ∨ (cutL (a :: l) 46).1 = [49]) : (a = 48 ∨ a = 49) ∧ (l = [] ∨ ∃ d, l = 46 :: d) := by
  unfold cutL at h
  split at h
  · rcases h with h | h <;> simp at h
  · simp only [List.cons.injEq] at h
    refine ⟨by rcases h with h | h; exact .inl h.1; exact .inr h.1, ?_⟩
    have h2 : (cutL l 46).1 = [] := by rcases h with h | h <;> exact h.2
    cases l with
    | nil => exact .inl rfl
    | cons b l =>
      right
      unfold cutL at h2
      split at h2
      · rename_i hb; exact ⟨l, by rw [hb]⟩
      · simp at h2
theorem codQ_bad {a : UInt8} {l : List UInt8} (h : ¬ ((a = 48 ∨ a = 49) ∧ (l = [] ∨ ∃ d, l = 46 :: d))) : codQ (a :: l) = (0, false) := codQ_no fun hc => h (cut_head a l hc.1)

/-- The places behind the point, as far as they are read. -/
def qTo (a : UInt8) (d : List UInt8) (j : Nat) : Nat := (a.toNat - 48) * 1000 + (if 0 < j then ((d.getD 0 0).toNat - 48) * 100 else 0) + (if 1 < j then ((d.getD 1 0).toNat - 48) * 10 else 0) + (if 2 < j then ((d.getD 2 0).toNat - 48) else 0)
def qW (j : Nat) : Nat := if j = 0 then 100 else if j = 1 then 10 else if j = 2 then 1 else 0
theorem qTo_step (a : UInt8) (d : List UInt8) (j : Nat) (hj : j < 3) : qTo a d (j + 1) = qTo a d j + ((d.getD j 0).toNat - 48) * qW j := by
  have h : j = 0 ∨ j = 1 ∨ j = 2 := by omega
  rcases h with rfl | rfl | rfl <;> simp [qTo, qW]
theorem qW_step (j : Nat) (hj : j < 3) : qW (j + 1) = qW j / 10 := by
  have h : j = 0 ∨ j = 1 ∨ j = 2 := by omega
  rcases h with rfl | rfl | rfl <;> simp [qW]
theorem qTo_all (a : UInt8) (d : List UInt8) (h : d.length ≤ 3) : qTo a d d.length = qVal a d := by
  match d, h with
  | [], _ => simp [qTo, qVal, valF]; omega
  | [x], _ => simp [qTo, qVal, valF]; omega
  | [x, y], _ => simp [qTo, qVal, valF]; omega
  | [x, y, z], _ => simp [qTo, qVal, valF]; omega
  | _ :: _ :: _ :: _ :: _, h => simp at h
theorem qTo_le (a : UInt8) (d : List UInt8) (j : Nat) : qTo a d j ≤ 1000000 := by
  have h0 := a.toNat_lt
  have h1 := (d.getD 0 0).toNat_lt
  have h2 := (d.getD 1 0).toNat_lt
  have h3 := (d.getD 2 0).toNat_lt
  unfold qTo
  split <;> split <;> split <;> omega

def QEnd (l : List UInt8) : Value := .tuple #[.int .i64 ((codQ l).1 : Int), .bool (codQ l).2]
theorem QEnd_no {l : List UInt8} (h : codQ l = (0, false)) : QEnd l = .tuple #[.int .i64 0, .bool false] := by unfold QEnd; rw [h]; rfl

theorem b8_eq {a b : UInt8} (h : a = b) : ((a.toNat : Int) == (b.toNat : Int)) = true := by subst h; simp
theorem b8_ne {a b : UInt8} (h : a ≠ b) : ¬ (a.toNat : Int) = (b.toNat : Int) := fun e => h (UInt8.toNat_inj.mp (by omega))

/-- What the loop over the places carries. -/
def QRel (a : UInt8) (d : List UInt8) (n wt i : Value) : Prop := ∃ j, j ≤ d.length ∧ i = .int .i64 ((j : Int) + 2) ∧ n = .int .i64 (qTo a d j : Int) ∧ wt = .int .i64 (qW j : Int) ∧ (d.take j).all isDig = true

set_option maxHeartbeats 3200000 in
theorem spec_codq (s : ByteArray) (w : World) (hs : s.size ≤ maxLen) :
    Calls Tryz.prog 52 #[.string s] w fun e w' => e = .returned (QEnd s.data.toList) ∧ ∃ n, w' = w.drewN n := by
  unfold maxLen at hs
  have hlen := size_len s
  by_cases h5 : 5 < s.size
  · have hq : codQ s.data.toList = (0, false) := codQ_no fun ⟨h1, h2, _⟩ => by
      generalize s.data.toList = l at h1 h2 hlen
      cases l with
      | nil => rw [List.length_nil] at hlen; omega
      | cons a l =>
        obtain ⟨ha, rfl | ⟨d, rfl⟩⟩ := cut_head a l h1
        · simp at hlen; omega
        · rw [cut_dot ha] at h2
          simp at hlen h2; omega
    rw [QEnd_no hq]
    have n0 : ((s.size : Int) == 0) = false := beq_eq_false_iff_ne.2 (by omega)
    have n1 : 5 < (s.size : Int) := by omega
    clear hq hlen
    go_enter Tryz.func52, Tryz.ntmps52
    go_wp2_with fail
    go_ret2
    exact ⟨rfl, 0, rfl⟩
  by_cases h0 : s.size = 0
  · have hq : codQ s.data.toList = (0, false) := by
      have : s.data.toList = [] := List.eq_nil_of_length_eq_zero (by omega)
      rw [this]; rfl
    rw [QEnd_no hq]
    have n0 : ((s.size : Int) == 0) = true := beq_iff_eq.2 (by omega)
    clear hq hlen
    go_enter Tryz.func52, Tryz.ntmps52
    go_wp2_with fail
    go_ret2
    exact ⟨rfl, 0, rfl⟩
  have hp0 : 0 < s.size := by omega
  have g0 := at_get s 0 hp0
  have n0 : ((s.size : Int) == 0) = false := beq_eq_false_iff_ne.2 (by omega)
  have n1 : ¬ 5 < (s.size : Int) := by omega
  by_cases ha : s[0] = 48 ∨ s[0] = 49
  case neg =>
    have hq : codQ s.data.toList = (0, false) := by
      generalize s.data.toList = l at g0
      cases l with
      | nil => simp at g0
      | cons a l =>
        have : a = s[0] := by simpa using g0
        subst this
        exact codQ_bad fun h => ha h.1
    rw [QEnd_no hq]
    have i1 : ((s[0].toNat : Int) != 48) = true := bne_iff_ne.2 (b8_ne (b := 48) fun e => ha (.inl e))
    have i2 : ((s[0].toNat : Int) != 49) = true := bne_iff_ne.2 (b8_ne (b := 49) fun e => ha (.inr e))
    clear hq hlen ha g0
    go_enter Tryz.func52, Tryz.ntmps52
    go_wp2_with fail
    go_ret2
    exact ⟨rfl, 0, rfl⟩
  case pos =>
    have HA := Lib.hid ha
    by_cases h1 : s.size = 1
    · have hq : codQ s.data.toList = ((s[0].toNat - 48) * 1000, true) := by
        generalize s.data.toList = l at g0 hlen
        match l, hlen with
        | [a], _ =>
          have : a = s[0] := by simpa using g0
          rw [this]; exact codQ_one _ ha
        | [], h => rw [List.length_nil] at h; omega
        | _ :: _ :: _, h => simp only [List.length_cons] at h; omega
      have HQ := Lib.hid hq
      have n2 : ((s.size : Int) == 1) = true := beq_iff_eq.2 (by omega)
      clear hq hlen g0 HA h1
      rcases ha with ha | ha
      all_goals
        have i1 : (s[0].toNat : Int) = _ := congrArg (fun b : UInt8 => (b.toNat : Int)) ha
        simp only [UInt8.reduceToNat] at i1
        have HA := Lib.hid ha
        clear ha
        go_enter Tryz.func52, Tryz.ntmps52
        go_wp2_with fail
        go_ret2
        refine ⟨?_, 0, rfl⟩
        unfold QEnd
        rw [HQ.out, HA.out]
        rfl
    have hp1 : 1 < s.size := by omega
    have g1 := at_get s 1 hp1
    have n2 : ((s.size : Int) == 1) = false := beq_eq_false_iff_ne.2 (by omega)
    by_cases hb : s[1] = 46
    case neg =>
      have hq : codQ s.data.toList = (0, false) := by
        generalize s.data.toList = l at g0 g1
        match l, g0, g1 with
        | a :: b :: l, g0, g1 =>
          have : b = s[1] := by simpa using g1
          exact codQ_bad fun h => by
            rcases h.2 with h | ⟨d, h⟩
            · cases h
            · injection h with h; exact hb (by rw [← this, h])
      rw [QEnd_no hq]
      have i2 : ((s[1].toNat : Int) != 46) = true := bne_iff_ne.2 (b8_ne (b := 46) hb)
      clear hq hlen g0 g1 HA hb
      rcases ha with ha | ha
      all_goals
        have i1 : (s[0].toNat : Int) = _ := congrArg (fun b : UInt8 => (b.toNat : Int)) ha
        simp only [UInt8.reduceToNat] at i1
        clear ha
        go_enter Tryz.func52, Tryz.ntmps52
        go_wp2_with fail
        go_ret2
        exact ⟨rfl, 0, rfl⟩
    case pos =>
      obtain ⟨d, hL⟩ : ∃ d, s.data.toList = s[0] :: 46 :: d := by
        generalize s.data.toList = l at g0 g1
        match l, g0, g1 with
        | a :: b :: l, g0, g1 =>
          have e0 : a = s[0] := by simpa using g0
          have e1 : b = s[1] := by simpa using g1
          exact ⟨l, by rw [e0, e1, hb]⟩
      have hdl : s.size = d.length + 2 := by rw [hlen, hL]; simp
      have i2 : (s[1].toNat : Int) = 46 := by rw [hb]; rfl
      have hi2 : ((s[1].toNat : Int) != 46) = false := by rw [i2]; rfl
      clear hlen g0 g1 hb i2
      have hq0 : (qTo s[0] d 0 : Int) = ((s[0].toNat : Int) - 48) * 1000 := by rcases ha with h | h <;> rw [h] <;> simp [qTo]
      have HQ0 := Lib.hid hq0
      have HL0 := Lib.hid hL
      clear hq0 hL
      have hd3 : d.length ≤ 3 := by omega
      have HS := Lib.hid hdl
      clear h1 h5 h0 hdl
      rcases ha with ha | ha
      all_goals
        have i1 : (s[0].toNat : Int) = _ := congrArg (fun b : UInt8 => (b.toNat : Int)) ha
        simp only [UInt8.reduceToNat] at i1
        have HQ00 := HQ0.out
        rw [i1] at HQ00
        have HQ1 := Lib.hid HQ00
        clear ha HQ00
        go_enter Tryz.func52, Tryz.ntmps52
        go_wp2_with fail
        go_loop [4, 5, 6] (fun n wt i => QRel s[0] d n wt i) (fun _ _ i => d.length + 2 - (intOf i).toNat)
        case atStart => exact ⟨0, Nat.zero_le _, rfl, by rw [HQ1.out]; rfl, rfl, rfl⟩
        case round =>
          obtain ⟨j, hj, rfl, rfl, rfl, hall⟩ := hrel
          have Hall := Lib.hid hall
          clear hall
          by_cases hlt : j < d.length
          · have hj3 : j = 0 ∨ j = 1 ∨ j = 2 := by omega
            have hL := HL0.out
            have hdn : (d.length : Int) + 2 = (s.size : Int) := by have := HS.out; omega
            have HDN := Lib.hid hdn
            clear hdn
            rcases hj3 with rfl | rfl | rfl
            · have hk : 2 < s.size := by have := HS.out; omega
              have hx0 := at_get s 2 hk
              rw [hL] at hx0
              have hx : d[0]? = some s[2] := by simpa using hx0
              have hq := qTo_step s[0] d 0 (by decide)
              have hle := qTo_le s[0] d 0
              have hgd : d.getD 0 0 = s[2] := by rw [List.getD_eq_getElem?_getD, hx]; rfl
              rw [hgd] at hq
              have hx8 := s[2].toNat_lt
              have HL := Lib.hid hL; have HX := Lib.hid hx
              clear hL hx hx0 hgd
              by_cases hd : isDig s[2] = true
              · have hdd : 48 ≤ s[2].toNat ∧ s[2].toNat ≤ 57 := by unfold isDig at hd; simpa using hd
                obtain ⟨x1, x2⟩ := hdd
                have HD := Lib.hid hd
                have hq2 : (qTo s[0] d 1 : Int) = (qTo s[0] d 0 : Int) + ((s[2].toNat : Int) - 48) * 100 := by
                  have e : qW 0 = 100 := rfl
                  rw [e] at hq
                  rw [hq]; omega
                have HQ := Lib.hid hq2
                clear hd hq hq2
                rw [show ((qW 0 : Nat) : Int) = 100 from rfl]
                generalize qTo s[0] d 0 = N at *
                go_wp2
                go_round
                case rel => exact ⟨1, by omega, by go_num, by rw [HQ.out], by rw [show ((qW 1 : Nat) : Int) = 10 from rfl], by rw [List.take_add_one, HX.out, List.all_append, Hall.out]; simp [HD.out]⟩
                case measure => simp [intOf]; omega
              · have hcc : (s[2].toNat : Int) < 48 ∨ (¬ (s[2].toNat : Int) < 48 ∧ 57 < (s[2].toNat : Int)) := by
                  unfold isDig at hd
                  simp only [Bool.and_eq_true, decide_eq_true_eq] at hd
                  omega
                have hno : codQ s.data.toList = (0, false) := by
                  rw [HL.out, codQ_dot HA.out, if_neg]
                  rintro ⟨_, h, _⟩
                  rw [List.all_eq_true] at h
                  exact hd (h _ (List.mem_of_getElem? HX.out))
                have HNO := Lib.hid (QEnd_no hno)
                clear hno hd hq
                rw [show ((qW 0 : Nat) : Int) = 100 from rfl]
                generalize qTo s[0] d 0 = N at *
                rcases hcc with c1 | ⟨c1, c2⟩
                · go_wp2
                  go_ret2
                  exact ⟨by rw [HNO.out]; rfl, 0, rfl⟩
                · go_wp2
                  go_ret2
                  exact ⟨by rw [HNO.out]; rfl, 0, rfl⟩
            · have hk : 3 < s.size := by have := HS.out; omega
              have hx0 := at_get s 3 hk
              rw [hL] at hx0
              have hx : d[1]? = some s[3] := by simpa using hx0
              have hq := qTo_step s[0] d 1 (by decide)
              have hle := qTo_le s[0] d 1
              have hgd : d.getD 1 0 = s[3] := by rw [List.getD_eq_getElem?_getD, hx]; rfl
              rw [hgd] at hq
              have hx8 := s[3].toNat_lt
              have HL := Lib.hid hL; have HX := Lib.hid hx
              clear hL hx hx0 hgd
              by_cases hd : isDig s[3] = true
              · have hdd : 48 ≤ s[3].toNat ∧ s[3].toNat ≤ 57 := by unfold isDig at hd; simpa using hd
                obtain ⟨x1, x2⟩ := hdd
                have HD := Lib.hid hd
                have hq2 : (qTo s[0] d 2 : Int) = (qTo s[0] d 1 : Int) + ((s[3].toNat : Int) - 48) * 10 := by
                  have e : qW 1 = 10 := rfl
                  rw [e] at hq
                  rw [hq]; omega
                have HQ := Lib.hid hq2
                clear hd hq hq2
                rw [show ((qW 1 : Nat) : Int) = 10 from rfl]
                generalize qTo s[0] d 1 = N at *
                go_wp2
                go_round
                case rel => exact ⟨2, by omega, by go_num, by rw [HQ.out], by rw [show ((qW 2 : Nat) : Int) = 1 from rfl], by rw [List.take_add_one, HX.out, List.all_append, Hall.out]; simp [HD.out]⟩
                case measure => simp [intOf]; omega
              · have hcc : (s[3].toNat : Int) < 48 ∨ (¬ (s[3].toNat : Int) < 48 ∧ 57 < (s[3].toNat : Int)) := by
                  unfold isDig at hd
                  simp only [Bool.and_eq_true, decide_eq_true_eq] at hd
                  omega
                have hno : codQ s.data.toList = (0, false) := by
                  rw [HL.out, codQ_dot HA.out, if_neg]
                  rintro ⟨_, h, _⟩
                  rw [List.all_eq_true] at h
                  exact hd (h _ (List.mem_of_getElem? HX.out))
                have HNO := Lib.hid (QEnd_no hno)
                clear hno hd hq
                rw [show ((qW 1 : Nat) : Int) = 10 from rfl]
                generalize qTo s[0] d 1 = N at *
                rcases hcc with c1 | ⟨c1, c2⟩
                · go_wp2
                  go_ret2
                  exact ⟨by rw [HNO.out]; rfl, 0, rfl⟩
                · go_wp2
                  go_ret2
                  exact ⟨by rw [HNO.out]; rfl, 0, rfl⟩
            · have hk : 4 < s.size := by have := HS.out; omega
              have hx0 := at_get s 4 hk
              rw [hL] at hx0
              have hx : d[2]? = some s[4] := by simpa using hx0
              have hq := qTo_step s[0] d 2 (by decide)
              have hle := qTo_le s[0] d 2
              have hgd : d.getD 2 0 = s[4] := by rw [List.getD_eq_getElem?_getD, hx]; rfl
              rw [hgd] at hq
              have hx8 := s[4].toNat_lt
              have HL := Lib.hid hL; have HX := Lib.hid hx
              clear hL hx hx0 hgd
              by_cases hd : isDig s[4] = true
              · have hdd : 48 ≤ s[4].toNat ∧ s[4].toNat ≤ 57 := by unfold isDig at hd; simpa using hd
                obtain ⟨x1, x2⟩ := hdd
                have HD := Lib.hid hd
                have hq2 : (qTo s[0] d 3 : Int) = (qTo s[0] d 2 : Int) + ((s[4].toNat : Int) - 48) * 1 := by
                  have e : qW 2 = 1 := rfl
                  rw [e] at hq
                  rw [hq]; omega
                have HQ := Lib.hid hq2
                clear hd hq hq2
                rw [show ((qW 2 : Nat) : Int) = 1 from rfl]
                generalize qTo s[0] d 2 = N at *
                go_wp2
                go_round
                case rel => exact ⟨3, by omega, by go_num, by rw [HQ.out, Int.mul_one], by rw [show ((qW 3 : Nat) : Int) = 0 from rfl], by rw [List.take_add_one, HX.out, List.all_append, Hall.out]; simp [HD.out]⟩
                case measure => simp [intOf]; omega
              · have hcc : (s[4].toNat : Int) < 48 ∨ (¬ (s[4].toNat : Int) < 48 ∧ 57 < (s[4].toNat : Int)) := by
                  unfold isDig at hd
                  simp only [Bool.and_eq_true, decide_eq_true_eq] at hd
                  omega
                have hno : codQ s.data.toList = (0, false) := by
                  rw [HL.out, codQ_dot HA.out, if_neg]
                  rintro ⟨_, h, _⟩
                  rw [List.all_eq_true] at h
                  exact hd (h _ (List.mem_of_getElem? HX.out))
                have HNO := Lib.hid (QEnd_no hno)
                clear hno hd hq
                rw [show ((qW 2 : Nat) : Int) = 1 from rfl]
                generalize qTo s[0] d 2 = N at *
                rcases hcc with c1 | ⟨c1, c2⟩
                · go_wp2
                  go_ret2
                  exact ⟨by rw [HNO.out]; rfl, 0, rfl⟩
                · go_wp2
                  go_ret2
                  exact ⟨by rw [HNO.out]; rfl, 0, rfl⟩
          · have hjd : j = d.length := by omega
            subst hjd
            have hcd : ¬ (d.length : Int) + 2 < (s.size : Int) := by have := HS.out; omega
            have hal := Hall.out
            rw [List.take_of_length_le (Nat.le_refl _)] at hal
            have hq := codQ_dot (a := s[0]) (d := d) HA.out
            rw [qTo_all _ _ hd3]
            have HA3 := Lib.hid hal
            generalize qVal s[0] d = N at *
            by_cases hN : N ≤ 1000
            · rw [if_pos ⟨hd3, hal, hN⟩] at hq
              rw [← HL0.out] at hq
              have HQ := Lib.hid hq
              clear hq hal
              go_wp2
              go_ret2
              refine ⟨?_, 0, rfl⟩
              unfold QEnd
              rw [HQ.out]
              rfl
            · rw [if_neg (fun h => hN h.2.2)] at hq
              rw [← HL0.out] at hq
              have HQ := Lib.hid hq
              clear hq hal
              go_wp2
              go_ret2
              refine ⟨?_, 0, rfl⟩
              unfold QEnd
              rw [HQ.out]
              rfl
end Go.Proofs.YtlfcamapjeldjaaGreatDoor
