/- Walks: a quality, by the program. -/
import Derived.Test.YtlfcamapjeldjaaGreatDoorCodQ
namespace Go.Proofs.YtlfcamapjeldjaaGreatDoor
open Go.RowKit

theorem qS (a : UInt8) (D : List UInt8) (h : D.length ≤ 3) : (⟨#[a]⟩ ++ ⟨D.toArray⟩ ++ (⟨#[48, 48, 48]⟩ : ByteArray).extract D.length 3 : ByteArray) = ⟨(a :: (D ++ List.replicate (3 - D.length) 48)).toArray⟩ := by
  match D, h with
  | [], _ => rfl
  | [x], _ => rfl
  | [x, y], _ => rfl
  | [x, y, z], _ => rfl
  | _ :: _ :: _ :: _ :: _, h => simp at h
theorem q_digs (D : List UInt8) (n : Nat) : (D ++ List.replicate n (48 : UInt8)).all isDig = D.all isDig := by
  rw [List.all_append]
  have : (List.replicate n (48 : UInt8)).all isDig = true := by
    rw [List.all_eq_true]
    intro x hx
    rw [List.eq_of_mem_replicate hx]; decide
  rw [this, Bool.and_true]

/-- How the reading of a quality's four digits ends. -/
def QAtoi (a : UInt8) (D : List UInt8) (w : World) (e : Ending) (w' : World) : Prop :=
  Below w.heap.size w w' ∧ ((e = .returned (.tuple #[.int .i64 (qVal a D : Int), .nilIface]) ∧ D.all isDig = true) ∨ ∃ t p v, e = .returned (.tuple #[.int .i64 v, .iface t p]) ∧ D.all isDig = false)
theorem atoi_q (a : UInt8) (ha : a = 48 ∨ a = 49) (D : List UInt8) (hD : D.length ≤ 3) (w : World) (he : Errs w) :
    Calls Tryz.prog 65 #[.string (⟨#[a]⟩ ++ ⟨D.toArray⟩ ++ (⟨#[48, 48, 48]⟩ : ByteArray).extract D.length 3)] w (QAtoi a D w) := by
  rw [qS a D hD]
  obtain ⟨tp, p, tp2, p2, hv1, hv2⟩ := he
  have hlen : (D ++ List.replicate (3 - D.length) (48 : UInt8)).length ≤ 3 := by simp; omega
  obtain ⟨h1, h2, h3⟩ := atoi_small ha hlen
  have hdig := q_digs D (3 - D.length)
  have hval : valF 0 (a :: (D ++ List.replicate (3 - D.length) 48)) = qVal a D := rfl
  have hsz : (ByteArray.mk (a :: (D ++ List.replicate (3 - D.length) (48 : UInt8))).toArray).size ≤ 4 := by rw [size_len]; simp; omega
  have hdt : (ByteArray.mk (a :: (D ++ List.replicate (3 - D.length) (48 : UInt8))).toArray).data.toList = a :: (D ++ List.replicate (3 - D.length) 48) := rfl
  generalize (ByteArray.mk (a :: (D ++ List.replicate (3 - D.length) (48 : UInt8))).toArray) = S at *
  rw [hval] at h2 h3
  rw [hdig] at h2 h3
  rw [← hdt] at h1 h2 h3
  rcases h : Lib.atoiAll S.data.toList with v | _ | _
  · obtain ⟨k1, k2⟩ := h2 v h
    subst k2
    refine (Tryz.strconv_Atoi_ok S (by omega) _ h w).mono ?_
    rintro e w1 ⟨rfl, hw⟩
    exact ⟨atoi_below hw, .inl ⟨rfl, k1⟩⟩
  · refine (Any.strconv_Atoi_syntax_var Tryz.laysC172 S (by omega) h tp p w hv1).mono ?_
    rintro e w1 ⟨N, rfl, _, _, hb1⟩
    refine ⟨hb1, .inr ⟨_, _, _, rfl, ?_⟩⟩
    cases hd : D.all isDig
    · rfl
    · have := h3 hd
      rw [h] at this; cases this
  · exact absurd h h1

set_option maxHeartbeats 1600000 in
theorem impl_codq (s : ByteArray) (w : World) (hs : s.size ≤ 281474976710656) (he : Errs w) :
    Calls Tryz.prog 46 #[.string s] w fun e w' => e = .returned (QEnd s.data.toList) ∧ Below w.heap.size w w' := by
  have hcut := fun W => textcut s 46 W (by unfold maxLen; omega)
  obtain ⟨hl1, hl2⟩ := cutL_len s.data.toList 46
  have hsl := size_len s
  have hq := Eq.refl (codQ s.data.toList)
  conv at hq => rhs; unfold codQ
  generalize cutL s.data.toList 46 = C at *
  obtain ⟨W, D, B⟩ := C
  simp only at hl1 hl2 hcut hq
  have HC := Lib.hid hcut
  have hD9 : D.length ≤ 281474976710656 := by omega
  clear hcut hl1 hl2 hsl
  by_cases hW : W = [48] ∨ W = [49]
  · by_cases hD : D.length ≤ 3
    · have fin : ∀ a : UInt8, a = 48 ∨ a = 49 → W = [a] → (D.all isDig = true → qVal a D ≤ 1000 → QEnd s.data.toList = .tuple #[.int .i64 (qVal a D : Int), .bool true]) ∧ ((D.all isDig = false ∨ ¬ qVal a D ≤ 1000) → QEnd s.data.toList = .tuple #[.int .i64 0, .bool false]) := by
        rintro a ha rfl
        refine ⟨fun h1 h2 => ?_, fun h => QEnd_no ?_⟩
        · unfold QEnd
          rw [hq, if_pos ⟨hW, hD, h1, h2⟩]; rfl
        · rw [hq, if_neg]
          rintro ⟨_, _, h1, h2⟩
          rcases h with h | h
          · rw [h1] at h; cases h
          · exact h h2
      have FIN := Lib.hid fin
      have HE := Lib.hid he
      clear fin hq he
      rcases hW with rfl | rfl
      · obtain ⟨f1, f2⟩ := FIN.out 48 (.inl rfl) rfl
        have F1 := Lib.hid f1; have F2 := Lib.hid f2
        clear f1 f2 FIN
        have HD3 := Lib.hid hD
        have hA := fun W (h : Errs W) => atoi_q 48 (.inl rfl) D HD3.out W h
        have HA := Lib.hid hA
        clear hA
        unfold QAtoi at HA
        generalize qVal 48 D = N at *
        go_enter Tryz.func46, Tryz.ntmps46
        go_wp2_with fail
        refine (HC.out _).mono ?_
        rintro e w1 ⟨rfl, n1, rfl⟩
        go_wp2_with fail
        refine (HA.out _ (show Errs (w.drewN n1) from HE.out)).mono ?_
        rintro e w2 ⟨hb2, ⟨rfl, h1⟩ | ⟨t, p, v, rfl, h1⟩⟩
        · by_cases hN : N ≤ 1000
          · have R := Lib.hid (F1.out h1 hN)
            clear F1 F2 h1
            go_wp2
            go_ret2
            exact ⟨by rw [R.out]; rfl, below_drewN_left hb2⟩
          · have R := Lib.hid (F2.out (.inr hN))
            clear F1 F2 h1
            go_wp2
            go_ret2
            exact ⟨by rw [R.out]; rfl, below_drewN_left hb2⟩
        · have R := Lib.hid (F2.out (.inl h1))
          clear F1 F2 h1
          go_wp2
          go_ret2
          exact ⟨by rw [R.out]; rfl, below_drewN_left hb2⟩
      · obtain ⟨f1, f2⟩ := FIN.out 49 (.inr rfl) rfl
        have F1 := Lib.hid f1; have F2 := Lib.hid f2
        clear f1 f2 FIN
        have HD3 := Lib.hid hD
        have hA := fun W (h : Errs W) => atoi_q 49 (.inr rfl) D HD3.out W h
        have HA := Lib.hid hA
        clear hA
        unfold QAtoi at HA
        generalize qVal 49 D = N at *
        go_enter Tryz.func46, Tryz.ntmps46
        go_wp2_with fail
        refine (HC.out _).mono ?_
        rintro e w1 ⟨rfl, n1, rfl⟩
        go_wp2_with fail
        refine (HA.out _ (show Errs (w.drewN n1) from HE.out)).mono ?_
        rintro e w2 ⟨hb2, ⟨rfl, h1⟩ | ⟨t, p, v, rfl, h1⟩⟩
        · by_cases hN : N ≤ 1000
          · have R := Lib.hid (F1.out h1 hN)
            clear F1 F2 h1
            go_wp2
            go_ret2
            exact ⟨by rw [R.out]; rfl, below_drewN_left hb2⟩
          · have R := Lib.hid (F2.out (.inr hN))
            clear F1 F2 h1
            go_wp2
            go_ret2
            exact ⟨by rw [R.out]; rfl, below_drewN_left hb2⟩
        · have R := Lib.hid (F2.out (.inl h1))
          clear F1 F2 h1
          go_wp2
          go_ret2
          exact ⟨by rw [R.out]; rfl, below_drewN_left hb2⟩
    · have R := Lib.hid (QEnd_no (hq.trans (if_neg (fun h => hD h.2.1))))
      clear hq he
      rcases hW with rfl | rfl
      all_goals
        go_enter Tryz.func46, Tryz.ntmps46
        go_wp2_with fail
        refine (HC.out _).mono ?_
        rintro e w1 ⟨rfl, n1, rfl⟩
        go_wp2_with fail
        go_ret2
        exact ⟨by rw [R.out]; rfl, below_drewN (Below.refl _ _)⟩
  · have R := Lib.hid (QEnd_no (hq.trans (if_neg (fun h => hW h.1))))
    obtain ⟨hW1, hW2⟩ := not_or.1 hW
    clear hq he hW
    go_enter Tryz.func46, Tryz.ntmps46
    go_wp2_with fail
    refine (HC.out _).mono ?_
    rintro e w1 ⟨rfl, n1, rfl⟩
    go_wp2_with fail
    go_ret2
    exact ⟨by rw [R.out]; rfl, below_drewN (Below.refl _ _)⟩
end Go.Proofs.YtlfcamapjeldjaaGreatDoor
