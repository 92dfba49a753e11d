/- Places: the bytes that a place means: the machine that takes it byte by byte, and its model. -/
import Derived.Test.YthmljebpjohibaaDoorUri
namespace Go.Proofs.YthmljebpjohibaaDoor
open Go.RowKit

/-- The bytes that a text means: each code replaced by its byte. -/
def meansL : List UInt8 → List UInt8
  | [] => []
  | c :: l => match codeL (c :: l) with
    | some n => UInt8.ofNat n :: meansL (l.drop 2)
    | none => c :: meansL l
termination_by l => l.length
decreasing_by
  · simp; omega
  · simp

theorem meansL_nil : meansL [] = [] := by rw [meansL]
theorem meansL_none {c : UInt8} {l : List UInt8} (h : codeL (c :: l) = none) : meansL (c :: l) = c :: meansL l := by rw [meansL]; rw [h]
theorem meansL_some {c : UInt8} {l : List UInt8} {n : Nat} (h : codeL (c :: l) = some n) : meansL (c :: l) = UInt8.ofNat n :: meansL (l.drop 2) := by rw [meansL]; rw [h]
theorem meansL_len (l : List UInt8) : (meansL l).length ≤ l.length := by
  induction h : l.length using Nat.strongRecOn generalizing l with
  | _ n ih =>
    subst h
    match l with
    | [] => rw [meansL_nil]; simp
    | c :: l =>
      cases hc : codeL (c :: l) with
      | none => rw [meansL_none hc]; have := ih l.length (by simp) l rfl; simp; omega
      | some m => rw [meansL_some hc]; have := ih (l.drop 2).length (by simp; omega) (l.drop 2) rfl; simp at this ⊢; omega

theorem codeL_two {a b : UInt8} {l : List UInt8} : codeL (37 :: a :: b :: l) = match hexV a, hexV b with | some x, some y => some (x * 16 + y) | _, _ => none := by unfold codeL; simp only [if_true]; try rfl
theorem codeL_37_none {a : UInt8} {l : List UInt8} (h : hexV a = none) : codeL (37 :: a :: l) = none := by
  match l with
  | [] => rfl
  | b :: l => rw [codeL_two, h]
theorem codeL_37_none2 {a b : UInt8} {l : List UInt8} (h : hexV b = none) : codeL (37 :: a :: b :: l) = none := by
  rw [codeL_two, h]; cases hexV a <;> rfl
theorem codeL_37_some {a b : UInt8} {l : List UInt8} {x y : Nat} (h : hexV a = some x) (h2 : hexV b = some y) : codeL (37 :: a :: b :: l) = some (x * 16 + y) := by
  rw [codeL_two, h, h2]
theorem codeL_lt {l : List UInt8} {n : Nat} (h : codeL l = some n) : n < 256 := by
  match l, h with
  | c :: a :: b :: l, h =>
    by_cases hc : c = 37
    · subst hc
      rw [codeL_two] at h
      cases ha : hexV a with
      | none => rw [ha] at h; cases h
      | some x =>
        cases hb : hexV b with
        | none => rw [ha, hb] at h; cases h
        | some y =>
          rw [ha, hb] at h
          have := hexV_lt ha; have := hexV_lt hb; have := Option.some.inj h; omega
    · rw [codeL_ne hc] at h; cases h
  | [], h => cases h
  | [_], h => cases h
  | [_, _], h => cases h
theorem hex_ne_37 {a : UInt8} {x : Nat} (h : hexV a = some x) : a ≠ 37 := by rintro rfl; rw [hexV_37] at h; cases h

set_option maxHeartbeats 800000 in
theorem spec_means (s : ByteArray) (w : World) (hs : s.size ≤ 1048576) :
    Calls Tryd.prog 20 #[.string s] w fun e w' => e = .returned (strV (meansL s.data.toList)) ∧ Below w.heap.size w w' := by
  obtain ⟨R, hR⟩ : ∃ R, R = meansL s.data.toList := ⟨_, rfl⟩
  rw [← hR]
  go_enter Tryd.func20, Tryd.ntmps20
  go_wp2_with fail
  go_loopw [3, 4] (fun out i wr => ∃ (k : Nat) (acc : List UInt8), k ≤ s.size ∧ i = .int .i64 k ∧ out = .string ⟨acc.toArray⟩ ∧ acc.length ≤ k ∧ Hid (R = acc ++ meansL (s.data.toList.drop k)) ∧ Below w.heap.size w wr) (fun _ i _ => s.size - (intOf i).toNat)
  case atStart => exact ⟨0, [], Nat.zero_le _, rfl, rfl, Nat.zero_le _, Lib.hid (by simpa using hR), Below.refl _ _⟩
  case round =>
    clear hR
    obtain ⟨k, acc, hk, rfl, rfl, hacc, HR, hbel⟩ := hrel
    have hsz : (ByteArray.mk acc.toArray).size ≤ 1048576 := by rw [size_len]; simp; omega
    by_cases hlt : k < s.size
    · have c1 := fun W => l2_code s k hlt W (by unfold maxLen; omega)
      rw [drop_at s k hlt] at HR c1
      cases hc : codeL (s[k] :: s.data.toList.drop (k + 1)) with
      | none =>
        rw [meansL_none hc] at HR
        unfold codeI at c1
        rw [hc] at c1
        clear hc
        simp only at c1
        have hx : (ByteArray.mk acc.toArray) ++ s.extract k (k + 1) = ⟨(acc ++ [s[k]]).toArray⟩ := by
          apply ByteArray.ext
          apply Array.toList_inj.mp
          rw [ByteArray.data_append, Array.toList_append, ByteArray.data_extract, Array.toList_extract, List.extract_eq_take_drop, drop_at s k hlt]
          simp
        have hsz1 : (s.extract k (k + 1)).size ≤ 1 := by simp; omega
        go_wp2_with fail
        refine (c1 _).mono ?_
        rintro e w' ⟨rfl, rfl⟩
        clear c1
        go_wp2
        go_roundw
        case rel => exact ⟨k + 1, acc ++ [s[k]], by omega, by go_num, rfl, by simp; omega, Lib.hid (by rw [HR.out]; simp), hbel⟩
        case measure => simp [intOf]; omega
      | some n =>
        have hn : n < 256 := codeL_lt hc
        have h3 : k + 3 ≤ s.size := by
          rcases Nat.lt_or_ge (s[k] :: s.data.toList.drop (k + 1)).length 3 with h | h
          · rw [codeL_short h] at hc; cases hc
          · simp only [List.length_cons, List.length_drop] at h; rw [size_len]; omega
        rw [meansL_some hc, List.drop_drop] at HR
        unfold codeI at c1
        rw [hc] at c1
        clear hc
        simp only at c1
        have hcv := fun W => run_conv1 (P := Tryd.prog) 22 9 5 5 Tryd.underlying22 Tryd.underlying5 Tryd.underlying9 W (n : Int) (by omega) (by omega)
        have hw := wrap_u8 n hn
        go_wp2_with fail
        refine (c1 _).mono ?_
        rintro e w' ⟨rfl, rfl⟩
        clear c1
        go_wp2
        go_roundw
        case rel => exact ⟨k + 3, acc ++ [UInt8.ofNat n], by omega, by go_num, congrArg Value.string (cat_mk acc [UInt8.ofNat n]), by simp; omega, Lib.hid (by rw [HR.out, List.append_assoc]; rfl), hbel.alloc hbel.size _⟩
        case measure => simp [intOf]; omega
    · go_wp2
      go_ret
      have e : R = acc := by rw [HR.out, drop_end s k (by omega), meansL_nil, List.append_nil]
      rw [e]
      exact ⟨rfl, hbel⟩
end Go.Proofs.YthmljebpjohibaaDoor
