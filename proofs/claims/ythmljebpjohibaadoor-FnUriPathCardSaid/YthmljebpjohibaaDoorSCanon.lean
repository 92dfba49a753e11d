/- Places: the model's plainest form, whole. -/
import Derived.Test.YthmljebpjohibaaDoorSPlain
namespace Go.Proofs.YthmljebpjohibaaDoor
open Go.RowKit

theorem putC_len (n : Nat) : (putC n).length ≤ 3 ∧ 0 < (putC n).length := by unfold putC; split <;> simp [upperL]
theorem plainL_len {asks : Bool} {l r : List UInt8} (h : plainL asks l = some r) : r.length ≤ l.length := by
  induction hl : l.length using Nat.strongRecOn generalizing l r with
  | _ n ih =>
    subst hl
    match l with
    | [] => rw [plainL_nil] at h; obtain rfl := Option.some.inj h; simp
    | c :: l =>
      cases hc : codeL (c :: l) with
      | none =>
        rw [plainL_lit hc] at h
        split at h
        · obtain ⟨m, hm, rfl⟩ := Option.map_eq_some_iff.1 h
          have := ih l.length (by simp) hm rfl; simp; omega
        · cases h
      | some k =>
        have h3 : 3 ≤ (c :: l).length := by
          rcases Nat.lt_or_ge (c :: l).length 3 with h | h
          · rw [codeL_short h] at hc; cases hc
          · exact h
        rw [plainL_code hc] at h
        split at h
        · cases h
        · obtain ⟨m, hm, rfl⟩ := Option.map_eq_some_iff.1 h
          have := ih (l.drop 2).length (by simp; omega) hm rfl
          have := (putC_len k).1
          simp at *; omega

set_option maxHeartbeats 1600000 in
theorem l2_plain (s : ByteArray) (asks : Bool) (w : World) (hs : s.size ≤ 1048576) :
    Calls Tryd.prog 37 #[.string s, .bool asks] w fun e w' => e = .returned (strV ((plainL asks s.data.toList).getD [])) ∧ Below w.heap.size w w' := by
  obtain ⟨R, hR⟩ : ∃ R, R = plainL asks s.data.toList := ⟨_, rfl⟩
  rw [← hR]
  have HT := Lib.hid hR
  have hR0 := Lib.hid (show R = (plainL asks (s.data.toList.drop 0)).map (([] : List UInt8) ++ ·) by rw [hR]; simp)
  clear hR
  go_enter Tryd.func37, Tryd.ntmps37
  go_wp2_with fail
  go_loopw [5, 6] (fun out i wr => ∃ (k : Nat) (acc : List UInt8), k ≤ s.size ∧ i = .int .i64 k ∧ out = .string ⟨acc.toArray⟩ ∧ acc.length ≤ k ∧ Hid (R = (plainL asks (s.data.toList.drop k)).map (acc ++ ·)) ∧ Below w.heap.size w wr) (fun _ i _ => s.size - (intOf i).toNat)
  case atStart => exact ⟨0, [], Nat.zero_le _, rfl, rfl, Nat.zero_le _, hR0, Below.refl _ _⟩
  case round =>
    clear hR0
    obtain ⟨k, acc, hk, rfl, rfl, hacc, HR, hbel⟩ := hrel
    have hsz : (ByteArray.mk acc.toArray).size ≤ 1048576 := by rw [size_len]; simp; omega
    by_cases hlt : k < s.size
    · have hdr := drop_at s k hlt
      cases hc : codeL (s.data.toList.drop k) with
      | none =>
        have c1 := fun W => step_lit s k asks hlt W hs hc
        rw [hdr] at HR hc
        rw [plainL_lit hc] at HR
        clear hc hdr
        cases ho : okLit asks s[k] with
        | true =>
          rw [ho] at HR c1
          simp only [if_true] at HR c1
          have hx : (ByteArray.mk acc.toArray) ++ ⟨#[s[k]]⟩ = ⟨(acc ++ [s[k]]).toArray⟩ := cat_mk acc [s[k]]
          have hsz1 : (ByteArray.mk #[s[k]]).size = 1 := rfl
          clear ho
          go_wp2_with fail
          refine (c1 _).mono ?_
          rintro e w' ⟨rfl, rfl⟩
          clear c1
          go_wp2
          go_roundw
          case rel => exact ⟨k + 1, acc ++ [s[k]], by omega, by go_num, by first | rfl | exact congrArg Value.string hx, by simp; omega, Lib.hid (by rw [HR.out, Option.map_map]; congr 1; funext m; simp), hbel⟩
          case measure => simp [intOf]; omega
        | false =>
          rw [ho] at HR c1
          simp only [Bool.false_eq_true, if_false] at HR c1
          clear ho
          go_wp2_with fail
          refine (c1 _).mono ?_
          rintro e w' ⟨rfl, rfl⟩
          clear c1
          go_wp2
          go_ret
          refine ⟨?_, hbel⟩
          rw [HR.out]; rfl
      | some n =>
        have h3 : k + 3 ≤ s.size := by
          rcases Nat.lt_or_ge (s.data.toList.drop k).length 3 with h | h
          · rw [codeL_short h] at hc; cases hc
          · rw [List.length_drop] at h; rw [size_len]; omega
        cases hd : doubtB n with
        | true =>
          have c1 := fun W => step_doubt s k n asks hlt W hs hc hd
          rw [hdr] at HR hc
          rw [plainL_code hc, hd] at HR
          clear hc hdr hd
          go_wp2_with fail
          refine (c1 _).mono ?_
          rintro e w' ⟨rfl, rfl⟩
          clear c1
          go_wp2
          go_ret
          refine ⟨?_, hbel⟩
          rw [HR.out]; rfl
        | false =>
          have c1 := fun W => step_code s k n asks hlt W hs hc hd
          rw [hdr] at HR hc
          rw [plainL_code hc, hd, List.drop_drop] at HR
          simp only [Bool.false_eq_true, if_false] at HR
          clear hc hdr hd
          have hx : (ByteArray.mk acc.toArray) ++ ⟨(putC n).toArray⟩ = ⟨(acc ++ putC n).toArray⟩ := cat_mk acc (putC n)
          have hl := (putC_len n).1
          have hsz1 : (ByteArray.mk (putC n).toArray).size ≤ 3 := by rw [size_len]; simpa using hl
          generalize putC n = u at *
          go_wp2_with fail
          refine (c1 _).mono ?_
          rintro e w1 ⟨rfl, hb1⟩
          clear c1
          go_wp2
          go_roundw
          case rel => exact ⟨k + 3, acc ++ u, by omega, by go_num, by first | rfl | exact congrArg Value.string hx, by simp; omega, Lib.hid (by rw [HR.out, Option.map_map]; congr 1; funext m; simp), hbel.trans (hb1.mono hbel.size)⟩
          case measure => simp [intOf]; omega
    · go_wp2
      go_ret
      refine ⟨?_, hbel⟩
      rw [HR.out, drop_end s k (by omega), plainL_nil]
      simp
end Go.Proofs.YthmljebpjohibaaDoor
