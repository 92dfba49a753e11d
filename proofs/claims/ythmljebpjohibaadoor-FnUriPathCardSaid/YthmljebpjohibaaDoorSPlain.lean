/- Places: walks of the model's plainest form: a step, a path or what is asked, the parts of a path. -/
import Derived.Test.YthmljebpjohibaaDoorUpper
namespace Go.Proofs.YthmljebpjohibaaDoor
open Go.RowKit

theorem u8_eqk (c k : UInt8) : ((c.toNat : Int) == (k.toNat : Int)) = (c == k) := by
  rw [Bool.eq_iff_iff, beq_iff_eq, beq_iff_eq]
  exact ⟨fun h => UInt8.toNat_inj.mp (by omega), fun h => by rw [h]⟩
theorem ofNat_toNat {n : Nat} (h : n < 256) : (UInt8.ofNat n).toNat = n := by simp; omega
theorem codeI_some {l : List UInt8} {n : Nat} (h : codeL l = some n) : codeI l = n := by unfold codeI; rw [h]
theorem codeI_none {l : List UInt8} (h : codeL l = none) : codeI l = -1 := by unfold codeI; rw [h]

set_option maxHeartbeats 800000 in
theorem step_doubt (s : ByteArray) (k n : Nat) (asks : Bool) (hk : k < s.size) (w : World) (hs : s.size ≤ 1048576) (hc : codeL (s.data.toList.drop k) = some n) (hd : doubtB n = true) :
    Calls Tryd.prog 53 #[.string s, .int .i64 k, .bool asks] w fun e w' => e = .returned (.tuple #[.string ⟨#[]⟩, .int .i64 0]) ∧ w = w' := by
  have hn := codeL_lt hc
  have c1 := fun W => l2_code s k hk W (by unfold maxLen; omega)
  rw [codeI_some hc] at c1
  have c2 := fun W => l2_doubt n hn W
  rw [hd] at c2
  clear hc hd
  go_enter Tryd.func53, Tryd.ntmps53
  go_wp2_with fail
  refine (c1 _).mono ?_
  rintro e w' ⟨rfl, rfl⟩
  go_wp2_with fail
  refine (c2 _).mono ?_
  rintro e w' ⟨rfl, rfl⟩
  go_wp2
  go_ret2
  exact ⟨rfl, rfl⟩

set_option maxHeartbeats 800000 in
theorem step_code (s : ByteArray) (k n : Nat) (asks : Bool) (hk : k < s.size) (w : World) (hs : s.size ≤ 1048576) (hc : codeL (s.data.toList.drop k) = some n) (hd : doubtB n = false) :
    Calls Tryd.prog 53 #[.string s, .int .i64 k, .bool asks] w fun e w' => e = .returned (.tuple #[strV (putC n), .int .i64 3]) ∧ Below w.heap.size w w' := by
  have hn := codeL_lt hc
  have c1 := fun W => l2_code s k hk W (by unfold maxLen; omega)
  rw [codeI_some hc] at c1
  have c2 := fun W => l2_doubt n hn W
  rw [hd] at c2
  have c3 := fun W => l2_free (UInt8.ofNat n) W
  rw [ofNat_toNat hn] at c3
  have hw := wrap_u8 n hn
  clear hc hd
  unfold putC
  cases hf : freeB (UInt8.ofNat n) with
  | true =>
    rw [if_pos rfl]
    rw [hf] at c3
    clear hf
    have hcv := fun W => run_conv1 (P := Tryd.prog) 22 9 5 5 Tryd.underlying22 Tryd.underlying5 Tryd.underlying9 W (n : Int) (by omega) (by omega)
    go_enter Tryd.func53, Tryd.ntmps53
    go_wp2_with fail
    refine (c1 _).mono ?_
    rintro e w' ⟨rfl, rfl⟩
    go_wp2_with fail
    refine (c2 _).mono ?_
    rintro e w' ⟨rfl, rfl⟩
    go_wp2_with fail
    refine (c3 _).mono ?_
    rintro e w' ⟨rfl, rfl⟩
    clear c1 c2 c3
    go_wp2
    go_ret2
    exact ⟨rfl, (Below.refl _ _).alloc (Nat.le_refl _) _⟩
  | false =>
    rw [if_neg (by decide)]
    rw [hf] at c3
    have c4 := fun W => l2_upper n hn W
    generalize upperL n = u at c4
    clear hf
    go_enter Tryd.func53, Tryd.ntmps53
    go_wp2_with fail
    refine (c1 _).mono ?_
    rintro e w' ⟨rfl, rfl⟩
    go_wp2_with fail
    refine (c2 _).mono ?_
    rintro e w' ⟨rfl, rfl⟩
    go_wp2_with fail
    refine (c3 _).mono ?_
    rintro e w' ⟨rfl, rfl⟩
    go_wp2_with fail
    refine (c4 _).mono ?_
    rintro e w' ⟨rfl, hb⟩
    clear c1 c2 c3 c4
    go_wp2
    go_ret2
    exact ⟨rfl, hb⟩

theorem ext_one (s : ByteArray) (k : Nat) (h : k < s.size) : s.extract k (k + 1) = ⟨#[s[k]]⟩ := by
  apply ByteArray.ext
  apply Array.toList_inj.mp
  rw [ByteArray.data_extract, Array.toList_extract, List.extract_eq_take_drop, drop_at s k h]
  simp

set_option maxHeartbeats 3200000 in
theorem step_lit (s : ByteArray) (k : Nat) (asks : Bool) (hk : k < s.size) (w : World) (hs : s.size ≤ 1048576) (hc : codeL (s.data.toList.drop k) = none) :
    Calls Tryd.prog 53 #[.string s, .int .i64 k, .bool asks] w fun e w' => e = .returned (.tuple #[strV (if okLit asks s[k] = true then [s[k]] else []), .int .i64 (if okLit asks s[k] = true then 1 else 0)]) ∧ w = w' := by
  have c1 := fun W => l2_code s k hk W (by unfold maxLen; omega)
  rw [codeI_none hc] at c1
  have c2 := fun W => l2_free s[k] W
  have hx := ext_one s k hk
  have e1 := u8_eqk s[k] 47
  have e2 := u8_eqk s[k] 61
  have e3 := u8_eqk s[k] 38
  simp only [UInt8.reduceToNat, Int.cast_ofNat_Int] at e1 e2 e3
  have hsz : (s.extract k (k + 1)).size ≤ 1 := by simp; omega
  unfold okLit
  clear hc
  cases hf : freeB s[k] with
  | true =>
    rw [hf] at c2
    simp only [Bool.true_or, if_true]
    clear e1 e2 e3 hf
    cases asks
    all_goals go_enter Tryd.func53, Tryd.ntmps53
    all_goals go_wp2_with fail
    all_goals refine (c1 _).mono ?_
    all_goals rintro e w' ⟨rfl, rfl⟩
    all_goals go_wp2_with fail
    all_goals refine (c2 _).mono ?_
    all_goals rintro e w' ⟨rfl, rfl⟩
    all_goals clear c1 c2
    all_goals go_wp2
    all_goals go_ret2
    all_goals exact ⟨rfl, rfl⟩
  | false =>
    rw [hf] at c2
    clear hf
    generalize (s[k] == 47) = b1 at *
    generalize (s[k] == 61) = b2 at *
    generalize (s[k] == 38) = b3 at *
    cases asks
    · simp only [Bool.false_or, Bool.not_false, Bool.and_true, Bool.false_and, Bool.or_false]
      clear e2 e3
      cases b1
      all_goals simp only [if_true, Bool.false_eq_true, if_false]
      all_goals go_enter Tryd.func53, Tryd.ntmps53
      all_goals go_wp2_with fail
      all_goals refine (c1 _).mono ?_
      all_goals rintro e w' ⟨rfl, rfl⟩
      all_goals go_wp2_with fail
      all_goals refine (c2 _).mono ?_
      all_goals rintro e w' ⟨rfl, rfl⟩
      all_goals clear c1 c2
      all_goals go_wp2
      all_goals go_ret2
      all_goals exact ⟨rfl, rfl⟩
    · simp only [Bool.false_or, Bool.not_true, Bool.and_false, Bool.true_and]
      cases b1
      all_goals cases b2
      all_goals cases b3
      all_goals simp only [Bool.or_true, Bool.or_false, if_true, Bool.false_eq_true, if_false]
      all_goals go_enter Tryd.func53, Tryd.ntmps53
      all_goals go_wp2_with fail
      all_goals refine (c1 _).mono ?_
      all_goals rintro e w' ⟨rfl, rfl⟩
      all_goals go_wp2_with fail
      all_goals refine (c2 _).mono ?_
      all_goals rintro e w' ⟨rfl, rfl⟩
      all_goals clear c1 c2
      all_goals go_wp2
      all_goals go_ret2
      all_goals exact ⟨rfl, rfl⟩
end Go.Proofs.YthmljebpjohibaaDoor
