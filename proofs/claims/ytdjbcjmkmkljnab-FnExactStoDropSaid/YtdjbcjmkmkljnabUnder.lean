/- Places: what lies under a path. -/
import Derived.Test.YtdjbcjmkmkljnabUri
namespace Go.Proofs.Ytdjbcjmkmkljnab
open Go.RowKit

def endsSl (l : List UInt8) : Bool := l.getLast? == some 47
def inTop (top : List UInt8) : List UInt8 := if endsSl top = true then top else top ++ [47]
def preB (h l : List UInt8) : Bool := h.isPrefixOf l
def underB (top l : List UInt8) : Bool := (pathL l == top) || preB (inTop top) (pathL l)

theorem preB_ext (s h : ByteArray) : preB h.data.toList s.data.toList = ((s.extract 0 h.size).toList == h.toList) := by
  unfold preB
  rw [Bool.eq_iff_iff, List.isPrefixOf_iff_prefix, beq_iff_eq, List.prefix_iff_eq_take, ext_take, Lib.toList_data, Lib.toList_data, ← size_len]
  exact ⟨fun e => e.symm, fun e => e.symm⟩
theorem preB_long (s h : ByteArray) (hl : s.size < h.size) : preB h.data.toList s.data.toList = false := by
  cases hb : preB h.data.toList s.data.toList with
  | false => rfl
  | true =>
    unfold preB at hb
    rw [List.isPrefixOf_iff_prefix] at hb
    have := hb.length_le
    rw [size_len, size_len] at hl
    omega

set_option maxHeartbeats 400000 in
theorem l1_starts (s h : ByteArray) (w : World) (_hs : s.size ≤ maxLen) (_hh : h.size ≤ maxLen) :
    Calls Try.prog 45 #[.string s, .string h] w fun e w' => e = .returned (.bool (preB h.data.toList s.data.toList)) ∧ w = w' := by
  unfold maxLen at _hs _hh
  by_cases hl : h.size ≤ s.size
  · rw [preB_ext s h]
    go_enter Try.func45, Try.ntmps45
    go_wp2
    go_ret
    exact ⟨rfl, rfl⟩
  · rw [preB_long s h (by omega)]
    go_enter Try.func45, Try.ntmps45
    go_wp2
    go_ret
    exact ⟨rfl, rfl⟩

set_option maxHeartbeats 400000 in
theorem has_prefix (s h : ByteArray) (w : World) (_hs : s.size ≤ maxLen) (_hh : h.size ≤ maxLen) :
    Calls Try.prog 49 #[.string s, .string h] w fun e w' => e = .returned (.bool (preB h.data.toList s.data.toList)) ∧ w = w' := by
  unfold maxLen at _hs _hh
  by_cases hl : h.size ≤ s.size
  · rw [preB_ext s h]
    go_enter Try.func49, Try.ntmps49
    go_wp2
    go_ret
    exact ⟨rfl, rfl⟩
  · rw [preB_long s h (by omega)]
    go_enter Try.func49, Try.ntmps49
    go_wp2
    go_ret
    exact ⟨rfl, rfl⟩

theorem endsSl_at (s : ByteArray) (h : 1 ≤ s.size) : endsSl s.data.toList = (s[s.size - 1] == 47) := by
  unfold endsSl
  have e := at_get s (s.size - 1) (by omega)
  rw [List.getLast?_eq_getElem?, ← size_len, e]; rfl
theorem endsSl_ext (s : ByteArray) (h : 1 ≤ s.size) : endsSl s.data.toList = ((s.extract (s.size - 1) s.size).toList == [47]) := by
  rw [endsSl_at s h, ext_drop, Lib.toList_data]
  simp only
  rw [drop_at s (s.size - 1) (by omega), drop_end s _ (by omega)]
  simp
theorem endsSl_nil (s : ByteArray) (h : s.size = 0) : endsSl s.data.toList = false := by
  rw [size_len] at h
  rw [List.eq_nil_of_length_eq_zero h]; rfl

set_option maxHeartbeats 400000 in
theorem has_suffix (s : ByteArray) (w : World) (hs : s.size ≤ maxLen) :
    Calls Try.prog 48 #[.string s, .string ⟨#[47]⟩] w fun e w' => e = .returned (.bool (endsSl s.data.toList)) ∧ w = w' := by
  unfold maxLen at hs
  by_cases hl : 1 ≤ s.size
  · rw [endsSl_ext s hl]
    go_enter Try.func48, Try.ntmps48
    go_wp2
    go_ret
    exact ⟨rfl, rfl⟩
  · rw [endsSl_nil s (by omega)]
    go_enter Try.func48, Try.ntmps48
    go_wp2
    go_ret
    exact ⟨rfl, rfl⟩

theorem size_sl (a : ByteArray) : (a ++ ⟨#[47]⟩ : ByteArray).size = a.size + 1 := by rw [ByteArray.size_append]; rfl
theorem inTop_yes {s : ByteArray} (h : endsSl s.data.toList = true) : inTop s.data.toList = s.data.toList := by unfold inTop; rw [if_pos h]
theorem inTop_no {s : ByteArray} (h : endsSl s.data.toList = false) : inTop s.data.toList = (s ++ ⟨#[47]⟩ : ByteArray).data.toList := by unfold inTop; rw [h]; simp
theorem pathL_len (l : List UInt8) : (pathL l).length ≤ l.length := (cutL_len l 63).1

set_option maxHeartbeats 800000 in
theorem spec_under (t s : ByteArray) (w : World) (ht : t.size ≤ 1048576) (hs : s.size ≤ 1048576) :
    Calls Try.prog 31 #[.string t, .string s] w fun e w' => e = .returned (.bool (underB t.data.toList s.data.toList)) ∧ ∃ n, w' = w.drewN n := by
  have c1 := fun W => spec_path s W (by unfold maxLen; omega)
  have hp : (ByteArray.mk (pathL s.data.toList).toArray).size ≤ 1048576 := by
    have := pathL_len s.data.toList; rw [size_len]; rw [size_len] at hs; simp only; omega
  have hpl : (ByteArray.mk (pathL s.data.toList).toArray).data.toList = pathL s.data.toList := by simp
  unfold strV at c1
  unfold underB
  rw [← hpl]
  generalize (ByteArray.mk (pathL s.data.toList).toArray) = p at hp c1
  clear hpl
  obtain ⟨R, hR⟩ : ∃ R : Bool, R = ((p.data.toList == t.data.toList) || preB (inTop t.data.toList) p.data.toList) := ⟨_, rfl⟩
  rw [← hR]
  have c2 := fun W => l1_starts p t W (by unfold maxLen; omega) (by unfold maxLen; omega)
  have c3 := fun W => l1_starts p (t ++ ⟨#[47]⟩) W (by unfold maxLen; omega) (by unfold maxLen; rw [size_sl]; omega)
  rw [← Lib.toList_data p, ← Lib.toList_data t] at hR
  by_cases he : (p.toList == t.toList) = true
  · rw [he, Bool.true_or] at hR
    subst hR
    go_enter Try.func31, Try.ntmps31
    go_wp2_with fail
    refine (c1 _).mono ?_
    rintro e w1 ⟨rfl, n1, rfl⟩
    clear c1 c2 c3
    go_wp2
    go_ret
    exact ⟨rfl, n1, rfl⟩
  · have he' : (p.toList == t.toList) = false := by simpa using he
    rw [he', Bool.false_or, Lib.toList_data] at hR
    clear he
    cases hsl : endsSl t.data.toList with
    | true =>
      rw [inTop_yes hsl, Lib.toList_data] at hR
      rw [← hR] at c2
      clear c3
      have h1 : 1 ≤ t.size := by
        rcases Nat.eq_zero_or_pos t.size with h | h
        · rw [endsSl_nil t h] at hsl; cases hsl
        · exact h
      rw [endsSl_at t h1, beq_iff_eq] at hsl
      have hk : ((t[t.size - 1].toNat : Int) == 47) = true := by rw [hsl]; rfl
      clear hR hsl
      go_enter Try.func31, Try.ntmps31
      go_wp2_with fail
      refine (c1 _).mono ?_
      rintro e w1 ⟨rfl, n1, rfl⟩
      clear c1
      go_wp2_with fail
      refine (c2 _).mono ?_
      rintro e w2 ⟨rfl, rfl⟩
      go_wp2
      go_ret
      exact ⟨rfl, n1, rfl⟩
    | false =>
      rw [inTop_no hsl, Lib.toList_data] at hR
      rw [← hR] at c3
      clear c2
      have hz := size_sl t
      have hk : t.size = 0 ∨ (1 ≤ t.size ∧ ∃ h : t.size - 1 < t.size, ((t[t.size - 1].toNat : Int) == 47) = false) := by
        rcases Nat.eq_zero_or_pos t.size with h | h
        · exact .inl h
        · refine .inr ⟨h, by omega, ?_⟩
          rw [endsSl_at t h] at hsl
          have hne : t[t.size - 1] ≠ 47 := by simpa using hsl
          rw [beq_eq_false_iff_ne]; intro h2
          exact hne (UInt8.toNat_inj.mp (by have e : (47 : UInt8).toNat = 47 := rfl; omega))
      clear hR hsl
      rcases hk with hk | ⟨hk1, hk2, hk3⟩
      · go_enter Try.func31, Try.ntmps31
        go_wp2_with fail
        refine (c1 _).mono ?_
        rintro e w1 ⟨rfl, n1, rfl⟩
        clear c1
        go_wp2_with fail
        refine (c3 _).mono ?_
        rintro e w2 ⟨rfl, rfl⟩
        go_wp2
        go_ret
        exact ⟨rfl, n1, rfl⟩
      · go_enter Try.func31, Try.ntmps31
        go_wp2_with fail
        refine (c1 _).mono ?_
        rintro e w1 ⟨rfl, n1, rfl⟩
        clear c1
        go_wp2_with fail
        refine (c3 _).mono ?_
        rintro e w2 ⟨rfl, rfl⟩
        go_wp2
        go_ret
        exact ⟨rfl, n1, rfl⟩

set_option maxHeartbeats 800000 in
theorem impl_under (t s : ByteArray) (w : World) (ht : t.size ≤ 1048576) (hs : s.size ≤ 1048576) :
    Calls Try.prog 35 #[.string t, .string s] w fun e w' => e = .returned (.bool (underB t.data.toList s.data.toList)) ∧ Below w.heap.size w w' := by
  have c1 := fun W => impl_path s W (by omega)
  have hp : (ByteArray.mk (pathL s.data.toList).toArray).size ≤ 1048576 := by
    have := pathL_len s.data.toList; rw [size_len]; rw [size_len] at hs; simp only; omega
  have hpl : (ByteArray.mk (pathL s.data.toList).toArray).data.toList = pathL s.data.toList := by simp
  unfold strV at c1
  unfold underB
  rw [← hpl]
  generalize (ByteArray.mk (pathL s.data.toList).toArray) = p at hp c1
  clear hpl
  obtain ⟨R, hR⟩ : ∃ R : Bool, R = ((p.data.toList == t.data.toList) || preB (inTop t.data.toList) p.data.toList) := ⟨_, rfl⟩
  rw [← hR]
  have c0 := fun W => has_suffix t W (by unfold maxLen; omega)
  have c2 := fun W => has_prefix p t W (by unfold maxLen; omega) (by unfold maxLen; omega)
  have c3 := fun W => has_prefix p (t ++ ⟨#[47]⟩) W (by unfold maxLen; omega) (by unfold maxLen; rw [size_sl]; omega)
  have hz := size_sl t
  rw [← Lib.toList_data p, ← Lib.toList_data t] at hR
  by_cases he : (p.toList == t.toList) = true
  · rw [he, Bool.true_or] at hR
    subst hR
    generalize endsSl t.data.toList = sl at c0
    cases sl
    all_goals go_enter Try.func35, Try.ntmps35
    all_goals go_wp2_with fail
    all_goals refine (c1 _).mono ?_
    all_goals rintro e w1 ⟨rfl, hb⟩
    all_goals go_wp2_with fail
    all_goals refine (c0 _).mono ?_
    all_goals rintro e w2 ⟨rfl, rfl⟩
    all_goals clear c0 c1 c2 c3
    all_goals go_wp2
    all_goals go_ret
    all_goals exact ⟨rfl, hb⟩
  · have he' : (p.toList == t.toList) = false := by simpa using he
    rw [he', Bool.false_or, Lib.toList_data] at hR
    clear he
    cases hsl : endsSl t.data.toList with
    | true =>
      rw [inTop_yes hsl, Lib.toList_data] at hR
      rw [← hR] at c2
      rw [hsl] at c0
      clear c3 hR hsl
      go_enter Try.func35, Try.ntmps35
      go_wp2_with fail
      refine (c1 _).mono ?_
      rintro e w1 ⟨rfl, hb⟩
      go_wp2_with fail
      refine (c0 _).mono ?_
      rintro e w2 ⟨rfl, rfl⟩
      go_wp2_with fail
      refine (c2 _).mono ?_
      rintro e w2 ⟨rfl, rfl⟩
      go_wp2
      go_ret
      exact ⟨rfl, hb⟩
    | false =>
      rw [inTop_no hsl, Lib.toList_data] at hR
      rw [← hR] at c3
      rw [hsl] at c0
      clear c2 hR hsl
      go_enter Try.func35, Try.ntmps35
      go_wp2_with fail
      refine (c1 _).mono ?_
      rintro e w1 ⟨rfl, hb⟩
      go_wp2_with fail
      refine (c0 _).mono ?_
      rintro e w2 ⟨rfl, rfl⟩
      go_wp2_with fail
      refine (c3 _).mono ?_
      rintro e w2 ⟨rfl, rfl⟩
      go_wp2
      go_ret
      exact ⟨rfl, hb⟩

namespace Lw
end Lw
end Go.Proofs.Ytdjbcjmkmkljnab
