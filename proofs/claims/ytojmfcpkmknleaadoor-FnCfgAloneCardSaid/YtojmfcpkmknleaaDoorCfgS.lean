/- Walks: houses, by the specification. -/
import Derived.Test.YtojmfcpkmknleaaDoorCfgM
import Derived.Test.YtojmfcpkmknleaaDoorHokD
import Derived.Deep.AppendSrc
namespace Go.Proofs.YtojmfcpkmknleaaDoor
open Go.RowKit

set_option maxHeartbeats 400000 in
theorem l1_inI (n lo hi : Int) (w : World) :
    Calls Tryd.prog 29 #[.int .i64 n, .int .i64 lo, .int .i64 hi] w fun e w' => e = .returned (.bool (inI n lo hi)) ∧ w = w' := by
  unfold inI
  by_cases h1 : lo ≤ n
  · by_cases h2 : n ≤ hi
    all_goals
      go_enter Tryd.func29, Tryd.ntmps29
      go_wp2
      go_ret
      exact ⟨by simp [h1, h2], rfl⟩
  · go_enter Tryd.func29, Tryd.ntmps29
    go_wp2
    go_ret
    exact ⟨by simp; omega, rfl⟩

theorem hasL_take {L : List ByteArray} {k : Nat} {x s : ByteArray} (hk : L[k]? = some x) (h : hasL (L.take k) s = false) (e : x ≠ s) : hasL (L.take (k + 1)) s = false := by
  rw [List.take_add_one, hk]
  unfold hasL at *
  rw [List.any_append, h]
  simp [e]

set_option maxHeartbeats 800000 in
theorem l5_has (v : Value) (L : List ByteArray) (s : ByteArray) (w : World) (hS : SRow w v L) :
    Calls Tryd.prog 28 #[v, .string s] w fun e w' => e = .returned (.bool (hasL L s)) ∧ w = w' := by
  obtain ⟨a, c, rfl, h1, h2, h3⟩ := hS
  unfold maxLen at h2
  have H3 := Lib.hid h3
  clear h3
  go_enter Tryd.func28, Tryd.ntmps28
  go_wp2_with fail
  go_loop [5] (fun i => ∃ k : Nat, k ≤ L.length ∧ i = .int .i64 k ∧ hasL (L.take k) s = false) (fun i => L.length - (intOf i).toNat)
  case atStart => exact ⟨0, Nat.zero_le _, rfl, rfl⟩
  case round =>
    obtain ⟨k, hk, rfl, hno⟩ := hrel
    by_cases hlt : k < L.length
    · obtain ⟨x, hg⟩ : ∃ x, L[k]? = some x := ⟨_, List.getElem?_eq_getElem hlt⟩
      obtain ⟨b, o, ea, _, c1⟩ := H3.out k x hg
      subst ea
      by_cases e : x = s
      · subst e
        have se := strh_same x
        have hr : hasL L x = true := hasL_iff.2 (List.mem_of_getElem? hg)
        have HR := Lib.hid hr
        clear hg hr hno
        go_wp2
        go_ret
        rw [HR.out]
        exact ⟨rfl, rfl⟩
      · have se := strh_ne e
        have HN := Lib.hid (hasL_take hg hno e)
        clear hg hno
        go_wp2
        go_round
        case rel => exact ⟨k + 1, by omega, by go_num, HN.out⟩
        case measure => simp [intOf]; omega
    · have hkl : k = L.length := by omega
      rw [hkl, List.take_length] at hno
      have HN := Lib.hid hno
      clear hno
      go_wp2
      go_ret
      rw [HN.out]
      exact ⟨rfl, rfl⟩
end Go.Proofs.YtojmfcpkmknleaaDoor
