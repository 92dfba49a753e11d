/- Walks: the laws' helpers on texts. -/
import Derived.Test.YtmeblmoinanciaaParts
import Derived.Test.YtmeblmoinanciaaEq
import Derived.Test.YtmeblmoinanciaaDraw3
namespace Go.Proofs.Ytmeblmoinanciaa
open Go.RowKit

set_option maxHeartbeats 400000 in
theorem gd_texts (v1 v2 : Value) (l : List (List UInt8)) (w : World) (h1 : Rd1 w v1 (l.map strV)) (h2 : Rd1 w v2 (l.map strV)) :
    Calls Try.prog 10 #[v1, v2] w fun e w' => e = .returned (.bool true) ∧ ∃ n, w' = w.drewN n := by
  have hmax : l.length ≤ 9223372036854775807 := by
    rcases h1 with ⟨_, h⟩ | ⟨_, _, _, _, a, b, _⟩
    · have := List.map_eq_nil_iff.1 h; subst this; simp
    · unfold maxLen at b; simp at a; omega
  rcases h1 with ⟨rfl, hn⟩ | ⟨b1, o1, c1, rfl, _, _, hc1⟩
  · have hl : l = [] := List.map_eq_nil_iff.1 hn
    subst hl
    have e2 : ∃ a c, v2 = .slice a 0 c := by
      rcases h2 with ⟨rfl, _⟩ | ⟨b2, o2, c2, rfl, _, _, _⟩
      · exact ⟨_, _, rfl⟩
      · exact ⟨_, _, rfl⟩
    obtain ⟨a, c, rfl⟩ := e2
    go_enter Try.func10, Try.ntmps10
    go_wp2
    go_loopw [5] (fun i wr => i = .int .i64 0 ∧ ∃ n, wr = w.drewN n) (fun _ _ => 0)
    case atStart => exact ⟨rfl, 0, rfl⟩
    case round =>
      obtain ⟨rfl, n, rfl⟩ := hrel
      go_wp2
      go_ret
      exact ⟨rfl, n, rfl⟩
  · have e2 : ∃ a c, v2 = .slice a l.length c ∧ ∀ k (hk : k < l.length), ∃ b2 o2, a = some ⟨b2, o2, none⟩ ∧ w.cell? ⟨b2, o2 + k, none⟩ = some (strV (l.getD k [])) := by
      rcases h2 with ⟨rfl, hn⟩ | ⟨b2, o2, c2, rfl, _, _, hc2⟩
      · have hl : l = [] := List.map_eq_nil_iff.1 hn
        subst hl
        exact ⟨_, _, rfl, fun k hk => by simp at hk⟩
      · refine ⟨_, _, by rw [List.length_map], fun k hk => ⟨b2, o2, rfl, ?_⟩⟩
        apply hc2
        rw [List.getElem?_map, List.getElem?_eq_getElem hk]
        simp [hk]
    obtain ⟨a2, c2, rfl, hc2⟩ := e2
    have hc1' : ∀ k (_ : k < l.length), w.cell? ⟨b1, o1 + k, none⟩ = some (strV (l.getD k [])) := fun k hk => by
      apply hc1
      rw [List.getElem?_map, List.getElem?_eq_getElem hk]
      simp [hk]
    rw [List.length_map]
    clear hc1
    have HC1 := Lib.hid hc1'; have HC2 := Lib.hid hc2; clear hc1' hc2
    go_enter Try.func10, Try.ntmps10
    go_wp2
    go_loopw [5] (fun i wr => ∃ k : Nat, k ≤ l.length ∧ i = .int .i64 k ∧ ∃ n, wr = w.drewN n) (fun i _ => l.length - (intOf i).toNat)
    case atStart => exact ⟨0, Nat.zero_le _, rfl, 0, rfl⟩
    case round =>
      obtain ⟨k, hk, rfl, n, rfl⟩ := hrel
      by_cases hlt : k < l.length
      · have g1 := HC1.out k hlt
        obtain ⟨b2, o2, rfl, g2⟩ := HC2.out k hlt
        unfold strV at g1 g2
        generalize (ByteArray.mk (l.getD k []).toArray) = y at g1 g2
        go_wp2_with fail
        go_quiet (fail)
        all_goals go_wp2
        go_roundw
        case rel => exact ⟨k + 1, by omega, by go_num, _, rfl⟩
        case measure => simp [intOf]; omega
      · go_wp2
        go_ret
        exact ⟨rfl, n, rfl⟩

def hasB (l : List UInt8) (c : UInt8) : Bool := decide (c ∈ l)
theorem hasB_yes {l : List UInt8} {c : UInt8} (h : c ∈ l) : hasB l c = true := decide_eq_true h
theorem hasB_no {l : List UInt8} {c : UInt8} (h : c ∉ l) : hasB l c = false := decide_eq_false h

set_option maxHeartbeats 400000 in
theorem gd_has (s : ByteArray) (c : UInt8) (w : World) (hs : s.size ≤ maxLen) :
    Calls Try.prog 12 #[.string s, .int .u8 c.toNat] w fun e w' => e = .returned (.bool (hasB s.data.toList c)) ∧ w = w' := by
  unfold maxLen at hs
  go_enter Try.func12, Try.ntmps12
  go_wp2_with fail
  go_loop [5] (fun i => ∃ k : Nat, k ≤ s.size ∧ i = .int .i64 k ∧ c ∉ s.data.toList.take k) (fun i => s.size - (intOf i).toNat)
  case atStart => exact ⟨0, Nat.zero_le _, rfl, by simp⟩
  case round =>
    obtain ⟨k, hk, rfl, hno⟩ := hrel
    by_cases hlt : k < s.size
    · go_wp2
      · have he : ((s[k].toNat : Int) == (c.toNat : Int)) = true := by assumption
        go_ret
        have e : c ∈ s.data.toList := by
          have := at_get s k hlt
          rw [u8_of_int he] at this
          exact List.mem_of_getElem? this
        rw [hasB_yes e]; exact ⟨rfl, rfl⟩
      · have he : ((s[k].toNat : Int) == (c.toNat : Int)) = false := by assumption
        go_round
        case rel => exact ⟨k + 1, by omega, by go_num, notin_succ hlt hno (u8_ne_int he)⟩
        case measure => simp [intOf]; omega
    · go_wp2
      go_ret
      have e : k = s.data.toList.length := by rw [← size_len]; omega
      rw [e, List.take_length] at hno
      rw [hasB_no hno]; exact ⟨rfl, rfl⟩

set_option maxHeartbeats 400000 in
theorem draw_parts (a : Option Addr) (len cap : Nat) (zs : List Int) (w : World) (h : IsRow .u8 w a len cap zs) :
    Calls Try.prog 6 #[.slice a len cap] w fun e w' => ∃ (s : ByteArray) (c : UInt8), e = .returned (.tuple #[.string s, .int .u8 (c.toNat : Int)]) ∧ s.size ≤ 60 ∧ Below w.heap.size w w' := by
  go_enter Try.func6, Try.ntmps6
  go_wp2_with fail
  refine (draw_cut a len cap zs w h).mono ?_
  rintro e w1 ⟨s, c, rfl, hs, hb⟩
  go_wp2
  go_ret2
  exact ⟨s, c, rfl, hs, hb⟩
end Go.Proofs.Ytmeblmoinanciaa
