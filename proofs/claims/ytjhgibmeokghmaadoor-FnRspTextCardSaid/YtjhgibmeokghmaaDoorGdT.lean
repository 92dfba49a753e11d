/- Walks: the laws' helper that holds two lists of texts against each other. -/
import Derived.Test.YtjhgibmeokghmaaDoorEq
namespace Go.Proofs.YtjhgibmeokghmaaDoor
open Go.RowKit

set_option maxHeartbeats 400000 in
theorem gd_texts (v1 v2 : Value) (l : List (List UInt8)) (w : World) (h1 : Rd1 w v1 (l.map strV)) (h2 : Rd1 w v2 (l.map strV)) :
    Calls Tryd.prog 32 #[v1, v2] w fun e w' => e = .returned (.bool true) ∧ ∃ n, w' = w.drewN n := by
  have hmax : l.length ≤ 9223372036854775807 := by
    rcases h1 with ⟨_, h⟩ | ⟨_, _, _, _, a, b, _⟩
    · have := List.map_eq_nil_iff.1 h; subst this; simp
    · unfold maxLen at b; simp at a; omega
  rcases h1 with ⟨rfl, hn⟩ | ⟨b1, o1, c1, rfl, _, _, hc1⟩
  · have hl : l = [] := List.map_eq_nil_iff.1 hn
    subst hl
    have e2 : ∃ a c, v2 = .slice a 0 c := by
      rcases h2 with ⟨rfl, _⟩ | ⟨b2, o2, c2, rfl, _, _, _⟩
      · exact ⟨_, _, rfl⟩
      · exact ⟨_, _, rfl⟩
    obtain ⟨a, c, rfl⟩ := e2
    go_enter Tryd.func32, Tryd.ntmps32
    go_wp2
    go_loopw [5] (fun i wr => i = .int .i64 0 ∧ ∃ n, wr = w.drewN n) (fun _ _ => 0)
    case atStart => exact ⟨rfl, 0, rfl⟩
    case round =>
      obtain ⟨rfl, n, rfl⟩ := hrel
      go_wp2
      go_ret
      exact ⟨rfl, n, rfl⟩
  · have e2 : ∃ a c, v2 = .slice a l.length c ∧ ∀ k (hk : k < l.length), ∃ b2 o2, a = some ⟨b2, o2, none⟩ ∧ w.cell? ⟨b2, o2 + k, none⟩ = some (strV (l.getD k [])) := by
      rcases h2 with ⟨rfl, hn⟩ | ⟨b2, o2, c2, rfl, _, _, hc2⟩
      · have hl : l = [] := List.map_eq_nil_iff.1 hn
        subst hl
        exact ⟨_, _, rfl, fun k hk => by simp at hk⟩
      · refine ⟨_, _, by rw [List.length_map], fun k hk => ⟨b2, o2, rfl, ?_⟩⟩
        apply hc2
        rw [List.getElem?_map, List.getElem?_eq_getElem hk]
        simp [hk]
    obtain ⟨a2, c2, rfl, hc2⟩ := e2
    have hc1' : ∀ k (_ : k < l.length), w.cell? ⟨b1, o1 + k, none⟩ = some (strV (l.getD k [])) := fun k hk => by
      apply hc1
      rw [List.getElem?_map, List.getElem?_eq_getElem hk]
      simp [hk]
    rw [List.length_map]
    clear hc1
    have HC1 := Lib.hid hc1'; have HC2 := Lib.hid hc2; clear hc1' hc2
    go_enter Tryd.func32, Tryd.ntmps32
    go_wp2
    go_loopw [5] (fun i wr => ∃ k : Nat, k ≤ l.length ∧ i = .int .i64 k ∧ ∃ n, wr = w.drewN n) (fun i _ => l.length - (intOf i).toNat)
    case atStart => exact ⟨0, Nat.zero_le _, rfl, 0, rfl⟩
    case round =>
      obtain ⟨k, hk, rfl, n, rfl⟩ := hrel
      by_cases hlt : k < l.length
      · have g1 := HC1.out k hlt
        obtain ⟨b2, o2, rfl, g2⟩ := HC2.out k hlt
        unfold strV at g1 g2
        generalize (ByteArray.mk (l.getD k []).toArray) = y at g1 g2
        go_wp2_with fail
        go_quiet (fail)
        all_goals go_wp2
        go_roundw
        case rel => exact ⟨k + 1, by omega, by go_num, _, rfl⟩
        case measure => simp [intOf]; omega
      · go_wp2
        go_ret
        exact ⟨rfl, n, rfl⟩

end Go.Proofs.YtjhgibmeokghmaaDoor
