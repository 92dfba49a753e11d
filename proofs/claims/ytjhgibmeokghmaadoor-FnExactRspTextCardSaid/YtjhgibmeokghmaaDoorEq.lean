/- Walks: the laws' own helpers over slices of texts: equal, marked, held. -/
import Derived.Test.YtjhgibmeokghmaaDoorOwn
import Derived.Test.YtjhgibmeokghmaaDoorRows
import Derived.WalkKit
import Derived.WalkSpells
import Derived.WalkLawsBesides
import Derived.BigQuiet
import Derived.Deep.RegionWith
import Derived.Lib.Hide
namespace Go.Proofs.YtjhgibmeokghmaaDoor
open Go.RowKit

/-- A slice that reads as a list of values of one cell each. -/
def Rd1 (w : World) (v : Value) (xs : List Value) : Prop :=
  (v = .slice none 0 0 ∧ xs = []) ∨ ∃ b o c, v = .slice (some ⟨b, o, none⟩) xs.length c ∧ xs.length ≤ c ∧ c ≤ maxLen ∧ ∀ j u, xs[j]? = some u → w.cell? ⟨b, o + j, none⟩ = some u

theorem Rd1.of_own {w : World} {base : Nat} {e : TypeId} {v : Value} {n : Nat} {xs : List Value} (h : w.ownsRow base e 1 v n xs) : Rd1 w v xs := by
  obtain ⟨hl, h | ⟨g, cap, cur, rfl, _, hh, hn, hm, hs, ht⟩⟩ := h
  · obtain ⟨rfl, rfl⟩ := h
    exact .inl ⟨rfl, List.eq_nil_of_length_eq_zero (by simpa using hl)⟩
  · have hl' : xs.length = n := by simpa using hl
    refine .inr ⟨g, 0, cap, by rw [hl'], by omega, hm, fun j u hu => ?_⟩
    have ho : w.ownsRow g e 1 (.slice (some ⟨g, 0, none⟩) n cap) n xs := ⟨hl, .inr ⟨g, cap, cur, rfl, Nat.le_refl _, hh, hn, hm, hs, ht⟩⟩
    have hj : j < xs.length := by
      rcases Nat.lt_or_ge j xs.length with h | h
      · exact h
      · rw [List.getElem?_eq_none h] at hu; cases hu
    have := ho.cellAt j (by omega)
    rw [Nat.zero_add, this, hu]

theorem Rd1.keep {w w' : World} {v : Value} {xs : List Value} (h : Rd1 w v xs) (hk : ∀ a, v.ownBlock = some a → w'.heap[a]? = w.heap[a]?) : Rd1 w' v xs := by
  rcases h with h | ⟨b, o, c, rfl, h1, h2, h3⟩
  · exact .inl h
  · exact .inr ⟨b, o, c, rfl, h1, h2, fun j u hu => (World.cell?_of_block (w := w) (hk b rfl)).trans (h3 j u hu)⟩

theorem Rd1.drewN {w : World} {v : Value} {xs : List Value} (h : Rd1 w v xs) (n : Nat) : Rd1 (w.drewN n) v xs := h

set_option maxHeartbeats 400000 in
theorem eq_strings (v1 v2 : Value) (l : List (List UInt8)) (w : World) (h1 : Rd1 w v1 (l.map strV)) (h2 : Rd1 w v2 (l.map strV)) :
    Calls Tryd.prog 37 #[v1, v2] w fun e w' => e = .returned (.bool true) ∧ ∃ n, w' = w.drewN n := by
  have hmax : l.length ≤ 9223372036854775807 := by
    rcases h1 with ⟨_, h⟩ | ⟨_, _, _, _, a, b, _⟩
    · have := List.map_eq_nil_iff.1 h; subst this; simp
    · unfold maxLen at b; simp at a; omega
  rcases h1 with ⟨rfl, hn⟩ | ⟨b1, o1, c1, rfl, _, _, hc1⟩
  · have hl : l = [] := List.map_eq_nil_iff.1 hn
    subst hl
    have e2 : ∃ a c, v2 = .slice a 0 c := by
      rcases h2 with ⟨rfl, _⟩ | ⟨b2, o2, c2, rfl, _, _, _⟩
      · exact ⟨_, _, rfl⟩
      · exact ⟨_, _, rfl⟩
    obtain ⟨a, c, rfl⟩ := e2
    go_enter Tryd.func37, Tryd.ntmps37
    go_wp2
    go_loopw [5] (fun i wr => i = .int .i64 0 ∧ ∃ n, wr = w.drewN n) (fun _ _ => 0)
    case atStart => exact ⟨rfl, 0, rfl⟩
    case round =>
      obtain ⟨rfl, n, rfl⟩ := hrel
      go_wp2
      go_ret
      exact ⟨rfl, n, rfl⟩
  · have e2 : ∃ a c, v2 = .slice a l.length c ∧ ∀ k (hk : k < l.length), ∃ b2 o2, a = some ⟨b2, o2, none⟩ ∧ w.cell? ⟨b2, o2 + k, none⟩ = some (strV (l.getD k [])) := by
      rcases h2 with ⟨rfl, hn⟩ | ⟨b2, o2, c2, rfl, _, _, hc2⟩
      · have hl : l = [] := List.map_eq_nil_iff.1 hn
        subst hl
        exact ⟨_, _, rfl, fun k hk => by simp at hk⟩
      · refine ⟨_, _, by rw [List.length_map], fun k hk => ⟨b2, o2, rfl, ?_⟩⟩
        apply hc2
        rw [List.getElem?_map, List.getElem?_eq_getElem hk]
        simp [hk]
    obtain ⟨a2, c2, rfl, hc2⟩ := e2
    have hc1' : ∀ k (_ : k < l.length), w.cell? ⟨b1, o1 + k, none⟩ = some (strV (l.getD k [])) := fun k hk => by
      apply hc1
      rw [List.getElem?_map, List.getElem?_eq_getElem hk]
      simp [hk]
    rw [List.length_map]
    clear hc1
    have HC1 := Lib.hid hc1'; have HC2 := Lib.hid hc2; clear hc1' hc2
    go_enter Tryd.func37, Tryd.ntmps37
    go_wp2
    go_loopw [5] (fun i wr => ∃ k : Nat, k ≤ l.length ∧ i = .int .i64 k ∧ ∃ n, wr = w.drewN n) (fun i _ => l.length - (intOf i).toNat)
    case atStart => exact ⟨0, Nat.zero_le _, rfl, 0, rfl⟩
    case round =>
      obtain ⟨k, hk, rfl, n, rfl⟩ := hrel
      by_cases hlt : k < l.length
      · have g1 := HC1.out k hlt
        obtain ⟨b2, o2, rfl, g2⟩ := HC2.out k hlt
        unfold strV at g1 g2
        generalize (ByteArray.mk (l.getD k []).toArray) = y at g1 g2
        go_wp2_with fail
        go_quiet (fail)
        all_goals go_wp2
        go_roundw
        case rel => exact ⟨k + 1, by omega, by go_num, _, rfl⟩
        case measure => simp [intOf]; omega
      · go_wp2
        go_ret
        exact ⟨rfl, n, rfl⟩
def markD : Nat → Nat → List UInt8 → List UInt8
  | 0, _, acc => acc
  | f + 1, k, acc => if k = 0 then acc else markD f (k / 10) ((48 + UInt8.ofNat (k % 10)) :: acc)
def markS (k : Nat) : List UInt8 := if k = 0 then [109, 48] else 109 :: markD 7 k []

theorem markD_zero (f : Nat) (acc : List UInt8) : markD f 0 acc = acc := by cases f <;> simp [markD]

set_option maxHeartbeats 400000 in
theorem mark_text (k : Nat) (w : World) (hk : k < 10000000) :
    Calls Tryd.prog 63 #[.int .i64 k] w fun e w' => e = .returned (strV (markS k)) ∧ Below w.heap.size w w' := by
  by_cases h0 : k = 0
  · subst h0
    go_enter Tryd.func63, Tryd.ntmps63
    go_wp2
    go_ret
    exact ⟨rfl, Below.refl _ _⟩
  · have hp : 0 < (k : Int) := by omega
    go_enter Tryd.func63, Tryd.ntmps63
    go_wp2_with fail
    go_loopw [0, 3] (fun n out wr => ∃ f j acc, n = .int .i64 (j : Nat) ∧ out = .string ⟨(acc : List UInt8).toArray⟩ ∧ j < 10 ^ f ∧ f ≤ 7 ∧ acc.length + f ≤ 7 ∧ markD f j acc = markD 7 k [] ∧ Below w.heap.size w wr) (fun n _ _ => (intOf n).toNat)
    case atStart => exact ⟨7, k, [], rfl, rfl, by omega, by omega, by simp, rfl, Below.refl _ _⟩
    case round =>
      obtain ⟨f, j, acc, rfl, rfl, hj, hf, hlen, hd, hb⟩ := hrel
      have HD := Lib.hid hd; clear hd
      have hj7 : j < 10000000 := Nat.lt_of_lt_of_le hj (Nat.le_trans (Nat.pow_le_pow_right (by omega) hf) (by decide))
      by_cases hz : 0 < j
      · have hcv := fun W => run_conv1 (P := Tryd.prog) 22 9 5 5 Tryd.underlying22 Tryd.underlying5 Tryd.underlying9 W (48 + (j : Int) % 10) (by omega) (by omega)
        have hsz : (ByteArray.mk acc.toArray).size ≤ 7 := by rw [size_len]; simp; omega
        go_wp2
        go_roundw
        case rel =>
          cases f with
          | zero => simp at hj; omega
          | succ f =>
            refine ⟨f, j / 10, (48 + UInt8.ofNat (j % 10)) :: acc, by go_num, ?_, ?_, by omega, ?_, ?_, hb.alloc hb.size _⟩
            · exact congrArg Value.string (cat_mk [48 + UInt8.ofNat (j % 10)] acc)
            · rw [Nat.pow_succ] at hj; omega
            · simp only [List.length_cons]; omega
            · have e := HD.out
              simp only [markD, if_neg (by omega : ¬ j = 0)] at e
              exact e
        case measure => simp [intOf]; omega
      · go_wp2
        go_ret
        have hj0 : j = 0 := by omega
        refine ⟨?_, hb⟩
        have e := HD.out
        rw [hj0, markD_zero] at e
        simp only [strV, markS, if_neg h0, ← e]
        exact congrArg (fun s => Ending.returned (Value.string s)) (cat_mk [109] acc)

def marks (k n : Nat) : List Value := (List.range n).map fun i => strV (markS (k + i))
theorem marks_length (k n : Nat) : (marks k n).length = n := by simp [marks]
theorem marks_get (k n i : Nat) (h : i < n) : (marks k n)[i]? = some (strV (markS (k + i))) := by simp [marks, h]
theorem marks_step (k n i : Nat) (xs : List Value) (hl : xs.length = n) (h : i < n) : ((marks k n).take i ++ xs.drop i).set i (strV (markS (k + i))) = (marks k n).take (i + 1) ++ xs.drop (i + 1) := by
  have hm := marks_length k n
  have hi : ((marks k n).take i).length = i := by rw [List.length_take]; omega
  rw [List.set_append_right _ _ (by omega), hi, Nat.sub_self, List.take_add_one, marks_get k n i h, List.append_assoc]
  rw [List.drop_eq_getElem_cons (by omega)]
  rfl

set_option maxHeartbeats 400000 in
theorem mark_strings (v : Value) (k n : Nat) (B : Nat) (xs : List Value) (w : World) (hn : k + n < 10000000) (ho : w.ownsRow B 9 1 v n xs) :
    Calls Tryd.prog 38 #[v, .int .i64 k] w fun e w' => e = .returned (.int .i64 ((k : Int) + n)) ∧ w'.ownsRow B 9 1 v n (marks k n) ∧ w.grownBy w' v.ownBlock := by
  have hxl : xs.length = n := by have := ho.1; omega
  have hform : v = .slice none 0 0 ∧ n = 0 ∨ ∃ g cap, v = .slice (some ⟨g, 0, none⟩) n cap := by
    rcases ho.2 with h | ⟨g, cap, _, h, _⟩
    · exact .inl h
    · exact .inr ⟨g, cap, h⟩
  rcases hform with ⟨rfl, rfl⟩ | ⟨g, cap, rfl⟩
  · have hx0 : xs = [] := List.eq_nil_of_length_eq_zero hxl
    subst hx0
    go_enter Tryd.func38, Tryd.ntmps38
    go_wp2
    go_loop [1, 5] (fun q i => i = .int .i64 0 ∧ q = .int .i64 k) (fun _ _ => 0)
    case atStart => exact ⟨rfl, rfl⟩
    case round =>
      obtain ⟨rfl, rfl⟩ := hrel
      go_wp2
      go_ret
      exact ⟨by simp, ho, World.grownBy.refl _ _⟩
  · have hrow : Value.ownBlock (.slice (some ⟨g, 0, none⟩) n cap) = some g := rfl
    rw [hrow]
    go_enter Tryd.func38, Tryd.ntmps38
    go_wp2
    go_loopw [1, 5] (fun q i wr => ∃ j : Nat, j ≤ n ∧ i = .int .i64 j ∧ q = .int .i64 ((k : Int) + j) ∧ wr.ownsRow B 9 1 (.slice (some ⟨g, 0, none⟩) n cap) n ((marks k n).take j ++ xs.drop j) ∧ w.grownBy wr (some g)) (fun _ i _ => n - (intOf i).toNat)
    case atStart => exact ⟨0, Nat.zero_le _, rfl, by go_num, by simpa using ho, World.grownBy.refl _ _⟩
    case round =>
      obtain ⟨j, hj, rfl, rfl, hown, hg⟩ := hrel
      by_cases hlt : j < n
      · go_wp2_with fail
        refine (mark_text (k + j) _ (by omega)).mono ?_
        rintro e w1 ⟨rfl, hb1⟩
        have hown1 := own_below hown hb1
        have hcell : w1.cell? ⟨g, j, none⟩ = some (xs[j]'(by omega)) := by
          rw [hown1.cellAt j (by omega), List.getElem?_append_right (by rw [List.length_take, marks_length]; omega), List.length_take, marks_length, List.getElem?_drop]
          rw [show j + (j - min j n) = j from by omega, List.getElem?_eq_getElem (by omega)]
        have hfr := hown1.frozenAt j
        have hst := hown1.stored j (strV (markS (k + j)))
        rw [marks_step k n j xs hxl hlt] at hst
        have hg1 := grown_trans hg (grown_of_below hb1 (some g))
        generalize xs[j]'(by omega) = y at hcell
        obtain ⟨h1, h2⟩ := hst
        unfold strV at h1 h2
        clear hown1 hown
        have H1 := Lib.hid h1; have H2 := Lib.hid h2; clear h1 h2
        unfold strV
        go_wp2
        go_roundw
        case rel => exact ⟨j + 1, by omega, by go_num, by go_num, H1.out, grown_trans hg1 H2.out⟩
        case measure => simp [intOf]; omega
      · have hjn : j = n := by omega
        subst hjn
        go_wp2
        go_ret
        refine ⟨rfl, ?_, hg⟩
        rw [List.take_of_length_le (by rw [marks_length]; exact Nat.le_refl _), List.drop_of_length_le (by omega), List.append_nil] at hown
        exact hown

theorem rd_marks_at {w : World} {v : Value} {k n : Nat} (h : Rd1 w v (marks k n)) : (v = .slice none 0 0 ∧ n = 0) ∨ ∃ b o c, v = .slice (some ⟨b, o, none⟩) n c ∧ ∀ j, j < n → w.cell? ⟨b, o + j, none⟩ = some (strV (markS (k + j))) := by
  rcases h with ⟨rfl, hn⟩ | ⟨b, o, c, rfl, _, _, hc⟩
  · have := marks_length k n; rw [hn] at this; exact .inl ⟨rfl, this.symm⟩
  · exact .inr ⟨b, o, c, by rw [marks_length], fun j hj => hc j _ (marks_get k n j hj)⟩

set_option maxHeartbeats 400000 in
theorem held_strings (v : Value) (k n : Nat) (w : World) (hn : k + n < 10000000) (hr : Rd1 w v (marks k n)) (hlt : ∀ b, v.ownBlock = some b → b < w.heap.size) :
    Calls Tryd.prog 39 #[v, .int .i64 k] w fun e w' => e = .returned (.int .i64 ((k : Int) + n)) ∧ Below w.heap.size w w' := by
  rcases rd_marks_at hr with ⟨rfl, rfl⟩ | ⟨b, o, c, rfl, hc⟩
  · go_enter Tryd.func39, Tryd.ntmps39
    go_wp2
    go_loop [1, 5] (fun q i => i = .int .i64 0 ∧ q = .int .i64 k) (fun _ _ => 0)
    case atStart => exact ⟨rfl, rfl⟩
    case round =>
      obtain ⟨rfl, rfl⟩ := hrel
      go_wp2
      go_ret
      exact ⟨by simp, Below.refl _ _⟩
  · have hb : b < w.heap.size := hlt b rfl
    clear hr hlt
    have HC := Lib.hid hc; clear hc
    go_enter Tryd.func39, Tryd.ntmps39
    go_wp2
    go_loopw [1, 5] (fun q i wr => ∃ j : Nat, j ≤ n ∧ i = .int .i64 j ∧ q = .int .i64 ((k : Int) + j) ∧ Below w.heap.size w wr) (fun _ i _ => n - (intOf i).toNat)
    case atStart => exact ⟨0, Nat.zero_le _, rfl, by go_num, Below.refl _ _⟩
    case round =>
      obtain ⟨j, hj, rfl, rfl, hbel⟩ := hrel
      by_cases hlt : j < n
      · have hcell : ∀ W, Below w.heap.size w W → W.cell? ⟨b, o + j, none⟩ = some (.string ⟨(markS (k + j)).toArray⟩) := fun W hW => (hW.cell (p := ⟨b, o + j, none⟩) hb).trans (HC.out j hlt)
        have hcw := hcell wr hbel
        have HCW := Lib.hid hcell; clear hcell
        go_wp2_with fail
        go_region_with (go_at_call 63; refine (mark_text (k + j) _ (by omega)).mono ?_; rintro e w1 ⟨rfl, hb1⟩; have hbz := hbel.trans (below_drew_left (hb1.mono hbel.size)); have hcw1 := HCW.out w1 hbz)
        all_goals
          go_wp2
          go_roundw
          case rel => exact ⟨j + 1, by omega, by go_num, by go_num, hbz⟩
          case measure => simp [intOf]; omega
      · have hjn : j = n := by omega
        subst hjn
        go_wp2
        go_ret
        exact ⟨rfl, hbel⟩
end Go.Proofs.YtjhgibmeokghmaaDoor
