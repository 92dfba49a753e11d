/- Walks: links, by the program: the iterator over all. -/
import Derived.Test.YtbhnjnoblkfckaaStB
import Derived.Test.YtbhnjnoblkfckaaReg
import Derived.Test.YtbhnjnoblkfckaaShelf
import Derived.Test.YtbhnjnoblkfckaaStR
import Derived.RangeFuncBound
import Derived.RangeFuncCalls
import Derived.RangeFuncLeaves
import Derived.Shelf.Abstract
import Derived.Shelf.RegionOpen
import Derived.OwnWalkIn
import Derived.TacticsInMore
import Derived.LoopNIn
import Derived.LoopIn
namespace Go.Proofs.Ytbhnjnoblkfckaa
open Go.RowKit Go.Maps Go.Shelf
attribute [local go_sem] Oper.semAt_some

set_option maxHeartbeats 1000000 in
theorem links_in (n : Nat) (z : Option Addr) (w : World) :
    CallsIn Fence.wide n Try.prog 12 #[.pointer z] w fun e w' => e = .returned (.func (.func 18) #[] #[.pointer (some ⟨w.heap.size, 0, none⟩)]) ∧ w' = w.alloc (.cells #[.pointer z] 39) := by
  refine callsIn_wide.2 ?_
  have hmf : ∀ (fn : Fn) (first cap : Array Value) (w : World), (Instr.makeFunc fn first cap).run Try.prog w = .ok (.func fn first cap) w := fun _ _ _ _ => rfl
  go_enter Try.func12, Try.ntmps12
  go_wp2
  go_ret
  exact ⟨rfl, rfl⟩

/-- What the iterator reads ahead of round k. -/
def LkFact (ps : List Nat) (bx c k : Nat) (W : World) : Prop :=
  (k = 0 → W.cell? ⟨bx, 0, none⟩ = some (.pointer (some ⟨c, 0, none⟩)) ∧ W.cell? ⟨c, 0, none⟩ = some (ptrO ps[0]?)) ∧ ∀ j b, k = j + 1 → ps[j]? = some b → W.cell? ⟨b, 12, none⟩ = some (ptrO ps[j + 1]?)
def lkEnc (ps : List Nat) (k : Nat) : Array Value := #[.int .i64 (k : Int), ptrO ps[k]?]

set_option maxRecDepth 100000 in
set_option maxHeartbeats 2000000 in
theorem links_seq (n : Nat) (hn : 1 ≤ n) (ps : List Nat) (bx c : Nat) (hps : ps.length ≤ 4000000) :
    CntSeq Fence.wide n Try.prog 18 #[.pointer (some ⟨bx, 0, none⟩)] (lkEnc ps) (LkFact ps bx c) ps.length := by
  intro l J Jx W hJ hJx hFact hY h0
  have hro : Fence.wide.round = none := rfl
  refine callsIn_of_wp Try.func18 rfl trivial ?_ hro
  simp only [Try.ntmps18, List.size_toArray, List.length_cons, List.length_nil, Nat.reduceAdd, Nat.reduceSub, Array.replicate_succ, Array.replicate_zero, List.push_toArray, List.append_toArray, List.nil_append, List.cons_append]
  obtain ⟨c0, c1⟩ := (hFact 0 W h0).1 rfl
  unfold ptrO at c1
  have HFa := Lib.hid hFact
  have HY := Lib.hid hY
  clear hFact hY hJ hJx
  gi_wp2
  clear c0 c1
  gi_loopw [3, 4] (fun i p wr => ∃ k : Nat, k ≤ ps.length ∧ i = .int .i64 k ∧ p = .pointer (adO ps[k]?) ∧ J k wr)
    (fun i _ _ => ps.length - (intOf i).toNat)
  case atStart => exact ⟨0, Nat.zero_le _, rfl, rfl, h0⟩
  case round =>
    obtain ⟨k, hk, rfl, rfl, hJs⟩ := hrel
    by_cases hlt : k < ps.length
    · obtain ⟨b, hb⟩ : ∃ b, ps[k]? = some b := ⟨_, List.getElem?_eq_getElem hlt⟩
      obtain ⟨fn, tmps, assign, body, hy, hR⟩ := HY.out k wr hlt hJs
      unfold lkEnc at hy
      rw [hb] at hy ⊢
      replace hy : (Instr.yield l #[.int .i64 (k : Int), .pointer (some ⟨b, 0, none⟩)]).run Try.prog wr = .ok (.round l fn tmps assign body) wr := hy
      show Code.wpIn _ _ _ _ _ { tmps := #[_, _, _, _, .pointer (some ⟨b, 0, none⟩), _, _, _, _, _, _, _, _, _, _, _, _, _, _, _, _, _], defers := [] } _
      have HB := Lib.hid hb
      clear hJs hb
      gi_wp2
      refine hR.mono ?_
      rintro e W3 (⟨rfl, hJ3⟩ | ⟨rfl, hJ3⟩)
      · have n1 := (HFa.out (k + 1) W3 hJ3).2 k b rfl HB.out
        unfold ptrO at n1
        have HJ := Lib.hid hJ3
        clear hJ3 hR hy
        gi_wp2
        go_roundw
        case rel => exact ⟨k + 1, by omega, by simp, rfl, HJ.out⟩
        case measure => simp [intOf]; omega
      · have HJ := Lib.hid hJ3
        clear hJ3 hR hy
        gi_wp2
        refine bodyPost_ret (results_none rfl _ _ _) rfl ?_
        exact ⟨⟨_, rfl⟩, .inr ⟨k + 1, by omega, HJ.out⟩⟩
    · obtain rfl : k = ps.length := by omega
      have hb : ps[ps.length]? = none := by simp
      rw [hb]
      show Code.wpIn _ _ _ _ _ { tmps := #[_, _, _, _, .pointer none, _, _, _, _, _, _, _, _, _, _, _, _, _, _, _, _, _], defers := [] } _
      clear hb
      gi_wp2
      go_end0
      exact ⟨⟨_, rfl⟩, .inl hJs⟩
end Go.Proofs.Ytbhnjnoblkfckaa
