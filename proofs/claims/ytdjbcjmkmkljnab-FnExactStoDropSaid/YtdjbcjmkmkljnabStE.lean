/- Walks: links, by the program: the first of a key goes; the iterator over all. -/
import Derived.Test.YtdjbcjmkmkljnabStD
import Derived.Test.YtdjbcjmkmkljnabStR
import Derived.RangeFuncBound
import Derived.RangeFuncCalls
import Derived.RangeFuncLeaves
import Derived.Shelf.Abstract
import Derived.Shelf.RegionOpen
import Derived.OwnWalkIn
import Derived.TacticsInMore
import Derived.LoopNIn
import Derived.LoopIn
namespace Go.Proofs.Ytdjbcjmkmkljnab
open Go.RowKit Go.Maps Go.Shelf
attribute [local go_sem] Oper.semAt_some

def outL (L : List (Nat × En)) (p : ByteArray) (m : Int) : List (Nat × En) := L.eraseP fun x => isK p m x.2
theorem outL_map (L : List (Nat × En)) (p : ByteArray) (m : Int) : (outL L p m).map (·.2) = outE (L.map (·.2)) p m := by
  unfold outL outE
  induction L with
  | nil => rfl
  | cons x r ih =>
    rw [List.eraseP_cons, List.map_cons, List.eraseP_cons]
    cases isK p m x.2 with
    | true => rfl
    | false => simpa using ih
theorem outL_none {L : List (Nat × En)} {p : ByteArray} {m : Int} (h : firstK p m L = none) : outL L p m = L := by
  unfold outL
  exact List.eraseP_of_forall_not fun x hx => by rw [firstK_none.1 h x hx]; simp
theorem outL_some {L : List (Nat × En)} {p : ByteArray} {m : Int} {b : Nat} (h : firstK p m L = some b) : ∃ A e R, L = A ++ (b, e) :: R ∧ outL L p m = A ++ R := by
  induction L with
  | nil => cases h
  | cons x r ih =>
    rw [firstK_cons] at h
    unfold outL
    rw [List.eraseP_cons]
    split at h
    · rename_i hk
      cases h
      exact ⟨[], x.2, r, rfl, by rw [hk]; rfl⟩
    · rename_i hk
      obtain ⟨A, e, R, rfl, he⟩ := ih h
      refine ⟨x :: A, e, R, rfl, ?_⟩
      rw [Bool.not_eq_true] at hk
      rw [hk]
      exact congrArg (x :: ·) he

def RfPost (c mb B N : Nat) (L : List (Nat × En)) (p : ByteArray) (m : Int) (w : World) (e' : Ending) (w' : World) : Prop :=
  e' = .returned (.tuple #[]) ∧ Chn w' c mb B (N + 1) (outL L p m) ∧ Only (Cs c mb L) w w'

set_option maxRecDepth 100000 in
set_option maxHeartbeats 1600000 in
theorem remove_first (c mb B N : Nat) (L : List (Nat × En)) (p : ByteArray) (m : Int) (w : World) (h : Chn w c mb B N L) (hp : p.size ≤ maxLen) (hm : (Lit.int .i64 m).wf = true) (hN : N < maxLen) :
    Calls Try.prog 29 #[.pointer (some ⟨c, 0, none⟩), .agg #[.string p, .int .i64 m]] w (RfPost c mb B N L p m w) := by
  have hkey := keyOf_ke hp hm
  have hmt := Try.underlying71
  obtain ⟨wA, hwA⟩ : ∃ wA, wA = w.alloc (.cells #[.string p, .int .i64 m] 51) := ⟨_, rfl⟩
  have hbA : Below w.heap.size w wA := by rw [hwA]; exact (Below.refl _ _).alloc (Nat.le_refl _) _
  have hA : Chn wA c mb B N L := h.below hbA
  obtain ⟨q0, q1, f0⟩ := ch_facts hA.head
  obtain ⟨D, hD, hK⟩ := hA.map
  obtain ⟨v, ps, hrun, hR⟩ := hD.drew.look_ok lawKe hmt (z := .pointer none) (by kernel_rfl) (zd := .nil) (zp := []) rfl hkey
  obtain ⟨k1, k2⟩ := hK.2 p m hp hm
  rw [k2] at hR
  rw [k1] at hrun
  obtain rfl := lkElem_inv hR
  cases hf : firstK p m L with
  | none =>
    rw [hf] at hrun
    replace hrun : _ = Result.ok (Value.tuple #[.pointer none, .bool false]) _ := hrun
    have HF : Hid (RfPost c mb B N L p m w (.returned (.tuple #[])) wA.drew) := Lib.hid ⟨rfl, by rw [outL_none hf]; exact (hA.mono (Nat.le_succ _)).keep (S := fun _ => False) ⟨rfl, rfl, rfl, Nat.le_refl _, fun _ _ _ => rfl⟩ (fun _ h => h.elim), only_drewN (only_of_below hbA) 1⟩
    rw [hwA] at q1 hrun HF
    clear hR k1 k2 hf hkey hK hD hA hbA hwA q0 f0 h
    go_enter Try.func29, Try.ntmps29
    go_wp2_with fail
    go_region
    go_wp2
    go_end0
    exact HF.out
  | some b =>
    rw [hf] at hrun
    replace hrun : _ = Result.ok (Value.tuple #[.pointer (some ⟨b, 0, none⟩), .bool true]) _ := hrun
    obtain ⟨A, e, R, hL, hout⟩ := outL_some hf
    have hC := remove_any c mb B N b A R e wA.drew (by rw [← hL]; exact hA.keep (S := fun _ => False) ⟨rfl, rfl, rfl, Nat.le_refl _, fun _ _ _ => rfl⟩ (fun _ h => h.elim)) hN
    have HF : Hid (∀ e' w', RmPost c mb B N A b e R wA.drew e' w' → RfPost c mb B N L p m w e' w') := Lib.hid fun e' w' hp => by
      obtain ⟨g1, g2, g3, g4⟩ := hp
      rw [← hL] at g4
      exact ⟨g1, by rw [hout]; exact g2, (only_of_below hbA).trans ⟨g4.os, g4.tape, g4.output, g4.size, g4.block⟩⟩
    rw [hwA] at q1 hrun hC HF
    clear hR k1 k2 hf hkey hK hD hA hbA hwA q0 f0 h hL hout
    go_enter Try.func29, Try.ntmps29
    go_wp2_with fail
    go_region
    go_wp2_with fail
    refine hC.mono ?_
    rintro e' w1 hp
    have HP := Lib.hid (HF.out _ _ hp)
    obtain rfl := hp.1
    clear hp hC
    go_wp2
    go_end0
    exact HP.out

set_option maxHeartbeats 1000000 in
theorem links_in (n : Nat) (z : Option Addr) (w : World) :
    CallsIn Fence.wide n Try.prog 21 #[.pointer z] w fun e w' => e = .returned (.func (.func 39) #[] #[.pointer (some ⟨w.heap.size, 0, none⟩)]) ∧ w' = w.alloc (.cells #[.pointer z] 45) := by
  refine callsIn_wide.2 ?_
  have hmf : ∀ (fn : Fn) (first cap : Array Value) (w : World), (Instr.makeFunc fn first cap).run Try.prog w = .ok (.func fn first cap) w := fun _ _ _ _ => rfl
  go_enter Try.func21, Try.ntmps21
  go_wp2
  go_ret
  exact ⟨rfl, rfl⟩

/-- What the iterator reads ahead of round k. -/
def LkFact (ps : List Nat) (bx c k : Nat) (W : World) : Prop :=
  (k = 0 → W.cell? ⟨bx, 0, none⟩ = some (.pointer (some ⟨c, 0, none⟩)) ∧ W.cell? ⟨c, 0, none⟩ = some (ptrO ps[0]?)) ∧ ∀ j b, k = j + 1 → ps[j]? = some b → W.cell? ⟨b, 12, none⟩ = some (ptrO ps[j + 1]?)
def lkEnc (ps : List Nat) (k : Nat) : Array Value := #[.int .i64 (k : Int), ptrO ps[k]?]

set_option maxRecDepth 100000 in
set_option maxHeartbeats 2000000 in
theorem links_seq (n : Nat) (hn : 1 ≤ n) (ps : List Nat) (bx c : Nat) (hps : ps.length ≤ 4000000) :
    CntSeq Fence.wide n Try.prog 39 #[.pointer (some ⟨bx, 0, none⟩)] (lkEnc ps) (LkFact ps bx c) ps.length := by
  intro l J Jx W hJ hJx hFact hY h0
  have hro : Fence.wide.round = none := rfl
  refine callsIn_of_wp Try.func39 rfl trivial ?_ hro
  simp only [Try.ntmps39, List.size_toArray, List.length_cons, List.length_nil, Nat.reduceAdd, Nat.reduceSub, Array.replicate_succ, Array.replicate_zero, List.push_toArray, List.append_toArray, List.nil_append, List.cons_append]
  obtain ⟨c0, c1⟩ := (hFact 0 W h0).1 rfl
  unfold ptrO at c1
  have HFa := Lib.hid hFact
  have HY := Lib.hid hY
  clear hFact hY hJ hJx
  gi_wp2
  clear c0 c1
  gi_loopw [3, 4] (fun i p wr => ∃ k : Nat, k ≤ ps.length ∧ i = .int .i64 k ∧ p = .pointer (adO ps[k]?) ∧ J k wr)
    (fun i _ _ => ps.length - (intOf i).toNat)
  case atStart => exact ⟨0, Nat.zero_le _, rfl, rfl, h0⟩
  case round =>
    obtain ⟨k, hk, rfl, rfl, hJs⟩ := hrel
    by_cases hlt : k < ps.length
    · obtain ⟨b, hb⟩ : ∃ b, ps[k]? = some b := ⟨_, List.getElem?_eq_getElem hlt⟩
      obtain ⟨fn, tmps, assign, body, hy, hR⟩ := HY.out k wr hlt hJs
      unfold lkEnc at hy
      rw [hb] at hy ⊢
      replace hy : (Instr.yield l #[.int .i64 (k : Int), .pointer (some ⟨b, 0, none⟩)]).run Try.prog wr = .ok (.round l fn tmps assign body) wr := hy
      show Code.wpIn _ _ _ _ _ { tmps := #[_, _, _, _, .pointer (some ⟨b, 0, none⟩), _, _, _, _, _, _, _, _, _, _, _, _, _, _, _, _, _], defers := [] } _
      have HB := Lib.hid hb
      clear hJs hb
      gi_wp2
      refine hR.mono ?_
      rintro e W3 (⟨rfl, hJ3⟩ | ⟨rfl, hJ3⟩)
      · have n1 := (HFa.out (k + 1) W3 hJ3).2 k b rfl HB.out
        unfold ptrO at n1
        have HJ := Lib.hid hJ3
        clear hJ3 hR hy
        gi_wp2
        go_roundw
        case rel => exact ⟨k + 1, by omega, by simp, rfl, HJ.out⟩
        case measure => simp [intOf]; omega
      · have HJ := Lib.hid hJ3
        clear hJ3 hR hy
        gi_wp2
        refine bodyPost_ret (results_none rfl _ _ _) rfl ?_
        exact ⟨⟨_, rfl⟩, .inr ⟨k + 1, by omega, HJ.out⟩⟩
    · obtain rfl : k = ps.length := by omega
      have hb : ps[ps.length]? = none := by simp
      rw [hb]
      show Code.wpIn _ _ _ _ _ { tmps := #[_, _, _, _, .pointer none, _, _, _, _, _, _, _, _, _, _, _, _, _, _, _, _, _], defers := [] } _
      clear hb
      gi_wp2
      go_end0
      exact ⟨⟨_, rfl⟩, .inl hJs⟩
end Go.Proofs.Ytdjbcjmkmkljnab
