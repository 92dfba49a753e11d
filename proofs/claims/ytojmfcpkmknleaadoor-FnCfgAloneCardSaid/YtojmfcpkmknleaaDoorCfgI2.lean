/- Walks: the iterator over houses, by the program. -/
import Derived.Test.YtojmfcpkmknleaaDoorCfgI1
import Derived.RangeFuncNested
import Derived.RangeFuncBound
import Derived.RangeFuncCalls
import Derived.RangeFuncLeaves
import Derived.Shelf.Abstract
import Derived.Shelf.RegionOpen
import Derived.OwnWalkIn
import Derived.TacticsInMore
import Derived.LoopNIn
import Derived.LoopIn
namespace Go.Proofs.YtojmfcpkmknleaaDoor
open Go.RowKit Go.Shelf
attribute [local go_sem] Oper.semAt_some

/-- Houses in memory, in one block; us: their names' slices. -/
def HAt (w : World) (b o : Nat) (hs : List Hs) (us : Nat → Value) : Prop :=
  b < w.heap.size ∧ ∀ j h, hs[j]? = some h → w.cell? ⟨b, o + j * 4, none⟩ = some (us j) ∧ SRow w (us j) h.names ∧
    w.cell? ⟨b, o + j * 4 + 1, none⟩ = some (.int .i64 h.key) ∧ w.cell? ⟨b, o + j * 4 + 2, none⟩ = some (.int .i64 h.maxN) ∧ w.cell? ⟨b, o + j * 4 + 3, none⟩ = some (.int .i64 h.maxB)
theorem HAt.below {w w' : World} {b o : Nat} {hs : List Hs} {us : Nat → Value} (h : HAt w b o hs us) {B : Nat} (hB : w.heap.size ≤ B) (hb : Below B w w') : HAt w' b o hs us := by
  obtain ⟨h0, h3⟩ := h
  refine ⟨Nat.lt_of_lt_of_le h0 hb.size, fun j f hj => ?_⟩
  obtain ⟨c1, hs, c2, c3, c4⟩ := h3 j f hj
  have hb' := Nat.lt_of_lt_of_le h0 hB
  exact ⟨(hb.cell (p := ⟨b, o + j * 4, none⟩) hb').trans c1, hs.below hB hb, (hb.cell (p := ⟨b, o + j * 4 + 1, none⟩) hb').trans c2,
    (hb.cell (p := ⟨b, o + j * 4 + 2, none⟩) hb').trans c3, (hb.cell (p := ⟨b, o + j * 4 + 3, none⟩) hb').trans c4⟩
theorem hat_of {w : World} {v : Value} {hs : List Hs} (h : HRow w v hs) (hn : 0 < hs.length) : ∃ b o us c, v = .slice (some ⟨b, o, none⟩) hs.length c ∧ hs.length ≤ c ∧ c ≤ maxLen ∧ HAt w b o hs us := by
  obtain ⟨a, c, rfl, h1, h2, h3⟩ := h
  obtain ⟨b, o, _, rfl, hb, _⟩ := h3 0 hs[0] (List.getElem?_eq_getElem hn)
  have each : ∀ j : Nat, ∃ u : Value, ∀ h, hs[j]? = some h → w.cell? ⟨b, o + j * 4, none⟩ = some u ∧ SRow w u h.names ∧
    w.cell? ⟨b, o + j * 4 + 1, none⟩ = some (.int .i64 h.key) ∧ w.cell? ⟨b, o + j * 4 + 2, none⟩ = some (.int .i64 h.maxN) ∧ w.cell? ⟨b, o + j * 4 + 3, none⟩ = some (.int .i64 h.maxB) := fun j => by
    cases hj : hs[j]? with
    | none => exact ⟨.int .i64 0, fun h e => by cases e⟩
    | some h =>
      obtain ⟨b', o', u, e, _, r⟩ := h3 j h hj
      obtain ⟨rfl, rfl⟩ : b = b' ∧ o = o' := by simpa using e
      exact ⟨u, fun h' e' => by cases e'; exact r⟩
  obtain ⟨us, hus⟩ := Classical.axiomOfChoice each
  exact ⟨b, o, us, c, rfl, h1, h2, hb, fun j h hj => hus j h hj⟩
theorem HAt.row {w : World} {b o c : Nat} {hs : List Hs} {us : Nat → Value} (h : HAt w b o hs us) (h1 : hs.length ≤ c) (h2 : c ≤ maxLen) : HRow w (.slice (some ⟨b, o, none⟩) hs.length c) hs :=
  ⟨_, c, rfl, h1, h2, fun j f hj => ⟨b, o, us j, rfl, h.1, h.2 j f hj⟩⟩

/-- The value of a house. -/
def hsV (us : Nat → Value) (hs : List Hs) (j : Nat) : Value := match hs[j]? with
  | some h => .agg #[us j, .int .i64 h.key, .int .i64 h.maxN, .int .i64 h.maxB]
  | none => .agg #[]
theorem hsV_at {us : Nat → Value} {hs : List Hs} {j : Nat} {h : Hs} (hj : hs[j]? = some h) : hsV us hs j = .agg #[us j, .int .i64 h.key, .int .i64 h.maxN, .int .i64 h.maxB] := by simp [hsV, hj]

/-- The first k of n places. -/
def finsTo (n k : Nat) : List (Fin n) := (List.finRange n).take k
theorem fins_succ {n k : Nat} (hk : k < n) : finsTo n (k + 1) = finsTo n k ++ [⟨k, hk⟩] := by
  unfold finsTo
  rw [List.take_add_one, List.getElem?_eq_getElem (by simpa using hk)]
  simp
theorem fins_len {n k : Nat} (hk : k ≤ n) : (finsTo n k).length = k := by simp [finsTo]; omega
theorem fins_val {n k : Nat} (hk : k ≤ n) : (finsTo n k).map Fin.val = List.range k := by
  apply List.ext_getElem
  · rw [List.length_map, fins_len hk, List.length_range]
  · intro i h1 h2
    simp [finsTo]

set_option maxHeartbeats 1000000 in
theorem houses_in (n : Nat) (v : Value) (w : World) :
    CallsIn Fence.wide n Tryd.prog 34 #[.agg #[v]] w fun e w' => e = .returned (.func (.func 50) #[] #[.pointer (some ⟨w.heap.size, 0, none⟩)]) ∧ w' = w.alloc (.cells #[v] 25) := by
  refine callsIn_wide.2 ?_
  have hmf : ∀ (fn : Fn) (first cap : Array Value) (w : World), (Instr.makeFunc fn first cap).run Tryd.prog w = .ok (.func fn first cap) w := fun _ _ _ _ => rfl
  go_enter Tryd.func34, Tryd.ntmps34
  go_wp2
  go_ret
  exact ⟨rfl, rfl⟩

set_option maxRecDepth 100000 in
set_option maxHeartbeats 2000000 in
theorem houses1_in (n : Nat) (hn : 1 ≤ n) (l Bs n₀ b o cap : Nat) (hs : List Hs) (us : Nat → Value) (hcap : hs.length ≤ 1048576) (J Jx : List (Fin hs.length) → World → Prop)
    (hY : ∀ pre (x : Fin hs.length) W, J pre W → pre.length < hs.length → YieldAt Fence.wide (n - 1) Tryd.prog l #[.int .i64 (x.1 : Int), hsV us hs x.1] W fun e W' =>
      (e = .returned (.bool true) ∧ J (pre ++ [x]) W' ∧ Below n₀ W W') ∨ (e = .returned (.bool false) ∧ Jx (pre ++ [x]) W'))
    (W : World) (hn₀ : n₀ ≤ W.heap.size) (hJ : AbidesFrom W.heap.size J) (hBs : W.cell? ⟨Bs, 0, none⟩ = some (.slice (some ⟨b, o, none⟩) hs.length cap)) (hb : b < n₀)
    (hc : HAt W b o hs us) (h0 : J [] W) :
    CallsIn Fence.wide n Tryd.prog 50 #[.func (.yield l) #[] #[], .pointer (some ⟨Bs, 0, none⟩)] W fun e W' => (∃ v, e = .returned v) ∧
      ((∃ ys, ys = finsTo hs.length hs.length ∧ J ys W') ∨ (∃ pre, (∃ k, k ≤ hs.length ∧ pre = finsTo hs.length k) ∧ Jx pre W')) := by
  have hro : Fence.wide.round = none := rfl
  refine callsIn_of_wp Tryd.func50 rfl trivial ?_ hro
  simp only [Tryd.ntmps50, List.size_toArray, List.length_cons, List.length_nil, Nat.reduceAdd, Nat.reduceSub, Array.replicate_succ, Array.replicate_zero, List.push_toArray, List.append_toArray, List.nil_append, List.cons_append]
  have HC := Lib.hid hc
  clear hc
  gi_wp2
  gi_loopw [3, 4, 8] (fun _ _ i wr => ∃ k : Nat, k ≤ hs.length ∧ i = .int .i64 k ∧ J (finsTo hs.length k) wr ∧ Below n₀ W wr)
    (fun _ _ i _ => hs.length - (intOf i).toNat)
  case atStart => exact ⟨0, Nat.zero_le _, rfl, h0, Below.refl _ _⟩
  case round =>
    obtain ⟨k, hk, rfl, hJs, hnx⟩ := hrel
    by_cases hlt : k < hs.length
    · obtain ⟨h, hg⟩ : ∃ h, hs[k]? = some h := ⟨_, List.getElem?_eq_getElem hlt⟩
      obtain ⟨c1, hS, c2, c3, c4⟩ := HC.out.2 k h hg
      obtain ⟨sa, sc, hus, _⟩ := srow_get hS
      rw [hus] at c1
      have d1 := (hnx.cell (p := ⟨b, o + k * 4, none⟩) hb).trans c1
      have d2 := (hnx.cell (p := ⟨b, o + k * 4 + 1, none⟩) hb).trans c2
      have d3 := (hnx.cell (p := ⟨b, o + k * 4 + 2, none⟩) hb).trans c3
      have d4 := (hnx.cell (p := ⟨b, o + k * 4 + 3, none⟩) hb).trans c4
      have hsz := hnx.size
      have hJ2 : J (finsTo hs.length k) (wr.alloc (.cells #[.slice sa h.names.length sc, .int .i64 h.key, .int .i64 h.maxN, .int .i64 h.maxB] 33)) := hJ _ _ _ none hJs (World.grownBy_alloc wr _ none) (fun r e => by cases e)
      obtain ⟨fn, tmps, assign, body, hy, hR⟩ := hY _ ⟨k, hlt⟩ _ hJ2 (by rw [fins_len hk]; exact hlt)
      rw [hsV_at hg, hus] at hy
      have HG := Lib.hid (fins_succ hlt)
      clear c1 c2 c3 c4 hg hJ2 hus hS
      gi_wp2
      refine hR.mono ?_
      rintro e W3 (⟨rfl, hJ3, hk3⟩ | ⟨rfl, hJx3⟩)
      · have HJ3 := Lib.hid hJ3
        have HN3 := Lib.hid ((hnx.alloc (Nat.le_trans hn₀ hsz) _).trans hk3)
        clear hJ3 hk3 hR hJs hnx d1 d2 d3 d4 hy
        gi_wp2
        go_roundw
        case rel => exact ⟨k + 1, by omega, by simp, by rw [HG.out]; exact HJ3.out, HN3.out⟩
        case measure => simp [intOf]; omega
      · have HJ3 := Lib.hid hJx3
        clear hJx3 hR hJs hnx d1 d2 d3 d4 hy
        gi_wp2
        refine bodyPost_ret (results_none rfl _ _ _) rfl ?_
        exact ⟨⟨_, rfl⟩, .inr ⟨_, ⟨k + 1, by omega, (HG.out).symm⟩, HJ3.out⟩⟩
    · obtain rfl : k = hs.length := by omega
      gi_wp2
      go_end0
      exact ⟨⟨_, rfl⟩, .inl ⟨_, rfl, hJs⟩⟩
/-- What the iterator over houses gives: each place with its house, in order; or a beginning of them. -/
theorem houses_stops (n : Nat) (hn : 1 ≤ n) (Bs n₀ b o cap : Nat) (hs : List Hs) (us : Nat → Value) (hcap : hs.length ≤ 1048576) (w : World) (hBs : Bs < w.heap.size) (hn₀ : n₀ ≤ w.heap.size)
    (hc : w.cell? ⟨Bs, 0, none⟩ = some (.slice (some ⟨b, o, none⟩) hs.length cap)) (hb : b < n₀) (hA : HAt w b o hs us) :
    SeqStopsK Fence.wide n Tryd.prog 50 #[.pointer (some ⟨Bs, 0, none⟩)] (fun x : Fin hs.length => #[.int .i64 (x.1 : Int), hsV us hs x.1]) (Below n₀) (fun ys => ys = finsTo hs.length hs.length) (fun pre => ∃ k, k ≤ hs.length ∧ pre = finsTo hs.length k) hs.length w := fun l J Jx W hW hJ _ hY h0 => by
  have hc' := (hW.cell (p := ⟨Bs, 0, none⟩) hBs).trans hc
  have hA' := hA.below (Nat.le_refl _) hW
  exact houses1_in n hn l Bs n₀ b o cap hs us hcap J Jx hY W (Nat.le_trans hn₀ hW.size) hJ hc' hb hA' h0
end Go.Proofs.YtojmfcpkmknleaaDoor
