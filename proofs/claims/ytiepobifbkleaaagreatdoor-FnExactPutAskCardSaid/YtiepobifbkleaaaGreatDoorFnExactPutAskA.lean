/- The law 'FnExactPutAsk' holds for every input: the call returns true and leaves its arguments as they were. Conditions: the package-level variables that the row lists lie as the program's text lays them (the card ties them). -/
import Derived.Test.YtiepobifbkleaaaGreatDoorCards
import Derived.Test.YtiepobifbkleaaaGreatDoorTie
import Derived.Test.YtiepobifbkleaaaGreatDoorPure
import Derived.Test.YtiepobifbkleaaaGreatDoorGLKyPut
import Derived.Test.YtiepobifbkleaaaGreatDoorGhx
import Derived.Test.YtiepobifbkleaaaGreatDoorGCfe
import Derived.Test.YtiepobifbkleaaaGreatDoorLaid
import Derived.WalkKit
import Derived.ProofKit
import Derived.OpenShut
import Derived.ShutString
import Derived.ChangeOld
import Derived.Below
import Derived.OpenVars
import Derived.Deep.DeepHandedRow
import Derived.Lib.LaidTab
namespace Go.Proofs.YtiepobifbkleaaaGreatDoor.fnExactPutAsk
open Go.ChangeShapes Go.WideShapes Go.ChangeAt Go.RowKit
open Go.ChangeMaps (open_string shut_string)
set_option linter.unusedVariables false
theorem own : ownKnob Tryz.prog.godebug = none := by kernel_rfl
theorem laidOut : laidOutB Tryz.prog = true := by kernel_rfl
set_option maxRecDepth 100000 in
theorem contract (H : Type) (enc : TypeId × Value → H) (W : World) (base : Nat) (args : Array Value) (ds gs : List (DataW H)) (before : List MemPlace)
    (hval : ∀ (j : Nat) t v, Tryz.f11.params[j]? = some t → args[j]? = some v → Value.okWide Tryz.prog W .any base t v)
    (hW : DataW.Whole enc Tryz.prog Tryz.f11.params.toList Rows.fnExactPutAskSpec.vars false W args.toList ds gs before) (hL : laidMetH Tryz.prog Rows.fnExactPutAskRow.laid W) :
    Calls Tryz.prog 11 args W fun e W' => ∃ v, e = .returned v ∧ Rows.fnExactPutAskSpec.post enc Tryz.prog Tryz.f11 false true false false W args v W' := by
  have hW' := hW
  obtain ⟨p, q, hA0, hV, rfl, hfz, hnd⟩ := hW
  have hA : DataW.TrodAll enc Tryz.prog W 0 (fun _ => true) true Tryz.f11.params.toList args.toList ds p := hA0
  rw [Tryz.params11] at hA hval
  obtain ⟨v0, vs0, d0, ds0, p0, q0, hargs, rfl, rfl, h0, r0⟩ := trodAll_cons hA
  obtain ⟨v1, vs1, d1, ds1, p1, q1, rfl, rfl, rfl, h1, r1⟩ := trodAll_cons r0
  obtain ⟨rfl, rfl, rfl⟩ := trodAll_nil r1
  obtain rfl : args = #[v0, v1] := by cases args; simp_all
  have hV1 := hV
  obtain ⟨_, _, _, _, dv, _, rfl, _⟩ := trodVars_one hV1
  have k0 := h0
  have lt0 : ∀ x ∈ p0, x.block < W.heap.size := by obtain ⟨m, hm⟩ := k0; exact DataW.trod_lt m _ _ _ hm
  obtain ⟨u0, z0, e0, o0, b0⟩ := open_cfg (hval 0 65 v0 rfl rfl) h0
  subst e0
  have k1 := h1
  have lt1 : ∀ x ∈ p1, x.block < W.heap.size := by obtain ⟨m, hm⟩ := k1; exact DataW.trod_lt m _ _ _ hm
  obtain ⟨z1, u1, e1, o1, oa1, ob1, oc1, od1, oe1⟩ := open_hd (hval 1 68 v1 rfl rfl) h1
  subst e1
  clear hA0
  refine (Lw.fnExactPutAsk W hL u0 z0 o0 b0 z1 u1 o1 oa1 ob1 oc1 od1 oe1).mono fun e W' ⟨he, bel⟩ => ?_
  subst he
  exact ⟨_, rfl, _, _, _, [], _, _, hW', trodAll_mk1 (shut_bool Tryz.underlying4 _), (trodAll_cons_mk (Below.trod laidOut (by kernel_rfl) (of_decide_eq_true (by kernel_rfl)) k0 bel lt0) (trodAll_cons_mk (Below.trod laidOut (by kernel_rfl) (of_decide_eq_true (by kernel_rfl)) k1 bel lt1) trodAll_mk0)), Below.trodVars laidOut bel (by kernel_rfl) hV, bel.frame _, fun h => by cases h⟩

set_option maxRecDepth 100000 in
theorem laid_met (os : Os) : laidMet Tryz.prog Rows.fnExactPutAskRow.laid ((laidWorld os).forCall (fun _ _ => 0) ⟨#[], #[.agg #[.slice none 0 0], .agg #[.string ByteArray.empty, .string ByteArray.empty, .string ByteArray.empty, .slice none 0 0, .string ByteArray.empty]], []⟩).memory :=
  laidMet_of_run' 12 (by kernel_rfl) (by kernel_rfl)
theorem reads (os : Os) {H : Type} (enc : TypeId × Value → H) : ∃ places, DataW.whole enc Tryz.prog ((laidWorld os).forCall (fun _ _ => 0) ⟨#[], #[.agg #[.slice none 0 0], .agg #[.string ByteArray.empty, .string ByteArray.empty, .string ByteArray.empty, .slice none 0 0, .string ByteArray.empty]], []⟩).memory Tryz.f11.params.toList Rows.fnExactPutAskSpec.vars false (#[.agg #[.slice none 0 0], .agg #[.string ByteArray.empty, .string ByteArray.empty, .string ByteArray.empty, .slice none 0 0, .string ByteArray.empty]] : Array Value).toList 12 = some ([.agg [.nil], .agg [.lit (.string []), .lit (.string []), .lit (.string []), .nil, .lit (.string [])]], [Rows.laid_loop_example_godown_impl_byteClasses], places) :=
  ⟨MemPlace.row ⟨1, 0, none⟩ 123, by kernel_rfl⟩

theorem joined1 : (Rows.fnExactPutAskRow.inPlace == Tryz.prog.inPlace 11) = true := by kernel_rfl
theorem joined2 : (Rows.fnExactPutAskRow.unfollowed == Tryz.prog.unfollowed 11) = true := by kernel_rfl
theorem joined3 : (Rows.fnExactPutAskRow.recurses == Tryz.prog.recurses 11) = true := by kernel_rfl
theorem joined4 : (Rows.fnExactPutAskRow.named == Tryz.prog.varsNamed 11) = true := by kernel_rfl
theorem joined : joinedFacts Tryz.prog 11 Tryz.f11 (OpenSpec.ofChange Rows.fnExactPutAskSpec).bare Rows.fnExactPutAskRow = true := by
  unfold joinedFacts
  rw [joined1, joined2, joined3, joined4]
  kernel_rfl
end Go.Proofs.YtiepobifbkleaaaGreatDoor.fnExactPutAsk
