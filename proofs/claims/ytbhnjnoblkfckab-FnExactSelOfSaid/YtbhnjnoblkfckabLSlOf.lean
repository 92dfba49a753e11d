/- The law on a seal, exact. -/
import Derived.Test.YtbhnjnoblkfckabSlL
namespace Go.Proofs.Ytbhnjnoblkfckab
open Go.RowKit

namespace Lw
set_option maxHeartbeats 1600000 in
theorem fnExactSelOf (w : World) (key : Int) (_hk : (Lit.int .i64 key).wf = true) (p : ByteArray) (hp : p.size ≤ maxLen) (u : Bool) (t : Int) (_ht : (Lit.int .i64 t).wf = true) (n : Int) (_hn : (Lit.int .i64 n).wf = true) :
    Calls Try.prog 3 #[.int .i64 key, .string p, .bool u, .int .i64 t, .int .i64 n] w fun e w' => e = .returned (.bool true) ∧ Below w.heap.size w w' := by
  have hI := fun W => impl_selof key p u t n W hp
  have hS := fun W => spec_selof key p u t n W hp
  unfold maxLen at hp
  generalize selS key p u t n = V at *
  have e1 : (V != V) = false := by simp
  have e2 : (V == V) = true := by simp
  clear _hk _ht _hn
  by_cases h : p.size ≤ 1048576
  · go_enter Try.func3, Try.ntmps3
    go_wp2_with fail
    refine (hS _).mono ?_
    rintro e w' ⟨rfl, rfl⟩
    go_wp2_with fail
    refine (hI _).mono ?_
    rintro e w1 ⟨rfl, hb1⟩
    have HB := Lib.hid hb1
    clear hI hS hb1
    go_wp2
    go_ret
    exact ⟨rfl, HB.out⟩
  · go_enter Try.func3, Try.ntmps3
    go_wp2
    go_ret
    exact ⟨rfl, Below.refl _ _⟩
end Lw
end Go.Proofs.Ytbhnjnoblkfckab
