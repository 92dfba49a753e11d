/- A seal that came in, opened. -/
import Derived.Test.YtbhnjnoblkfckabSlP
import Derived.Test.YtbhnjnoblkfckabAgg5
import Derived.Test.YtbhnjnoblkfckabProg
import Derived.Lib.SmallJoins
namespace Go.Proofs.Ytbhnjnoblkfckab
open Go.RowKit Go.ChangeShapes Go.WideShapes Go.Deep Go.Joins

set_option maxRecDepth 100000 in
theorem open_seal {H : Type} {enc : TypeId × Value → H} {W : World} {r : Reach} {b0 base : Nat} {held : Bool} {v : Value} {d : DataW H} {p : List MemPlace} (hv : Value.okWide Try.prog W r b0 25 v) (h : DataW.Trod enc Try.prog W base (fun _ => true) held 25 v d p) :
    ∃ s : Sl, v = slV s ∧ s.path.size ≤ maxLen := by
  obtain ⟨c0, c1, c2, c3, c4, y0, y1, y2, y3, y4, m, rfl, hy0, hy1, hy2, hy3, hy4⟩ := open_agg5 Try.underlying25 (by kernel_rfl) (by kernel_rfl) hv h
  obtain ⟨x0, e0, _, z0⟩ := DataW.trod_string Try.underlying9 hy0
  obtain ⟨x1, e1, _⟩ := DataW.trod_bool Try.underlying4 hy1
  obtain ⟨x2, e2, _, z2⟩ := DataW.trod_int Try.underlying3 hy2
  obtain ⟨x3, e3, _, z3⟩ := DataW.trod_int Try.underlying3 hy3
  obtain ⟨x4, e4, _, z4⟩ := DataW.trod_int Try.underlying3 hy4
  simp only [List.cons.injEq, and_true] at e0 e1 e2 e3 e4
  exact ⟨⟨x0, x1, x2, x3, x4⟩, by unfold slV; rw [e0, e1, e2, e3, e4], z0⟩
end Go.Proofs.Ytbhnjnoblkfckab
