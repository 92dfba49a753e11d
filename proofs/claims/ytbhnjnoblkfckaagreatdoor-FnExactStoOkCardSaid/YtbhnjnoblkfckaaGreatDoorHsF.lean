/- A house that came in by itself, opened. -/
import Derived.Test.YtbhnjnoblkfckaaGreatDoorCfgO
import Derived.Lib.SmallJoins
namespace Go.Proofs.YtbhnjnoblkfckaaGreatDoor
open Go.RowKit Go.ChangeShapes Go.WideShapes Go.Deep Go.Joins

set_option maxRecDepth 100000 in
theorem open_house {H : Type} {enc : TypeId × Value → H} {W : World} {r : Reach} {b0 base : Nat} {held : Bool} {v : Value} {d : DataW H} {p : List MemPlace} (hv : Value.okWide Tryz.prog W r b0 24 v) (h : DataW.Trod enc Tryz.prog W base (fun _ => true) held 24 v d p) :
    ∃ (u : Value) (hs : Hs), v = .agg #[u, .int .i64 hs.key, .int .i64 hs.maxN, .int .i64 hs.maxB] ∧ NRow W u hs.names ∧ NOk hs.names maxLen := by
  obtain ⟨c0, c1, c2, c3, y0, y1, y2, y3, m, rfl, _, _, hy0, hy1, hy2, hy3⟩ := open_agg4 Tryz.underlying24 (by kernel_rfl) (by kernel_rfl) hv h
  obtain ⟨L, hL, hN⟩ := open_srow hy0
  obtain ⟨x1, e1, _, z1⟩ := DataW.trod_int Tryz.underlying3 hy1
  obtain ⟨x2, e2, _, z2⟩ := DataW.trod_int Tryz.underlying3 hy2
  obtain ⟨x3, e3, _, z3⟩ := DataW.trod_int Tryz.underlying3 hy3
  simp only [List.cons.injEq, and_true] at e1 e2 e3
  exact ⟨c0, ⟨L, x1, x2, x3⟩, by rw [e1, e2, e3], hL, hN⟩
end Go.Proofs.YtbhnjnoblkfckaaGreatDoor
