/- A key that came in, opened. -/
import Derived.Test.YtiepobifbkleaaaDoorGKy
import Derived.Deep.Strs
import Derived.Deep.Fields
import Derived.WideShapes
import Derived.ChangeArms
namespace Go.Proofs.YtiepobifbkleaaaDoor
open Go.RowKit Go.ChangeShapes Go.WideShapes Go.Deep

theorem array3 {α : Type} {cs : Array α} (h : cs.size = 3) : ∃ c0 c1 c2, cs = #[c0, c1, c2] := by
  obtain ⟨l⟩ := cs
  match l, h with
  | [c0, c1, c2], _ => exact ⟨c0, c1, c2, rfl⟩
set_option maxRecDepth 100000 in
theorem open_key {H : Type} {enc : TypeId × Value → H} {W : World} {r : Reach} {b0 base : Nat} {held : Bool} {v : Value} {d : DataW H} {p : List MemPlace} (hv : Value.okWide Tryd.prog W r b0 26 v) (h : DataW.Trod enc Tryd.prog W base (fun _ => true) held 26 v d p) :
    ∃ k : Ky, v = keyV k ∧ k.place.size ≤ maxLen ∧ (Lit.int .i64 k.house).wf = true ∧ (Lit.int .i64 k.mask).wf = true := by
  obtain ⟨cs, rfl, hsz⟩ := okWide_struct Tryd.underlying26 hv
  have hC : Tryd.prog.cellsOf 26 = 3 := by kernel_rfl
  obtain ⟨c0, c1, c2, rfl⟩ := array3 (hsz.trans hC)
  obtain ⟨fuel, hf⟩ := h
  obtain ⟨y0, y1, y2, n, _, _, h0, h1, h2⟩ := trod_struct3 Tryd.underlying26 hf
  have ki : Tryd.prog.cellsOf 3 = 1 := by kernel_rfl
  have ks : Tryd.prog.cellsOf 9 = 1 := by kernel_rfl
  have h0' : DataW.trod enc Tryd.prog W base (fun _ => true) held n 3 [c0] = some y0 := by simpa [Value.cells, ki] using h0
  have h1' : DataW.trod enc Tryd.prog W base (fun _ => true) held n 9 [c1] = some y1 := by simpa [Value.cells, ks] using h1
  have h2' : DataW.trod enc Tryd.prog W base (fun _ => true) held n 3 [c2] = some y2 := by simpa [Value.cells, ki] using h2
  obtain ⟨x0, e0, _, z0⟩ := DataW.trod_int Tryd.underlying3 h0'
  obtain ⟨x1, e1, _, z1⟩ := DataW.trod_string Tryd.underlying9 h1'
  obtain ⟨x2, e2, _, z2⟩ := DataW.trod_int Tryd.underlying3 h2'
  simp only [List.cons.injEq, and_true] at e0 e1 e2
  exact ⟨⟨x0, x1, x2⟩, by unfold keyV; rw [e0, e1, e2], z1, z0, z2⟩
theorem int_range {n : Int} (h : (Lit.int .i64 n).wf = true) : -9223372036854775808 ≤ n ∧ n ≤ 9223372036854775807 := by
  simp [Lit.wf, IntKind.min, IntKind.max, IntKind.signed, IntKind.bits] at h
  exact h
end Go.Proofs.YtiepobifbkleaaaDoor
