/- What the rows' lists of package-level variables give; a world that has them. -/
import Derived.Test.YtbhnjnoblkfckabDoorTok
import Derived.Stop.LaidErr
namespace Go.Proofs.YtbhnjnoblkfckabDoor
open Go.RowKit

theorem gCls : Tryd.prog.globalNamed "loop.example/godown/impl.byteClasses" = some 0 := by kernel_rfl
theorem gClsT : (Tryd.prog.globals[0]?).map (·.type) = some 64 := by kernel_rfl
theorem cellsCls : Tryd.prog.cellsOf 64 = 123 := by kernel_rfl
theorem cellsCls1 : Tryd.prog.cellsOf 58 = 1 := by kernel_rfl

theorem cls_of_tab {W : World} (h : Lib.TabIs Tryd.prog W "loop.example/godown/impl.byteClasses" .u8 clsTab) : Cls W := by
  have hc : ∀ i, i < 123 → W.cell? ⟨0, i, none⟩ = some (.int .u8 (clsOf i)) := fun i hi => h.cell gCls i (by simp [clsTab]; exact hi)
  exact ⟨World.block_lt_of_cell? W _ (hc 0 (by omega)), hc⟩

theorem cls_of_head {W : World} {rest : List (String × DataW Unit)} (h : laidMet Tryd.prog (("loop.example/godown/impl.byteClasses", Rows.laid_loop_example_godown_impl_byteClasses) :: rest) W) : Cls W :=
  cls_of_tab (Lib.tabIs_of_head (rest := rest) gCls gClsT Tryd.underlying64 Tryd.underlying58 cellsCls1 cellsCls (by
    rw [show Lib.tabData .u8 clsTab = Rows.laid_loop_example_godown_impl_byteClasses from by kernel_rfl]; exact h))

def litV : DataW Unit → Value
  | .lit (.int k n) => .int k n
  | .lit (.bool b) => .bool b
  | .lit (.string s) => .string ⟨s.toArray⟩
  | _ => undef
def rowV : DataW Unit → List Value
  | .agg ps => ps.map litV
  | d => [litV d]
def cellsV : DataW Unit → Array Value
  | .agg ps => (ps.flatMap rowV).toArray
  | d => #[litV d]
def layC (cs : Array Value) : Obj → Obj
  | .cells _ t frozen => .cells cs t frozen
  | o => o

/-- The new blocks of the sentinels. -/
def sentinels : Array Obj := #[
  ]

/-- The settled world, the tables laid. -/
noncomputable def laidWorld (os : Os) : World :=
  let w0 := World.holding Tryd.prog os ⟨sentinels, #[], []⟩
  let h := w0.heap
  let h := h.modify 0 (layC (cellsV Rows.laid_loop_example_godown_impl_byteClasses))
  { w0 with heap := h }
end Go.Proofs.YtbhnjnoblkfckabDoor
