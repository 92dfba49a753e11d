/- What the rows' lists of package-level variables give; a world that has them. -/
import Derived.Test.YtmeblmoinanciaaDoorTok
import Derived.Stop.LaidErr
namespace Go.Proofs.YtmeblmoinanciaaDoor
open Go.RowKit

theorem gCls : Tryd.prog.globalNamed "loop.example/godown/impl.byteClasses" = some 0 := by kernel_rfl
theorem gClsT : (Tryd.prog.globals[0]?).map (·.type) = some 58 := by kernel_rfl
theorem cellsCls : Tryd.prog.cellsOf 58 = 123 := by kernel_rfl
theorem cellsCls1 : Tryd.prog.cellsOf 39 = 1 := by kernel_rfl

theorem cls_of_tab {W : World} (h : Lib.TabIs Tryd.prog W "loop.example/godown/impl.byteClasses" .u8 clsTab) : Cls W := by
  have hc : ∀ i, i < 123 → W.cell? ⟨0, i, none⟩ = some (.int .u8 (clsOf i)) := fun i hi => h.cell gCls i (by simp [clsTab]; exact hi)
  exact ⟨World.block_lt_of_cell? W _ (hc 0 (by omega)), hc⟩

theorem cls_of_head {W : World} {rest : List (String × DataW Unit)} (h : laidMet Tryd.prog (("loop.example/godown/impl.byteClasses", Rows.laid_loop_example_godown_impl_byteClasses) :: rest) W) : Cls W :=
  cls_of_tab (Lib.tabIs_of_head (rest := rest) gCls gClsT Tryd.underlying58 Tryd.underlying39 cellsCls1 cellsCls (by
    rw [show Lib.tabData .u8 clsTab = Rows.laid_loop_example_godown_impl_byteClasses from by kernel_rfl]; exact h))

/-- The settled world, the tables laid. -/
noncomputable def laidWorld (os : Os) : World :=
  { World.holding Tryd.prog os ⟨#[], #[], []⟩ with heap := (World.holding Tryd.prog os ⟨#[], #[], []⟩).heap.modify 0 fun
      | .cells _ t frozen => .cells (clsTab.map (Value.int .u8)).toArray t frozen
      | o => o }
end Go.Proofs.YtmeblmoinanciaaDoor
