/- What the rows' lists of package-level variables give; a world that has them. -/
import Derived.Test.YtncegikmpapldaaGreatDoorTok
import Derived.Stop.LaidErr
namespace Go.Proofs.YtncegikmpapldaaGreatDoor
open Go.RowKit

theorem gCls : Tryz.prog.globalNamed "loop.example/godown/impl.byteClasses" = some 1 := by kernel_rfl
theorem gClsT : (Tryz.prog.globals[1]?).map (·.type) = some 171 := by kernel_rfl
theorem cellsCls : Tryz.prog.cellsOf 171 = 123 := by kernel_rfl
theorem cellsCls1 : Tryz.prog.cellsOf 118 = 1 := by kernel_rfl

theorem cls_of_tab {W : World} (h : Lib.TabIs Tryz.prog W "loop.example/godown/impl.byteClasses" .u8 clsTab) : Cls W := by
  have hc : ∀ i, i < 123 → W.cell? ⟨1, i, none⟩ = some (.int .u8 (clsOf i)) := fun i hi => h.cell gCls i (by simp [clsTab]; exact hi)
  exact ⟨World.block_lt_of_cell? W _ (hc 0 (by omega)), hc⟩

theorem cls_of_head {W : World} {rest : List (String × DataW Unit)} (h : laidMet Tryz.prog (("loop.example/godown/impl.byteClasses", Rows.laid_loop_example_godown_impl_byteClasses) :: rest) W) : Cls W :=
  cls_of_tab (Lib.tabIs_of_head (rest := rest) gCls gClsT Tryz.underlying171 Tryz.underlying118 cellsCls1 cellsCls (by
    rw [show Lib.tabData .u8 clsTab = Rows.laid_loop_example_godown_impl_byteClasses from by kernel_rfl]; exact h))

def litV : DataW Unit → Value
  | .lit (.int k n) => .int k n
  | .lit (.bool b) => .bool b
  | .lit (.string s) => .string ⟨s.toArray⟩
  | _ => undef
def rowV : DataW Unit → List Value
  | .agg ps => ps.map litV
  | d => [litV d]
def cellsV : DataW Unit → Array Value
  | .agg ps => (ps.flatMap rowV).toArray
  | d => #[litV d]
def layC (cs : Array Value) : Obj → Obj
  | .cells _ t frozen => .cells cs t frozen
  | o => o

/-- The new blocks of the sentinels. -/
def sentinels : Array Obj := #[
  .cells #[.string ⟨#[105, 110, 118, 97, 108, 105, 100, 32, 115, 121, 110, 116, 97, 120]⟩] 202, .cells #[.string ⟨#[118, 97, 108, 117, 101, 32, 111, 117, 116, 32, 111, 102, 32, 114, 97, 110, 103, 101]⟩] 202
  ]

/-- The settled world, the tables laid. -/
noncomputable def laidWorld (os : Os) : World :=
  let w0 := World.holding Tryz.prog os ⟨sentinels, #[], []⟩
  let h := w0.heap
  let h := h.modify 1 (layC (cellsV Rows.laid_loop_example_godown_impl_byteClasses))
  let h := h.modify 0 (layC (cellsV Rows.laid_loop_example_godown_impl_codingNames))
  let h := h.modify 5 (layC (cellsV Rows.laid_internal_strconv_uint64pow10))
  let h := h.modify 8 (layC (cellsV Rows.laid_unicode_utf8_first))
  let h := h.modify 9 (layC (cellsV Rows.laid_unicode_utf8_acceptRanges))
  let h := h.modify 6 (layC (cellsV Rows.laid_math_bits_deBruijn32tab))
  let h := h.modify 7 (layC (cellsV Rows.laid_math_bits_deBruijn64tab))
  let h := h.modify 2 (layC #[.iface 200 (.pointer (some ⟨(World.settled Tryz.prog os).heap.size, 0, none⟩))])
  let h := h.modify 3 (layC #[.iface 200 (.pointer (some ⟨(World.settled Tryz.prog os).heap.size + 1, 0, none⟩))])
  { w0 with heap := h }
end Go.Proofs.YtncegikmpapldaaGreatDoor
