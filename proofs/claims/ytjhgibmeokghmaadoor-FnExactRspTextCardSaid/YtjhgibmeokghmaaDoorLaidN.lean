/- What the rows' lists of the number functions' variables give. -/
import Derived.Test.YtjhgibmeokghmaaDoorLaid
import Derived.Test.YtjhgibmeokghmaaDoorNumR
import Derived.Stop.LaidErr
namespace Go.Proofs.YtjhgibmeokghmaaDoor
open Go.RowKit

theorem gTabNT : (Tryd.prog.globals[2]?).map (·.type) = some 100 := by kernel_rfl
theorem cells20 : Tryd.prog.cellsOf 100 = 20 := by kernel_rfl
theorem cells64 : Tryd.prog.cellsOf 94 = 1 := by kernel_rfl
theorem tab_of_head {W : World} {rest : List (String × DataW Unit)} (h : laidMet Tryd.prog (("internal/strconv.uint64pow10", Rows.laid_internal_strconv_uint64pow10) :: rest) W) : Tab W :=
  Lib.tabIs_of_head (rest := rest) gTabN gTabNT Tryd.underlying100 Tryd.underlying94 cells64 cells20 (by
    rw [show Lib.tabData .u64 Lib.pow10Tab = Rows.laid_internal_strconv_uint64pow10 from by kernel_rfl]; exact h)

theorem cellsStr : Tryd.prog.cellsOf 9 = 1 := by kernel_rfl
theorem starES : "*" ++ "errors.errorString" = "*errors.errorString" := by decide
theorem i64_of_wf {n : Int} (h : (Lit.int .i64 n).wf = true) : -9223372036854775808 ≤ n ∧ n ≤ 9223372036854775807 := by
  simpa [Lit.wf, IntKind.min, IntKind.max, IntKind.signed, IntKind.bits] using h
namespace Lw
end Lw
end Go.Proofs.YtjhgibmeokghmaaDoor
