/- What the rows' lists of the number functions' variables give. -/
import Derived.Test.YtiepobifbkleaaaGreatDoorLaid
import Derived.Test.YtiepobifbkleaaaGreatDoorNumR
import Derived.Stop.LaidErr
namespace Go.Proofs.YtiepobifbkleaaaGreatDoor
open Go.RowKit

theorem gTabNT : (Tryz.prog.globals[5]?).map (·.type) = some 241 := by kernel_rfl
theorem cells20 : Tryz.prog.cellsOf 241 = 20 := by kernel_rfl
theorem cells64 : Tryz.prog.cellsOf 211 = 1 := by kernel_rfl
theorem tab_of_head {W : World} {rest : List (String × DataW Unit)} (h : laidMet Tryz.prog (("internal/strconv.uint64pow10", Rows.laid_internal_strconv_uint64pow10) :: rest) W) : Tab W :=
  Lib.tabIs_of_head (rest := rest) gTabN gTabNT Tryz.underlying241 Tryz.underlying211 cells64 cells20 (by
    rw [show Lib.tabData .u64 Lib.pow10Tab = Rows.laid_internal_strconv_uint64pow10 from by kernel_rfl]; exact h)

theorem gErrST : (Tryz.prog.globals[2]?).map (·.type) = some 135 := by kernel_rfl
theorem gErrRT : (Tryz.prog.globals[3]?).map (·.type) = some 135 := by kernel_rfl
theorem cellsES : Tryz.prog.cellsOf 239 = 1 := by kernel_rfl
theorem cellsStr : Tryz.prog.cellsOf 9 = 1 := by kernel_rfl
theorem starES : "*" ++ "errors.errorString" = "*errors.errorString" := by decide
theorem rowES (u : TypeId) (h : Tryz.prog.typeName? 3 u = some "*errors.errorString") : u = 237 :=
  typeName_ptr_named (nm := "errors.errorString") (by rw [starES]; kernel_rfl) (by kernel_rfl) (by decide) u (by rw [starES]; exact h)
theorem errs_of_heads {W : World} {rest : List (String × DataW Unit)} (h : laidMet Tryz.prog (("strconv.ErrRange", Rows.laid_strconv_ErrRange) :: ("strconv.ErrSyntax", Rows.laid_strconv_ErrSyntax) :: rest) W) : Errs W := by
  obtain ⟨a0, s0, hv0, -, -, -⟩ := laid_sentinel h gErrR gErrRT Tryz.underlying135 rowES Tryz.underlying237 Tryz.underlying239 rfl rfl Tryz.underlying9 cellsES cellsStr
  obtain ⟨a1, s1, hv1, -, -, -⟩ := laid_sentinel h.tail gErrS gErrST Tryz.underlying135 rowES Tryz.underlying237 Tryz.underlying239 rfl rfl Tryz.underlying9 cellsES cellsStr
  exact ⟨_, _, _, _, hv1, hv0⟩

theorem i64_of_wf {n : Int} (h : (Lit.int .i64 n).wf = true) : -9223372036854775808 ≤ n ∧ n ≤ 9223372036854775807 := by
  simpa [Lit.wf, IntKind.min, IntKind.max, IntKind.signed, IntKind.bits] using h
namespace Lw
end Lw
end Go.Proofs.YtiepobifbkleaaaGreatDoor
