/- What the rows' lists of the number functions' variables give. -/
import Derived.Test.YtmeblmoinanciaaDoorLaid
import Derived.Test.YtmeblmoinanciaaDoorNumR
import Derived.Stop.LaidErr
namespace Go.Proofs.YtmeblmoinanciaaDoor
open Go.RowKit

theorem gTabNT : (Tryd.prog.globals[3]?).map (·.type) = some 95 := by kernel_rfl
theorem cells20 : Tryd.prog.cellsOf 95 = 20 := by kernel_rfl
theorem cells64 : Tryd.prog.cellsOf 77 = 1 := by kernel_rfl
theorem tab_of_head {W : World} {rest : List (String × DataW Unit)} (h : laidMet Tryd.prog (("internal/strconv.uint64pow10", Rows.laid_internal_strconv_uint64pow10) :: rest) W) : Tab W :=
  Lib.tabIs_of_head (rest := rest) gTabN gTabNT Tryd.underlying95 Tryd.underlying77 cells64 cells20 (by
    rw [show Lib.tabData .u64 Lib.pow10Tab = Rows.laid_internal_strconv_uint64pow10 from by kernel_rfl]; exact h)

theorem gErrST : (Tryd.prog.globals[1]?).map (·.type) = some 48 := by kernel_rfl
theorem gErrRT : (Tryd.prog.globals[2]?).map (·.type) = some 48 := by kernel_rfl
theorem cellsES : Tryd.prog.cellsOf 93 = 1 := by kernel_rfl
theorem cellsStr : Tryd.prog.cellsOf 9 = 1 := by kernel_rfl
theorem starES : "*" ++ "errors.errorString" = "*errors.errorString" := by decide
theorem rowES (u : TypeId) (h : Tryd.prog.typeName? 3 u = some "*errors.errorString") : u = 91 :=
  typeName_ptr_named (nm := "errors.errorString") (by rw [starES]; kernel_rfl) (by kernel_rfl) (by decide) u (by rw [starES]; exact h)
theorem errs_of_heads {W : World} {rest : List (String × DataW Unit)} (h : laidMet Tryd.prog (("strconv.ErrRange", Rows.laid_strconv_ErrRange) :: ("strconv.ErrSyntax", Rows.laid_strconv_ErrSyntax) :: rest) W) : Errs W := by
  obtain ⟨a0, s0, hv0, -, -, -⟩ := laid_sentinel h gErrR gErrRT Tryd.underlying48 rowES Tryd.underlying91 Tryd.underlying93 rfl rfl Tryd.underlying9 cellsES cellsStr
  obtain ⟨a1, s1, hv1, -, -, -⟩ := laid_sentinel h.tail gErrS gErrST Tryd.underlying48 rowES Tryd.underlying91 Tryd.underlying93 rfl rfl Tryd.underlying9 cellsES cellsStr
  exact ⟨_, _, _, _, hv1, hv0⟩

set_option maxHeartbeats 400000 in
theorem law_numtext0 (n : Int) (w : World) (h0 : -9223372036854775808 ≤ n) (h1 : n ≤ 9223372036854775807) (h : Tab w) :
    Calls Tryd.prog 8 #[.int .i64 n] w fun e w' => e = .returned (.bool true) ∧ Below w.heap.size w w' := by
  go_enter Tryd.func8, Tryd.ntmps8
  go_wp2_with fail
  refine (spec_numtext n _).mono ?_
  rintro e w1 ⟨rfl, hb1⟩
  have ht1 := h.below hb1 (Nat.le_refl _)
  go_wp2_with fail
  refine (impl_numtext n _ h0 h1 ht1).mono ?_
  rintro e w2 ⟨rfl, hb2⟩
  go_wp2
  go_ret
  exact ⟨rfl, hb1.trans (hb2.mono hb1.size)⟩

set_option maxHeartbeats 400000 in
theorem law_numread0 (s : ByteArray) (w : World) (hs : s.size ≤ maxLen) (h : Tab w) (he : Errs w) :
    Calls Tryd.prog 9 #[.string s] w fun e w' => e = .returned (.bool true) ∧ Below w.heap.size w w' := by
  by_cases hbig : 1048576 < s.size
  · unfold maxLen at hs
    clear h he
    go_enter Tryd.func9, Tryd.ntmps9
    go_wp2_with fail
    go_ret
    exact ⟨rfl, Below.refl _ _⟩
  · have hs' := hs
    unfold maxLen at hs'
    have HT := Lib.hid h; have HE := Lib.hid he
    clear h he
    go_enter Tryd.func9, Tryd.ntmps9
    go_wp2_with fail
    refine (spec_numread _ _ hs).mono ?_
    rintro e w1 ⟨rfl, hb1⟩
    have ht1 := HT.out.below hb1 (Nat.le_refl _)
    have he1 := HE.out.below hb1 (Nat.le_refl _)
    go_wp2_with fail
    refine (impl_numread _ _ (by omega) ht1 he1).mono ?_
    rintro e w2 ⟨rfl, hb2⟩
    go_wp2
    go_ret
    exact ⟨rfl, hb1.trans (hb2.mono hb1.size)⟩

theorem i64_of_wf {n : Int} (h : (Lit.int .i64 n).wf = true) : -9223372036854775808 ≤ n ∧ n ≤ 9223372036854775807 := by
  simpa [Lit.wf, IntKind.min, IntKind.max, IntKind.signed, IntKind.bits] using h
namespace Lw
theorem fnExactNumText (w : World) (hL : laidMetH Tryd.prog Rows.fnExactNumTextRow.laid w) (n : Int) (hn : (Lit.int .i64 n).wf = true) :
    Calls Tryd.prog 8 #[.int .i64 n] w fun e w' => e = .returned (.bool true) ∧ Below w.heap.size w w' := by
  have hL' : laidMet Tryd.prog Rows.fnExactNumTextRow.laid w := hL
  exact law_numtext0 n w (i64_of_wf hn).1 (i64_of_wf hn).2 (tab_of_head hL'.tail.tail)
theorem fnExactNumRead (w : World) (hL : laidMetH Tryd.prog Rows.fnExactNumReadRow.laid w) (s : ByteArray) (hs : s.size ≤ maxLen) :
    Calls Tryd.prog 9 #[.string s] w fun e w' => e = .returned (.bool true) ∧ Below w.heap.size w w' := by
  have hL' : laidMet Tryd.prog Rows.fnExactNumReadRow.laid w := hL
  exact law_numread0 s w hs (tab_of_head hL'.tail.tail) (errs_of_heads hL'.tail.tail.tail)
end Lw
end Go.Proofs.YtmeblmoinanciaaDoor
