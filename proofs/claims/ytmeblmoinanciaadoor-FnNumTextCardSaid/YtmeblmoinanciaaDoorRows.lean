/-
  NARROWER THAN 'FOR EVERY INPUT', by the rows' own cells (each row's printed sentence says how): FnTok: laid · FnNumText: laid · FnTxtTrim: laid · FnTxtLower: laid · FnExactTokOk: laid · FnExactNumText: laid · FnExactNumRead: laid · FnExactTxtLower: laid · FnExactTxtTrim: laid.
  DERIVED. THE GIVEN ROWS OF THIS SEAT. 9 by the template 'for every input the law returns true; each argument reads behind the call as it read before'; 0 by the template 'total and deterministic' (their statements: YtmeblmoinanciaaDoorTotals.lean).
  GIVEN WITH THE SEED: the statements are not yours to turn. If you find one false, say at which input.
  Laid BY PROGRAM, IN A SANDBOX (cutbox-rows.mjs): the forced cells as the released guide's own fill.sh prints them over the translation b3140471f564402f… (all of the seat's roots in one cut). By AI agents, Wed Nov 11 2026. No macro, syntax, notation, axiom, sorry.
-/
import Derived.Test.YtmeblmoinanciaaDoorChecked
import GoSem.PinnedTables
import GoSem.Claim
import GoSem.ClaimJoined
import GoSem.ClaimMapViews
import Derived.JoinedTies
import Derived.KernelRfl
namespace Go.Proofs.YtmeblmoinanciaaDoor
/- THE CELL 'sum', in the pinned program and in every row, IS THE sha256 OF THE DUMP (.gsa) THAT YtmeblmoinanciaaDoorProg.lean LOADS. Nothing in Lean hashes anything: it is a label: what it is worth is what the hold of that sum in a sandbox is worth. -/
noncomputable def Tryd.pinned : Pinned := { name := "ytmeblmoinanciaadoor", sum := "b3140471f564402f595f06d2b387f7cda77bf5480cef4a840be2b7d56f46bd56", checked := Tryd.checked }
namespace Rows
def none {H : Type} : Left H := { results := [], args := [] }

/- WHAT THE LISTED PACKAGE-LEVEL VARIABLES READ AS WHEN THE CALL BEGINS. Each datum BY PROGRAM (the guide's laid-datum.mjs) off the statement by which the dump's own 'gosem.cut.vars' lays the variable. In a bare row this is a premise. The card (YtmeblmoinanciaaDoorCards.lean) ties it to the program's text. -/
def laid_unicode_utf8_acceptRanges {H : Type} : DataW H := .agg [.agg [.lit (.int .u8 128), .lit (.int .u8 191)], .agg [.lit (.int .u8 160), .lit (.int .u8 191)], .agg [.lit (.int .u8 128), .lit (.int .u8 159)], .agg [.lit (.int .u8 144), .lit (.int .u8 191)], .agg [.lit (.int .u8 128), .lit (.int .u8 143)], .agg [.lit (.int .u8 0), .lit (.int .u8 0)], .agg [.lit (.int .u8 0), .lit (.int .u8 0)], .agg [.lit (.int .u8 0), .lit (.int .u8 0)], .agg [.lit (.int .u8 0), .lit (.int .u8 0)], .agg [.lit (.int .u8 0), .lit (.int .u8 0)], .agg [.lit (.int .u8 0), .lit (.int .u8 0)], .agg [.lit (.int .u8 0), .lit (.int .u8 0)], .agg [.lit (.int .u8 0), .lit (.int .u8 0)], .agg [.lit (.int .u8 0), .lit (.int .u8 0)], .agg [.lit (.int .u8 0), .lit (.int .u8 0)], .agg [.lit (.int .u8 0), .lit (.int .u8 0)]]
def laid_loop_example_godown_impl_byteClasses {H : Type} : DataW H := .agg [.lit (.int .u8 0), .lit (.int .u8 0), .lit (.int .u8 0), .lit (.int .u8 0), .lit (.int .u8 0), .lit (.int .u8 0), .lit (.int .u8 0), .lit (.int .u8 0), .lit (.int .u8 0), .lit (.int .u8 0), .lit (.int .u8 0), .lit (.int .u8 0), .lit (.int .u8 0), .lit (.int .u8 0), .lit (.int .u8 0), .lit (.int .u8 0), .lit (.int .u8 0), .lit (.int .u8 0), .lit (.int .u8 0), .lit (.int .u8 0), .lit (.int .u8 0), .lit (.int .u8 0), .lit (.int .u8 0), .lit (.int .u8 0), .lit (.int .u8 0), .lit (.int .u8 0), .lit (.int .u8 0), .lit (.int .u8 0), .lit (.int .u8 0), .lit (.int .u8 0), .lit (.int .u8 0), .lit (.int .u8 0), .lit (.int .u8 0), .lit (.int .u8 0), .lit (.int .u8 0), .lit (.int .u8 0), .lit (.int .u8 0), .lit (.int .u8 0), .lit (.int .u8 0), .lit (.int .u8 0), .lit (.int .u8 0), .lit (.int .u8 0), .lit (.int .u8 0), .lit (.int .u8 0), .lit (.int .u8 0), .lit (.int .u8 1), .lit (.int .u8 0), .lit (.int .u8 0), .lit (.int .u8 1), .lit (.int .u8 1), .lit (.int .u8 1), .lit (.int .u8 1), .lit (.int .u8 1), .lit (.int .u8 1), .lit (.int .u8 1), .lit (.int .u8 1), .lit (.int .u8 1), .lit (.int .u8 1), .lit (.int .u8 0), .lit (.int .u8 0), .lit (.int .u8 0), .lit (.int .u8 0), .lit (.int .u8 0), .lit (.int .u8 0), .lit (.int .u8 0), .lit (.int .u8 2), .lit (.int .u8 2), .lit (.int .u8 2), .lit (.int .u8 2), .lit (.int .u8 2), .lit (.int .u8 2), .lit (.int .u8 2), .lit (.int .u8 2), .lit (.int .u8 2), .lit (.int .u8 2), .lit (.int .u8 2), .lit (.int .u8 2), .lit (.int .u8 2), .lit (.int .u8 2), .lit (.int .u8 2), .lit (.int .u8 2), .lit (.int .u8 2), .lit (.int .u8 2), .lit (.int .u8 2), .lit (.int .u8 2), .lit (.int .u8 2), .lit (.int .u8 2), .lit (.int .u8 2), .lit (.int .u8 2), .lit (.int .u8 2), .lit (.int .u8 2), .lit (.int .u8 0), .lit (.int .u8 0), .lit (.int .u8 0), .lit (.int .u8 0), .lit (.int .u8 0), .lit (.int .u8 0), .lit (.int .u8 1), .lit (.int .u8 1), .lit (.int .u8 1), .lit (.int .u8 1), .lit (.int .u8 1), .lit (.int .u8 1), .lit (.int .u8 1), .lit (.int .u8 1), .lit (.int .u8 1), .lit (.int .u8 1), .lit (.int .u8 1), .lit (.int .u8 1), .lit (.int .u8 1), .lit (.int .u8 1), .lit (.int .u8 1), .lit (.int .u8 1), .lit (.int .u8 1), .lit (.int .u8 1), .lit (.int .u8 1), .lit (.int .u8 1), .lit (.int .u8 1), .lit (.int .u8 1), .lit (.int .u8 1), .lit (.int .u8 1), .lit (.int .u8 1), .lit (.int .u8 1)]
/-- One of Go's own tables, pinned by name: the form's constant. -/
def laid_unicode_utf8_first : DataW Unit := Go.Pinned.utf8First
def laid_math_bits_deBruijn32tab {H : Type} : DataW H := .agg [.lit (.int .u8 0), .lit (.int .u8 1), .lit (.int .u8 28), .lit (.int .u8 2), .lit (.int .u8 29), .lit (.int .u8 14), .lit (.int .u8 24), .lit (.int .u8 3), .lit (.int .u8 30), .lit (.int .u8 22), .lit (.int .u8 20), .lit (.int .u8 15), .lit (.int .u8 25), .lit (.int .u8 17), .lit (.int .u8 4), .lit (.int .u8 8), .lit (.int .u8 31), .lit (.int .u8 27), .lit (.int .u8 13), .lit (.int .u8 23), .lit (.int .u8 21), .lit (.int .u8 19), .lit (.int .u8 16), .lit (.int .u8 7), .lit (.int .u8 26), .lit (.int .u8 12), .lit (.int .u8 18), .lit (.int .u8 6), .lit (.int .u8 11), .lit (.int .u8 5), .lit (.int .u8 10), .lit (.int .u8 9)]
def laid_math_bits_deBruijn64tab {H : Type} : DataW H := .agg [.lit (.int .u8 0), .lit (.int .u8 1), .lit (.int .u8 56), .lit (.int .u8 2), .lit (.int .u8 57), .lit (.int .u8 49), .lit (.int .u8 28), .lit (.int .u8 3), .lit (.int .u8 61), .lit (.int .u8 58), .lit (.int .u8 42), .lit (.int .u8 50), .lit (.int .u8 38), .lit (.int .u8 29), .lit (.int .u8 17), .lit (.int .u8 4), .lit (.int .u8 62), .lit (.int .u8 47), .lit (.int .u8 59), .lit (.int .u8 36), .lit (.int .u8 45), .lit (.int .u8 43), .lit (.int .u8 51), .lit (.int .u8 22), .lit (.int .u8 53), .lit (.int .u8 39), .lit (.int .u8 33), .lit (.int .u8 30), .lit (.int .u8 24), .lit (.int .u8 18), .lit (.int .u8 12), .lit (.int .u8 5), .lit (.int .u8 63), .lit (.int .u8 55), .lit (.int .u8 48), .lit (.int .u8 27), .lit (.int .u8 60), .lit (.int .u8 41), .lit (.int .u8 37), .lit (.int .u8 16), .lit (.int .u8 46), .lit (.int .u8 35), .lit (.int .u8 44), .lit (.int .u8 21), .lit (.int .u8 52), .lit (.int .u8 32), .lit (.int .u8 23), .lit (.int .u8 11), .lit (.int .u8 54), .lit (.int .u8 26), .lit (.int .u8 40), .lit (.int .u8 15), .lit (.int .u8 34), .lit (.int .u8 20), .lit (.int .u8 31), .lit (.int .u8 10), .lit (.int .u8 25), .lit (.int .u8 14), .lit (.int .u8 19), .lit (.int .u8 9), .lit (.int .u8 13), .lit (.int .u8 8), .lit (.int .u8 7), .lit (.int .u8 6)]
def laid_internal_strconv_uint64pow10 {H : Type} : DataW H := .agg [.lit (.int .u64 1), .lit (.int .u64 10), .lit (.int .u64 100), .lit (.int .u64 1000), .lit (.int .u64 10000), .lit (.int .u64 100000), .lit (.int .u64 1000000), .lit (.int .u64 10000000), .lit (.int .u64 100000000), .lit (.int .u64 1000000000), .lit (.int .u64 10000000000), .lit (.int .u64 100000000000), .lit (.int .u64 1000000000000), .lit (.int .u64 10000000000000), .lit (.int .u64 100000000000000), .lit (.int .u64 1000000000000000), .lit (.int .u64 10000000000000000), .lit (.int .u64 100000000000000000), .lit (.int .u64 1000000000000000000), .lit (.int .u64 10000000000000000000)]
def laid_strconv_ErrRange {H : Type} : DataW H := .iface "*errors.errorString" (.ptr (.agg [.lit (.string [118, 97, 108, 117, 101, 32, 111, 117, 116, 32, 111, 102, 32, 114, 97, 110, 103, 101])]))
def laid_strconv_ErrSyntax {H : Type} : DataW H := .iface "*errors.errorString" (.ptr (.agg [.lit (.string [105, 110, 118, 97, 108, 105, 100, 32, 115, 121, 110, 116, 97, 120])]))

/-- 'laws.FnTok': WHATEVER THE INPUT: true; the input reads as it did. -/
def fnTokSpec : ChangeSpec := { name := "fnTok", vars := ["loop.example/godown/impl.byteClasses"], fn := fun _ => fun
  | [d, g1] => { results := [.lit (.bool true)], args := [d], vars := [g1] }
  | _ => none }
def fnTokRow : OpenClaim := { program := "ytmeblmoinanciaadoor", sum := "b3140471f564402f595f06d2b387f7cda77bf5480cef4a840be2b7d56f46bd56", func := "loop.example/godown/laws.FnTok", spec := "fnTok", inPlace := ["internal/bytealg.IndexByteString", "internal/bytealg.IndexString"], named := ["loop.example/godown/impl.byteClasses", "unicode/utf8.first", "unicode/utf8.acceptRanges", "internal/bytealg.MaxLen"], apart := false, laid := [("unicode/utf8.acceptRanges", laid_unicode_utf8_acceptRanges), ("loop.example/godown/impl.byteClasses", laid_loop_example_godown_impl_byteClasses), ("unicode/utf8.first", laid_unicode_utf8_first)] }
def FnTokSaid : Prop := fnTokRow.holds Tryd.pinned (OpenSpec.ofChange fnTokSpec)

/-- ITS FALSE NEIGHBOUR: 'it returns false'. Refute it at one input. -/
def fnTokWrong : ChangeSpec := { name := "fnTok", vars := ["loop.example/godown/impl.byteClasses"], fn := fun _ => fun
  | [d, g1] => { results := [.lit (.bool false)], args := [d], vars := [g1] }
  | _ => none }
def FnTokWrongFalsely : Prop := fnTokRow.holds Tryd.pinned (OpenSpec.ofChange fnTokWrong)

/-- 'laws.FnNumText': WHATEVER THE INPUT: true; the input reads as it did. -/
def fnNumTextSpec : ChangeSpec := { name := "fnNumText", vars := ["loop.example/godown/impl.byteClasses"], fn := fun _ => fun
  | [d1, d2, g1] => { results := [.lit (.bool true)], args := [d1, d2], vars := [g1] }
  | _ => none }
def fnNumTextRow : OpenClaim := { program := "ytmeblmoinanciaadoor", sum := "b3140471f564402f595f06d2b387f7cda77bf5480cef4a840be2b7d56f46bd56", func := "loop.example/godown/laws.FnNumText", spec := "fnNumText", named := ["strconv.ErrSyntax", "strconv.ErrRange", "internal/strconv.uint64pow10", "math/bits.deBruijn32tab", "math/bits.deBruijn64tab", "loop.example/godown/impl.byteClasses"], apart := false, laid := [("math/bits.deBruijn32tab", laid_math_bits_deBruijn32tab), ("math/bits.deBruijn64tab", laid_math_bits_deBruijn64tab), ("internal/strconv.uint64pow10", laid_internal_strconv_uint64pow10), ("strconv.ErrRange", laid_strconv_ErrRange), ("strconv.ErrSyntax", laid_strconv_ErrSyntax), ("loop.example/godown/impl.byteClasses", laid_loop_example_godown_impl_byteClasses)] }
def FnNumTextSaid : Prop := fnNumTextRow.holds Tryd.pinned (OpenSpec.ofChange fnNumTextSpec)

/-- ITS FALSE NEIGHBOUR: 'it returns false'. Refute it at one input. -/
def fnNumTextWrong : ChangeSpec := { name := "fnNumText", vars := ["loop.example/godown/impl.byteClasses"], fn := fun _ => fun
  | [d1, d2, g1] => { results := [.lit (.bool false)], args := [d1, d2], vars := [g1] }
  | _ => none }
def FnNumTextWrongFalsely : Prop := fnNumTextRow.holds Tryd.pinned (OpenSpec.ofChange fnNumTextWrong)

/-- 'laws.FnTxtTrim': WHATEVER THE INPUT: true; the input reads as it did. -/
def fnTxtTrimSpec : ChangeSpec := { name := "fnTxtTrim", vars := ["loop.example/godown/impl.byteClasses"], fn := fun _ => fun
  | [d, g1] => { results := [.lit (.bool true)], args := [d], vars := [g1] }
  | _ => none }
def fnTxtTrimRow : OpenClaim := { program := "ytmeblmoinanciaadoor", sum := "b3140471f564402f595f06d2b387f7cda77bf5480cef4a840be2b7d56f46bd56", func := "loop.example/godown/laws.FnTxtTrim", spec := "fnTxtTrim", inPlace := ["internal/bytealg.IndexByteString", "internal/bytealg.IndexString"], named := ["unicode/utf8.first", "unicode/utf8.acceptRanges", "loop.example/godown/impl.byteClasses", "internal/bytealg.MaxLen"], apart := false, laid := [("unicode/utf8.acceptRanges", laid_unicode_utf8_acceptRanges), ("loop.example/godown/impl.byteClasses", laid_loop_example_godown_impl_byteClasses), ("unicode/utf8.first", laid_unicode_utf8_first)] }
def FnTxtTrimSaid : Prop := fnTxtTrimRow.holds Tryd.pinned (OpenSpec.ofChange fnTxtTrimSpec)

/-- ITS FALSE NEIGHBOUR: 'it returns false'. Refute it at one input. -/
def fnTxtTrimWrong : ChangeSpec := { name := "fnTxtTrim", vars := ["loop.example/godown/impl.byteClasses"], fn := fun _ => fun
  | [d, g1] => { results := [.lit (.bool false)], args := [d], vars := [g1] }
  | _ => none }
def FnTxtTrimWrongFalsely : Prop := fnTxtTrimRow.holds Tryd.pinned (OpenSpec.ofChange fnTxtTrimWrong)

/-- 'laws.FnTxtLower': WHATEVER THE INPUT: true; the input reads as it did. -/
def fnTxtLowerSpec : ChangeSpec := { name := "fnTxtLower", vars := ["loop.example/godown/impl.byteClasses"], fn := fun _ => fun
  | [d, g1] => { results := [.lit (.bool true)], args := [d], vars := [g1] }
  | _ => none }
def fnTxtLowerRow : OpenClaim := { program := "ytmeblmoinanciaadoor", sum := "b3140471f564402f595f06d2b387f7cda77bf5480cef4a840be2b7d56f46bd56", func := "loop.example/godown/laws.FnTxtLower", spec := "fnTxtLower", named := ["loop.example/godown/impl.byteClasses"], apart := false, laid := [("loop.example/godown/impl.byteClasses", laid_loop_example_godown_impl_byteClasses)] }
def FnTxtLowerSaid : Prop := fnTxtLowerRow.holds Tryd.pinned (OpenSpec.ofChange fnTxtLowerSpec)

/-- ITS FALSE NEIGHBOUR: 'it returns false'. Refute it at one input. -/
def fnTxtLowerWrong : ChangeSpec := { name := "fnTxtLower", vars := ["loop.example/godown/impl.byteClasses"], fn := fun _ => fun
  | [d, g1] => { results := [.lit (.bool false)], args := [d], vars := [g1] }
  | _ => none }
def FnTxtLowerWrongFalsely : Prop := fnTxtLowerRow.holds Tryd.pinned (OpenSpec.ofChange fnTxtLowerWrong)

/-- 'laws.FnExactTokOk': WHATEVER THE INPUT: true; the input reads as it did. -/
def fnExactTokOkSpec : ChangeSpec := { name := "fnExactTokOk", vars := ["loop.example/godown/impl.byteClasses"], fn := fun _ => fun
  | [d, g1] => { results := [.lit (.bool true)], args := [d], vars := [g1] }
  | _ => none }
def fnExactTokOkRow : OpenClaim := { program := "ytmeblmoinanciaadoor", sum := "b3140471f564402f595f06d2b387f7cda77bf5480cef4a840be2b7d56f46bd56", func := "loop.example/godown/laws.FnExactTokOk", spec := "fnExactTokOk", named := ["loop.example/godown/impl.byteClasses"], apart := false, laid := [("loop.example/godown/impl.byteClasses", laid_loop_example_godown_impl_byteClasses)] }
def FnExactTokOkSaid : Prop := fnExactTokOkRow.holds Tryd.pinned (OpenSpec.ofChange fnExactTokOkSpec)

/-- ITS FALSE NEIGHBOUR: 'it returns false'. Refute it at one input. -/
def fnExactTokOkWrong : ChangeSpec := { name := "fnExactTokOk", vars := ["loop.example/godown/impl.byteClasses"], fn := fun _ => fun
  | [d, g1] => { results := [.lit (.bool false)], args := [d], vars := [g1] }
  | _ => none }
def FnExactTokOkWrongFalsely : Prop := fnExactTokOkRow.holds Tryd.pinned (OpenSpec.ofChange fnExactTokOkWrong)

/-- 'laws.FnExactNumText': WHATEVER THE INPUT: true; the input reads as it did. -/
def fnExactNumTextSpec : ChangeSpec := { name := "fnExactNumText", fn := fun _ => fun
  | [d] => { results := [.lit (.bool true)], args := [d] }
  | _ => none }
def fnExactNumTextRow : OpenClaim := { program := "ytmeblmoinanciaadoor", sum := "b3140471f564402f595f06d2b387f7cda77bf5480cef4a840be2b7d56f46bd56", func := "loop.example/godown/laws.FnExactNumText", spec := "fnExactNumText", named := ["internal/strconv.uint64pow10", "math/bits.deBruijn32tab", "math/bits.deBruijn64tab"], apart := false, laid := [("math/bits.deBruijn32tab", laid_math_bits_deBruijn32tab), ("math/bits.deBruijn64tab", laid_math_bits_deBruijn64tab), ("internal/strconv.uint64pow10", laid_internal_strconv_uint64pow10)] }
def FnExactNumTextSaid : Prop := fnExactNumTextRow.holds Tryd.pinned (OpenSpec.ofChange fnExactNumTextSpec)

/-- ITS FALSE NEIGHBOUR: 'it returns false'. Refute it at one input. -/
def fnExactNumTextWrong : ChangeSpec := { name := "fnExactNumText", fn := fun _ => fun
  | [d] => { results := [.lit (.bool false)], args := [d] }
  | _ => none }
def FnExactNumTextWrongFalsely : Prop := fnExactNumTextRow.holds Tryd.pinned (OpenSpec.ofChange fnExactNumTextWrong)

/-- 'laws.FnExactNumRead': WHATEVER THE INPUT: true; the input reads as it did. -/
def fnExactNumReadSpec : ChangeSpec := { name := "fnExactNumRead", fn := fun _ => fun
  | [d] => { results := [.lit (.bool true)], args := [d] }
  | _ => none }
def fnExactNumReadRow : OpenClaim := { program := "ytmeblmoinanciaadoor", sum := "b3140471f564402f595f06d2b387f7cda77bf5480cef4a840be2b7d56f46bd56", func := "loop.example/godown/laws.FnExactNumRead", spec := "fnExactNumRead", named := ["strconv.ErrSyntax", "strconv.ErrRange", "internal/strconv.uint64pow10", "math/bits.deBruijn32tab", "math/bits.deBruijn64tab"], apart := false, laid := [("math/bits.deBruijn32tab", laid_math_bits_deBruijn32tab), ("math/bits.deBruijn64tab", laid_math_bits_deBruijn64tab), ("internal/strconv.uint64pow10", laid_internal_strconv_uint64pow10), ("strconv.ErrRange", laid_strconv_ErrRange), ("strconv.ErrSyntax", laid_strconv_ErrSyntax)] }
def FnExactNumReadSaid : Prop := fnExactNumReadRow.holds Tryd.pinned (OpenSpec.ofChange fnExactNumReadSpec)

/-- ITS FALSE NEIGHBOUR: 'it returns false'. Refute it at one input. -/
def fnExactNumReadWrong : ChangeSpec := { name := "fnExactNumRead", fn := fun _ => fun
  | [d] => { results := [.lit (.bool false)], args := [d] }
  | _ => none }
def FnExactNumReadWrongFalsely : Prop := fnExactNumReadRow.holds Tryd.pinned (OpenSpec.ofChange fnExactNumReadWrong)

/-- 'laws.FnExactTxtLower': WHATEVER THE INPUT: true; the input reads as it did. -/
def fnExactTxtLowerSpec : ChangeSpec := { name := "fnExactTxtLower", vars := ["loop.example/godown/impl.byteClasses"], fn := fun _ => fun
  | [d, g1] => { results := [.lit (.bool true)], args := [d], vars := [g1] }
  | _ => none }
def fnExactTxtLowerRow : OpenClaim := { program := "ytmeblmoinanciaadoor", sum := "b3140471f564402f595f06d2b387f7cda77bf5480cef4a840be2b7d56f46bd56", func := "loop.example/godown/laws.FnExactTxtLower", spec := "fnExactTxtLower", named := ["loop.example/godown/impl.byteClasses"], apart := false, laid := [("loop.example/godown/impl.byteClasses", laid_loop_example_godown_impl_byteClasses)] }
def FnExactTxtLowerSaid : Prop := fnExactTxtLowerRow.holds Tryd.pinned (OpenSpec.ofChange fnExactTxtLowerSpec)

/-- ITS FALSE NEIGHBOUR: 'it returns false'. Refute it at one input. -/
def fnExactTxtLowerWrong : ChangeSpec := { name := "fnExactTxtLower", vars := ["loop.example/godown/impl.byteClasses"], fn := fun _ => fun
  | [d, g1] => { results := [.lit (.bool false)], args := [d], vars := [g1] }
  | _ => none }
def FnExactTxtLowerWrongFalsely : Prop := fnExactTxtLowerRow.holds Tryd.pinned (OpenSpec.ofChange fnExactTxtLowerWrong)

/-- 'laws.FnExactTxtTrim': WHATEVER THE INPUT: true; the input reads as it did. -/
def fnExactTxtTrimSpec : ChangeSpec := { name := "fnExactTxtTrim", fn := fun _ => fun
  | [d] => { results := [.lit (.bool true)], args := [d] }
  | _ => none }
def fnExactTxtTrimRow : OpenClaim := { program := "ytmeblmoinanciaadoor", sum := "b3140471f564402f595f06d2b387f7cda77bf5480cef4a840be2b7d56f46bd56", func := "loop.example/godown/laws.FnExactTxtTrim", spec := "fnExactTxtTrim", inPlace := ["internal/bytealg.IndexByteString", "internal/bytealg.IndexString"], named := ["unicode/utf8.first", "unicode/utf8.acceptRanges", "internal/bytealg.MaxLen"], apart := false, laid := [("unicode/utf8.acceptRanges", laid_unicode_utf8_acceptRanges), ("unicode/utf8.first", laid_unicode_utf8_first)] }
def FnExactTxtTrimSaid : Prop := fnExactTxtTrimRow.holds Tryd.pinned (OpenSpec.ofChange fnExactTxtTrimSpec)

/-- ITS FALSE NEIGHBOUR: 'it returns false'. Refute it at one input. -/
def fnExactTxtTrimWrong : ChangeSpec := { name := "fnExactTxtTrim", fn := fun _ => fun
  | [d] => { results := [.lit (.bool false)], args := [d] }
  | _ => none }
def FnExactTxtTrimWrongFalsely : Prop := fnExactTxtTrimRow.holds Tryd.pinned (OpenSpec.ofChange fnExactTxtTrimWrong)

/- THE SECOND FORM. 'bulk': how many values and letters a reading holds, each counted each time it is reached (what is shared counts as often as it is met; a slice's spare places count too). A statement '..UptoSaid' is the law's where the arguments, and the package variables that the reading takes, are together of bulk at most 1048576: NARROWER than '..Said'. Prove '..Said' where nothing that the law and all that it calls make is longer than what came in: it says more and counts as full. Else prove '..UptoSaid'. A law counts once. -/
mutual
def uptoBulk {H : Type} : DataW H → Nat
  | .lit (.string bytes) => bytes.length + 1
  | .lit _ => 1
  | .nil => 1
  | .ptr d => uptoBulk d + 1
  | .slice elems spare => uptoBulkAll elems + uptoBulkAll spare + 1
  | .agg parts => uptoBulkAll parts + 1
  | .iface _ d => uptoBulk d + 1
  | .map entries => uptoBulkEntries entries + 1
  | .held _ => 1
def uptoBulkAll {H : Type} : List (DataW H) → Nat
  | [] => 0
  | d :: r => uptoBulk d + uptoBulkAll r
def uptoBulkEntries {H : Type} : List (Lit × DataW H) → Nat
  | [] => 0
  | x :: r => uptoBulkEntry x + uptoBulkEntries r
def uptoBulkEntry {H : Type} : Lit × DataW H → Nat
  | (.string bytes, d) => bytes.length + uptoBulk d + 1
  | (_, d) => uptoBulk d + 1
 end
def uptoSmall : (H : Type) → List (DataW H) → Bool := fun _ ds => decide (uptoBulkAll ds ≤ 1048576)
def OpenSpec.upto (s : _root_.Go.ChangeSpec) : _root_.Go.OpenSpec := { _root_.Go.OpenSpec.ofChange s with cond := some uptoSmall }

/-- 'laws.FnTok', WHERE WHAT IT READS IS OF BULK AT MOST 1048576: true; the input reads as it did. -/
def fnTokUptoRow : OpenClaim := { program := "ytmeblmoinanciaadoor", sum := "b3140471f564402f595f06d2b387f7cda77bf5480cef4a840be2b7d56f46bd56", func := "loop.example/godown/laws.FnTok", spec := "fnTok", inPlace := ["internal/bytealg.IndexByteString", "internal/bytealg.IndexString"], named := ["loop.example/godown/impl.byteClasses", "unicode/utf8.first", "unicode/utf8.acceptRanges", "internal/bytealg.MaxLen"], apart := false, laid := [("unicode/utf8.acceptRanges", laid_unicode_utf8_acceptRanges), ("loop.example/godown/impl.byteClasses", laid_loop_example_godown_impl_byteClasses), ("unicode/utf8.first", laid_unicode_utf8_first)], narrowed := true }
def FnTokUptoSaid : Prop := fnTokUptoRow.holds Tryd.pinned (OpenSpec.upto fnTokSpec)

/-- 'laws.FnNumText', WHERE WHAT IT READS IS OF BULK AT MOST 1048576: true; the input reads as it did. -/
def fnNumTextUptoRow : OpenClaim := { program := "ytmeblmoinanciaadoor", sum := "b3140471f564402f595f06d2b387f7cda77bf5480cef4a840be2b7d56f46bd56", func := "loop.example/godown/laws.FnNumText", spec := "fnNumText", named := ["strconv.ErrSyntax", "strconv.ErrRange", "internal/strconv.uint64pow10", "math/bits.deBruijn32tab", "math/bits.deBruijn64tab", "loop.example/godown/impl.byteClasses"], apart := false, laid := [("math/bits.deBruijn32tab", laid_math_bits_deBruijn32tab), ("math/bits.deBruijn64tab", laid_math_bits_deBruijn64tab), ("internal/strconv.uint64pow10", laid_internal_strconv_uint64pow10), ("strconv.ErrRange", laid_strconv_ErrRange), ("strconv.ErrSyntax", laid_strconv_ErrSyntax), ("loop.example/godown/impl.byteClasses", laid_loop_example_godown_impl_byteClasses)], narrowed := true }
def FnNumTextUptoSaid : Prop := fnNumTextUptoRow.holds Tryd.pinned (OpenSpec.upto fnNumTextSpec)

/-- 'laws.FnTxtTrim', WHERE WHAT IT READS IS OF BULK AT MOST 1048576: true; the input reads as it did. -/
def fnTxtTrimUptoRow : OpenClaim := { program := "ytmeblmoinanciaadoor", sum := "b3140471f564402f595f06d2b387f7cda77bf5480cef4a840be2b7d56f46bd56", func := "loop.example/godown/laws.FnTxtTrim", spec := "fnTxtTrim", inPlace := ["internal/bytealg.IndexByteString", "internal/bytealg.IndexString"], named := ["unicode/utf8.first", "unicode/utf8.acceptRanges", "loop.example/godown/impl.byteClasses", "internal/bytealg.MaxLen"], apart := false, laid := [("unicode/utf8.acceptRanges", laid_unicode_utf8_acceptRanges), ("loop.example/godown/impl.byteClasses", laid_loop_example_godown_impl_byteClasses), ("unicode/utf8.first", laid_unicode_utf8_first)], narrowed := true }
def FnTxtTrimUptoSaid : Prop := fnTxtTrimUptoRow.holds Tryd.pinned (OpenSpec.upto fnTxtTrimSpec)

/-- 'laws.FnTxtLower', WHERE WHAT IT READS IS OF BULK AT MOST 1048576: true; the input reads as it did. -/
def fnTxtLowerUptoRow : OpenClaim := { program := "ytmeblmoinanciaadoor", sum := "b3140471f564402f595f06d2b387f7cda77bf5480cef4a840be2b7d56f46bd56", func := "loop.example/godown/laws.FnTxtLower", spec := "fnTxtLower", named := ["loop.example/godown/impl.byteClasses"], apart := false, laid := [("loop.example/godown/impl.byteClasses", laid_loop_example_godown_impl_byteClasses)], narrowed := true }
def FnTxtLowerUptoSaid : Prop := fnTxtLowerUptoRow.holds Tryd.pinned (OpenSpec.upto fnTxtLowerSpec)

/-- 'laws.FnExactTokOk', WHERE WHAT IT READS IS OF BULK AT MOST 1048576: true; the input reads as it did. -/
def fnExactTokOkUptoRow : OpenClaim := { program := "ytmeblmoinanciaadoor", sum := "b3140471f564402f595f06d2b387f7cda77bf5480cef4a840be2b7d56f46bd56", func := "loop.example/godown/laws.FnExactTokOk", spec := "fnExactTokOk", named := ["loop.example/godown/impl.byteClasses"], apart := false, laid := [("loop.example/godown/impl.byteClasses", laid_loop_example_godown_impl_byteClasses)], narrowed := true }
def FnExactTokOkUptoSaid : Prop := fnExactTokOkUptoRow.holds Tryd.pinned (OpenSpec.upto fnExactTokOkSpec)

/-- 'laws.FnExactNumText', WHERE WHAT IT READS IS OF BULK AT MOST 1048576: true; the input reads as it did. -/
def fnExactNumTextUptoRow : OpenClaim := { program := "ytmeblmoinanciaadoor", sum := "b3140471f564402f595f06d2b387f7cda77bf5480cef4a840be2b7d56f46bd56", func := "loop.example/godown/laws.FnExactNumText", spec := "fnExactNumText", named := ["internal/strconv.uint64pow10", "math/bits.deBruijn32tab", "math/bits.deBruijn64tab"], apart := false, laid := [("math/bits.deBruijn32tab", laid_math_bits_deBruijn32tab), ("math/bits.deBruijn64tab", laid_math_bits_deBruijn64tab), ("internal/strconv.uint64pow10", laid_internal_strconv_uint64pow10)], narrowed := true }
def FnExactNumTextUptoSaid : Prop := fnExactNumTextUptoRow.holds Tryd.pinned (OpenSpec.upto fnExactNumTextSpec)

/-- 'laws.FnExactNumRead', WHERE WHAT IT READS IS OF BULK AT MOST 1048576: true; the input reads as it did. -/
def fnExactNumReadUptoRow : OpenClaim := { program := "ytmeblmoinanciaadoor", sum := "b3140471f564402f595f06d2b387f7cda77bf5480cef4a840be2b7d56f46bd56", func := "loop.example/godown/laws.FnExactNumRead", spec := "fnExactNumRead", named := ["strconv.ErrSyntax", "strconv.ErrRange", "internal/strconv.uint64pow10", "math/bits.deBruijn32tab", "math/bits.deBruijn64tab"], apart := false, laid := [("math/bits.deBruijn32tab", laid_math_bits_deBruijn32tab), ("math/bits.deBruijn64tab", laid_math_bits_deBruijn64tab), ("internal/strconv.uint64pow10", laid_internal_strconv_uint64pow10), ("strconv.ErrRange", laid_strconv_ErrRange), ("strconv.ErrSyntax", laid_strconv_ErrSyntax)], narrowed := true }
def FnExactNumReadUptoSaid : Prop := fnExactNumReadUptoRow.holds Tryd.pinned (OpenSpec.upto fnExactNumReadSpec)

/-- 'laws.FnExactTxtLower', WHERE WHAT IT READS IS OF BULK AT MOST 1048576: true; the input reads as it did. -/
def fnExactTxtLowerUptoRow : OpenClaim := { program := "ytmeblmoinanciaadoor", sum := "b3140471f564402f595f06d2b387f7cda77bf5480cef4a840be2b7d56f46bd56", func := "loop.example/godown/laws.FnExactTxtLower", spec := "fnExactTxtLower", named := ["loop.example/godown/impl.byteClasses"], apart := false, laid := [("loop.example/godown/impl.byteClasses", laid_loop_example_godown_impl_byteClasses)], narrowed := true }
def FnExactTxtLowerUptoSaid : Prop := fnExactTxtLowerUptoRow.holds Tryd.pinned (OpenSpec.upto fnExactTxtLowerSpec)

/-- 'laws.FnExactTxtTrim', WHERE WHAT IT READS IS OF BULK AT MOST 1048576: true; the input reads as it did. -/
def fnExactTxtTrimUptoRow : OpenClaim := { program := "ytmeblmoinanciaadoor", sum := "b3140471f564402f595f06d2b387f7cda77bf5480cef4a840be2b7d56f46bd56", func := "loop.example/godown/laws.FnExactTxtTrim", spec := "fnExactTxtTrim", inPlace := ["internal/bytealg.IndexByteString", "internal/bytealg.IndexString"], named := ["unicode/utf8.first", "unicode/utf8.acceptRanges", "internal/bytealg.MaxLen"], apart := false, laid := [("unicode/utf8.acceptRanges", laid_unicode_utf8_acceptRanges), ("unicode/utf8.first", laid_unicode_utf8_first)], narrowed := true }
def FnExactTxtTrimUptoSaid : Prop := fnExactTxtTrimUptoRow.holds Tryd.pinned (OpenSpec.upto fnExactTxtTrimSpec)

end Rows
end Go.Proofs.YtmeblmoinanciaaDoor
