/-
  NARROWER THAN 'FOR EVERY INPUT', by the rows' own cells (each row's printed sentence says how): FnTxtTrim: laid · FnUriCanon: laid · FnUriSame: laid · FnUriUnder: laid · FnUriPath: laid · FnUriDigits: laid · FnExactUriCanon: laid.
  DERIVED. THE GIVEN ROWS OF THIS SEAT. 7 by the template 'for every input the law returns true; each argument reads behind the call as it read before'; 0 by the template 'total and deterministic' (their statements: YthmljebpjohibaaDoorTotals.lean).
  GIVEN WITH THE SEED: the statements are not yours to turn. If you find one false, say at which input.
  Laid BY PROGRAM, IN A SANDBOX (cutbox-rows.mjs): the forced cells as the released guide's own fill.sh prints them over the translation 5a235f98047eeff7… (all of the seat's roots in one cut). By AI agents, Wed Nov 11 2026. No macro, syntax, notation, axiom, sorry.
-/
import Derived.Test.YthmljebpjohibaaDoorChecked
import GoSem.PinnedTables
import GoSem.Claim
import GoSem.ClaimJoined
import GoSem.ClaimMapViews
import Derived.JoinedTies
import Derived.KernelRfl
namespace Go.Proofs.YthmljebpjohibaaDoor
/- THE CELL 'sum', in the pinned program and in every row, IS THE sha256 OF THE DUMP (.gsa) THAT YthmljebpjohibaaDoorProg.lean LOADS. Nothing in Lean hashes anything: it is a label: what it is worth is what the hold of that sum in a sandbox is worth. -/
noncomputable def Tryd.pinned : Pinned := { name := "ythmljebpjohibaadoor", sum := "5a235f98047eeff7cb02937869a6bd19c7de4efc3214fcc14ad9ac3fd4b74f9c", checked := Tryd.checked }
namespace Rows
def none {H : Type} : Left H := { results := [], args := [] }

/- WHAT THE LISTED PACKAGE-LEVEL VARIABLES READ AS WHEN THE CALL BEGINS. Each datum BY PROGRAM (the guide's laid-datum.mjs) off the statement by which the dump's own 'gosem.cut.vars' lays the variable. In a bare row this is a premise. The card (YthmljebpjohibaaDoorCards.lean) ties it to the program's text. -/
def laid_unicode_utf8_acceptRanges {H : Type} : DataW H := .agg [.agg [.lit (.int .u8 128), .lit (.int .u8 191)], .agg [.lit (.int .u8 160), .lit (.int .u8 191)], .agg [.lit (.int .u8 128), .lit (.int .u8 159)], .agg [.lit (.int .u8 144), .lit (.int .u8 191)], .agg [.lit (.int .u8 128), .lit (.int .u8 143)], .agg [.lit (.int .u8 0), .lit (.int .u8 0)], .agg [.lit (.int .u8 0), .lit (.int .u8 0)], .agg [.lit (.int .u8 0), .lit (.int .u8 0)], .agg [.lit (.int .u8 0), .lit (.int .u8 0)], .agg [.lit (.int .u8 0), .lit (.int .u8 0)], .agg [.lit (.int .u8 0), .lit (.int .u8 0)], .agg [.lit (.int .u8 0), .lit (.int .u8 0)], .agg [.lit (.int .u8 0), .lit (.int .u8 0)], .agg [.lit (.int .u8 0), .lit (.int .u8 0)], .agg [.lit (.int .u8 0), .lit (.int .u8 0)], .agg [.lit (.int .u8 0), .lit (.int .u8 0)]]
def laid_loop_example_godown_impl_byteClasses {H : Type} : DataW H := .agg [.lit (.int .u8 0), .lit (.int .u8 0), .lit (.int .u8 0), .lit (.int .u8 0), .lit (.int .u8 0), .lit (.int .u8 0), .lit (.int .u8 0), .lit (.int .u8 0), .lit (.int .u8 0), .lit (.int .u8 0), .lit (.int .u8 0), .lit (.int .u8 0), .lit (.int .u8 0), .lit (.int .u8 0), .lit (.int .u8 0), .lit (.int .u8 0), .lit (.int .u8 0), .lit (.int .u8 0), .lit (.int .u8 0), .lit (.int .u8 0), .lit (.int .u8 0), .lit (.int .u8 0), .lit (.int .u8 0), .lit (.int .u8 0), .lit (.int .u8 0), .lit (.int .u8 0), .lit (.int .u8 0), .lit (.int .u8 0), .lit (.int .u8 0), .lit (.int .u8 0), .lit (.int .u8 0), .lit (.int .u8 0), .lit (.int .u8 0), .lit (.int .u8 0), .lit (.int .u8 0), .lit (.int .u8 0), .lit (.int .u8 0), .lit (.int .u8 0), .lit (.int .u8 0), .lit (.int .u8 0), .lit (.int .u8 0), .lit (.int .u8 0), .lit (.int .u8 0), .lit (.int .u8 0), .lit (.int .u8 0), .lit (.int .u8 1), .lit (.int .u8 0), .lit (.int .u8 0), .lit (.int .u8 1), .lit (.int .u8 1), .lit (.int .u8 1), .lit (.int .u8 1), .lit (.int .u8 1), .lit (.int .u8 1), .lit (.int .u8 1), .lit (.int .u8 1), .lit (.int .u8 1), .lit (.int .u8 1), .lit (.int .u8 0), .lit (.int .u8 0), .lit (.int .u8 0), .lit (.int .u8 0), .lit (.int .u8 0), .lit (.int .u8 0), .lit (.int .u8 0), .lit (.int .u8 2), .lit (.int .u8 2), .lit (.int .u8 2), .lit (.int .u8 2), .lit (.int .u8 2), .lit (.int .u8 2), .lit (.int .u8 2), .lit (.int .u8 2), .lit (.int .u8 2), .lit (.int .u8 2), .lit (.int .u8 2), .lit (.int .u8 2), .lit (.int .u8 2), .lit (.int .u8 2), .lit (.int .u8 2), .lit (.int .u8 2), .lit (.int .u8 2), .lit (.int .u8 2), .lit (.int .u8 2), .lit (.int .u8 2), .lit (.int .u8 2), .lit (.int .u8 2), .lit (.int .u8 2), .lit (.int .u8 2), .lit (.int .u8 2), .lit (.int .u8 2), .lit (.int .u8 0), .lit (.int .u8 0), .lit (.int .u8 0), .lit (.int .u8 0), .lit (.int .u8 0), .lit (.int .u8 0), .lit (.int .u8 1), .lit (.int .u8 1), .lit (.int .u8 1), .lit (.int .u8 1), .lit (.int .u8 1), .lit (.int .u8 1), .lit (.int .u8 1), .lit (.int .u8 1), .lit (.int .u8 1), .lit (.int .u8 1), .lit (.int .u8 1), .lit (.int .u8 1), .lit (.int .u8 1), .lit (.int .u8 1), .lit (.int .u8 1), .lit (.int .u8 1), .lit (.int .u8 1), .lit (.int .u8 1), .lit (.int .u8 1), .lit (.int .u8 1), .lit (.int .u8 1), .lit (.int .u8 1), .lit (.int .u8 1), .lit (.int .u8 1), .lit (.int .u8 1), .lit (.int .u8 1)]
/-- One of Go's own tables, pinned by name: the form's constant. -/
def laid_unicode_utf8_first : DataW Unit := Go.Pinned.utf8First

/-- 'laws.FnTxtTrim': WHATEVER THE INPUT: true; the input reads as it did. -/
def fnTxtTrimSpec : ChangeSpec := { name := "fnTxtTrim", vars := ["loop.example/godown/impl.byteClasses"], fn := fun _ => fun
  | [d, g1] => { results := [.lit (.bool true)], args := [d], vars := [g1] }
  | _ => none }
def fnTxtTrimRow : OpenClaim := { program := "ythmljebpjohibaadoor", sum := "5a235f98047eeff7cb02937869a6bd19c7de4efc3214fcc14ad9ac3fd4b74f9c", func := "loop.example/godown/laws.FnTxtTrim", spec := "fnTxtTrim", inPlace := ["internal/bytealg.IndexByteString", "internal/bytealg.IndexString"], named := ["unicode/utf8.first", "unicode/utf8.acceptRanges", "loop.example/godown/impl.byteClasses", "internal/bytealg.MaxLen"], apart := false, laid := [("unicode/utf8.acceptRanges", laid_unicode_utf8_acceptRanges), ("loop.example/godown/impl.byteClasses", laid_loop_example_godown_impl_byteClasses), ("unicode/utf8.first", laid_unicode_utf8_first)] }
def FnTxtTrimSaid : Prop := fnTxtTrimRow.holds Tryd.pinned (OpenSpec.ofChange fnTxtTrimSpec)

/-- ITS FALSE NEIGHBOUR: 'it returns false'. Refute it at one input. -/
def fnTxtTrimWrong : ChangeSpec := { name := "fnTxtTrim", vars := ["loop.example/godown/impl.byteClasses"], fn := fun _ => fun
  | [d, g1] => { results := [.lit (.bool false)], args := [d], vars := [g1] }
  | _ => none }
def FnTxtTrimWrongFalsely : Prop := fnTxtTrimRow.holds Tryd.pinned (OpenSpec.ofChange fnTxtTrimWrong)

/-- 'laws.FnUriCanon': WHATEVER THE INPUT: true; the input reads as it did. -/
def fnUriCanonSpec : ChangeSpec := { name := "fnUriCanon", vars := ["loop.example/godown/impl.byteClasses"], fn := fun _ => fun
  | [d, g1] => { results := [.lit (.bool true)], args := [d], vars := [g1] }
  | _ => none }
def fnUriCanonRow : OpenClaim := { program := "ythmljebpjohibaadoor", sum := "5a235f98047eeff7cb02937869a6bd19c7de4efc3214fcc14ad9ac3fd4b74f9c", func := "loop.example/godown/laws.FnUriCanon", spec := "fnUriCanon", inPlace := ["internal/bytealg.IndexByteString"], unfollowed := true, recurses := true, named := ["loop.example/godown/impl.byteClasses"], apart := false, laid := [("loop.example/godown/impl.byteClasses", laid_loop_example_godown_impl_byteClasses)] }
def FnUriCanonSaid : Prop := fnUriCanonRow.holds Tryd.pinned (OpenSpec.ofChange fnUriCanonSpec)

/-- ITS FALSE NEIGHBOUR: 'it returns false'. Refute it at one input. -/
def fnUriCanonWrong : ChangeSpec := { name := "fnUriCanon", vars := ["loop.example/godown/impl.byteClasses"], fn := fun _ => fun
  | [d, g1] => { results := [.lit (.bool false)], args := [d], vars := [g1] }
  | _ => none }
def FnUriCanonWrongFalsely : Prop := fnUriCanonRow.holds Tryd.pinned (OpenSpec.ofChange fnUriCanonWrong)

/-- 'laws.FnUriSame': WHATEVER THE INPUT: true; the input reads as it did. -/
def fnUriSameSpec : ChangeSpec := { name := "fnUriSame", vars := ["loop.example/godown/impl.byteClasses"], fn := fun _ => fun
  | [d1, d2, g1] => { results := [.lit (.bool true)], args := [d1, d2], vars := [g1] }
  | _ => none }
def fnUriSameRow : OpenClaim := { program := "ythmljebpjohibaadoor", sum := "5a235f98047eeff7cb02937869a6bd19c7de4efc3214fcc14ad9ac3fd4b74f9c", func := "loop.example/godown/laws.FnUriSame", spec := "fnUriSame", inPlace := ["internal/bytealg.IndexByteString"], unfollowed := true, recurses := true, named := ["loop.example/godown/impl.byteClasses"], apart := false, laid := [("loop.example/godown/impl.byteClasses", laid_loop_example_godown_impl_byteClasses)] }
def FnUriSameSaid : Prop := fnUriSameRow.holds Tryd.pinned (OpenSpec.ofChange fnUriSameSpec)

/-- ITS FALSE NEIGHBOUR: 'it returns false'. Refute it at one input. -/
def fnUriSameWrong : ChangeSpec := { name := "fnUriSame", vars := ["loop.example/godown/impl.byteClasses"], fn := fun _ => fun
  | [d1, d2, g1] => { results := [.lit (.bool false)], args := [d1, d2], vars := [g1] }
  | _ => none }
def FnUriSameWrongFalsely : Prop := fnUriSameRow.holds Tryd.pinned (OpenSpec.ofChange fnUriSameWrong)

/-- 'laws.FnUriUnder': WHATEVER THE INPUT: true; the input reads as it did. -/
def fnUriUnderSpec : ChangeSpec := { name := "fnUriUnder", vars := ["loop.example/godown/impl.byteClasses"], fn := fun _ => fun
  | [d1, d2, g1] => { results := [.lit (.bool true)], args := [d1, d2], vars := [g1] }
  | _ => none }
def fnUriUnderRow : OpenClaim := { program := "ythmljebpjohibaadoor", sum := "5a235f98047eeff7cb02937869a6bd19c7de4efc3214fcc14ad9ac3fd4b74f9c", func := "loop.example/godown/laws.FnUriUnder", spec := "fnUriUnder", inPlace := ["internal/bytealg.IndexByteString"], unfollowed := true, recurses := true, named := ["loop.example/godown/impl.byteClasses"], apart := false, laid := [("loop.example/godown/impl.byteClasses", laid_loop_example_godown_impl_byteClasses)] }
def FnUriUnderSaid : Prop := fnUriUnderRow.holds Tryd.pinned (OpenSpec.ofChange fnUriUnderSpec)

/-- ITS FALSE NEIGHBOUR: 'it returns false'. Refute it at one input. -/
def fnUriUnderWrong : ChangeSpec := { name := "fnUriUnder", vars := ["loop.example/godown/impl.byteClasses"], fn := fun _ => fun
  | [d1, d2, g1] => { results := [.lit (.bool false)], args := [d1, d2], vars := [g1] }
  | _ => none }
def FnUriUnderWrongFalsely : Prop := fnUriUnderRow.holds Tryd.pinned (OpenSpec.ofChange fnUriUnderWrong)

/-- 'laws.FnUriPath': WHATEVER THE INPUT: true; the input reads as it did. -/
def fnUriPathSpec : ChangeSpec := { name := "fnUriPath", vars := ["loop.example/godown/impl.byteClasses"], fn := fun _ => fun
  | [d, g1] => { results := [.lit (.bool true)], args := [d], vars := [g1] }
  | _ => none }
def fnUriPathRow : OpenClaim := { program := "ythmljebpjohibaadoor", sum := "5a235f98047eeff7cb02937869a6bd19c7de4efc3214fcc14ad9ac3fd4b74f9c", func := "loop.example/godown/laws.FnUriPath", spec := "fnUriPath", inPlace := ["internal/bytealg.IndexByteString"], unfollowed := true, recurses := true, named := ["loop.example/godown/impl.byteClasses"], apart := false, laid := [("loop.example/godown/impl.byteClasses", laid_loop_example_godown_impl_byteClasses)] }
def FnUriPathSaid : Prop := fnUriPathRow.holds Tryd.pinned (OpenSpec.ofChange fnUriPathSpec)

/-- ITS FALSE NEIGHBOUR: 'it returns false'. Refute it at one input. -/
def fnUriPathWrong : ChangeSpec := { name := "fnUriPath", vars := ["loop.example/godown/impl.byteClasses"], fn := fun _ => fun
  | [d, g1] => { results := [.lit (.bool false)], args := [d], vars := [g1] }
  | _ => none }
def FnUriPathWrongFalsely : Prop := fnUriPathRow.holds Tryd.pinned (OpenSpec.ofChange fnUriPathWrong)

/-- 'laws.FnUriDigits': WHATEVER THE INPUT: true; the input reads as it did. -/
def fnUriDigitsSpec : ChangeSpec := { name := "fnUriDigits", vars := ["loop.example/godown/impl.byteClasses"], fn := fun _ => fun
  | [d, g1] => { results := [.lit (.bool true)], args := [d], vars := [g1] }
  | _ => none }
def fnUriDigitsRow : OpenClaim := { program := "ythmljebpjohibaadoor", sum := "5a235f98047eeff7cb02937869a6bd19c7de4efc3214fcc14ad9ac3fd4b74f9c", func := "loop.example/godown/laws.FnUriDigits", spec := "fnUriDigits", inPlace := ["internal/bytealg.IndexByteString"], unfollowed := true, recurses := true, named := ["loop.example/godown/impl.byteClasses"], apart := false, laid := [("loop.example/godown/impl.byteClasses", laid_loop_example_godown_impl_byteClasses)] }
def FnUriDigitsSaid : Prop := fnUriDigitsRow.holds Tryd.pinned (OpenSpec.ofChange fnUriDigitsSpec)

/-- ITS FALSE NEIGHBOUR: 'it returns false'. Refute it at one input. -/
def fnUriDigitsWrong : ChangeSpec := { name := "fnUriDigits", vars := ["loop.example/godown/impl.byteClasses"], fn := fun _ => fun
  | [d, g1] => { results := [.lit (.bool false)], args := [d], vars := [g1] }
  | _ => none }
def FnUriDigitsWrongFalsely : Prop := fnUriDigitsRow.holds Tryd.pinned (OpenSpec.ofChange fnUriDigitsWrong)

/-- 'laws.FnExactUriCanon': WHATEVER THE INPUT: true; the input reads as it did. -/
def fnExactUriCanonSpec : ChangeSpec := { name := "fnExactUriCanon", vars := ["loop.example/godown/impl.byteClasses"], fn := fun _ => fun
  | [d, g1] => { results := [.lit (.bool true)], args := [d], vars := [g1] }
  | _ => none }
def fnExactUriCanonRow : OpenClaim := { program := "ythmljebpjohibaadoor", sum := "5a235f98047eeff7cb02937869a6bd19c7de4efc3214fcc14ad9ac3fd4b74f9c", func := "loop.example/godown/laws.FnExactUriCanon", spec := "fnExactUriCanon", inPlace := ["internal/bytealg.IndexByteString"], unfollowed := true, recurses := true, named := ["loop.example/godown/impl.byteClasses"], apart := false, laid := [("loop.example/godown/impl.byteClasses", laid_loop_example_godown_impl_byteClasses)] }
def FnExactUriCanonSaid : Prop := fnExactUriCanonRow.holds Tryd.pinned (OpenSpec.ofChange fnExactUriCanonSpec)

/-- ITS FALSE NEIGHBOUR: 'it returns false'. Refute it at one input. -/
def fnExactUriCanonWrong : ChangeSpec := { name := "fnExactUriCanon", vars := ["loop.example/godown/impl.byteClasses"], fn := fun _ => fun
  | [d, g1] => { results := [.lit (.bool false)], args := [d], vars := [g1] }
  | _ => none }
def FnExactUriCanonWrongFalsely : Prop := fnExactUriCanonRow.holds Tryd.pinned (OpenSpec.ofChange fnExactUriCanonWrong)

/- THE SECOND FORM. 'bulk': how many values and letters a reading holds, each counted each time it is reached (what is shared counts as often as it is met; a slice's spare places count too). A statement '..UptoSaid' is the law's where the arguments, and the package variables that the reading takes, are together of bulk at most 1048576: NARROWER than '..Said'. Prove '..Said' where nothing that the law and all that it calls make is longer than what came in: it says more and counts as full. Else prove '..UptoSaid'. A law counts once. -/
mutual
def uptoBulk {H : Type} : DataW H → Nat
  | .lit (.string bytes) => bytes.length + 1
  | .lit _ => 1
  | .nil => 1
  | .ptr d => uptoBulk d + 1
  | .slice elems spare => uptoBulkAll elems + uptoBulkAll spare + 1
  | .agg parts => uptoBulkAll parts + 1
  | .iface _ d => uptoBulk d + 1
  | .map entries => uptoBulkEntries entries + 1
  | .held _ => 1
def uptoBulkAll {H : Type} : List (DataW H) → Nat
  | [] => 0
  | d :: r => uptoBulk d + uptoBulkAll r
def uptoBulkEntries {H : Type} : List (Lit × DataW H) → Nat
  | [] => 0
  | x :: r => uptoBulkEntry x + uptoBulkEntries r
def uptoBulkEntry {H : Type} : Lit × DataW H → Nat
  | (.string bytes, d) => bytes.length + uptoBulk d + 1
  | (_, d) => uptoBulk d + 1
 end
def uptoSmall : (H : Type) → List (DataW H) → Bool := fun _ ds => decide (uptoBulkAll ds ≤ 1048576)
def OpenSpec.upto (s : _root_.Go.ChangeSpec) : _root_.Go.OpenSpec := { _root_.Go.OpenSpec.ofChange s with cond := some uptoSmall }

/-- 'laws.FnTxtTrim', WHERE WHAT IT READS IS OF BULK AT MOST 1048576: true; the input reads as it did. -/
def fnTxtTrimUptoRow : OpenClaim := { program := "ythmljebpjohibaadoor", sum := "5a235f98047eeff7cb02937869a6bd19c7de4efc3214fcc14ad9ac3fd4b74f9c", func := "loop.example/godown/laws.FnTxtTrim", spec := "fnTxtTrim", inPlace := ["internal/bytealg.IndexByteString", "internal/bytealg.IndexString"], named := ["unicode/utf8.first", "unicode/utf8.acceptRanges", "loop.example/godown/impl.byteClasses", "internal/bytealg.MaxLen"], apart := false, laid := [("unicode/utf8.acceptRanges", laid_unicode_utf8_acceptRanges), ("loop.example/godown/impl.byteClasses", laid_loop_example_godown_impl_byteClasses), ("unicode/utf8.first", laid_unicode_utf8_first)], narrowed := true }
def FnTxtTrimUptoSaid : Prop := fnTxtTrimUptoRow.holds Tryd.pinned (OpenSpec.upto fnTxtTrimSpec)

/-- 'laws.FnUriCanon', WHERE WHAT IT READS IS OF BULK AT MOST 1048576: true; the input reads as it did. -/
def fnUriCanonUptoRow : OpenClaim := { program := "ythmljebpjohibaadoor", sum := "5a235f98047eeff7cb02937869a6bd19c7de4efc3214fcc14ad9ac3fd4b74f9c", func := "loop.example/godown/laws.FnUriCanon", spec := "fnUriCanon", inPlace := ["internal/bytealg.IndexByteString"], unfollowed := true, recurses := true, named := ["loop.example/godown/impl.byteClasses"], apart := false, laid := [("loop.example/godown/impl.byteClasses", laid_loop_example_godown_impl_byteClasses)], narrowed := true }
def FnUriCanonUptoSaid : Prop := fnUriCanonUptoRow.holds Tryd.pinned (OpenSpec.upto fnUriCanonSpec)

/-- 'laws.FnUriSame', WHERE WHAT IT READS IS OF BULK AT MOST 1048576: true; the input reads as it did. -/
def fnUriSameUptoRow : OpenClaim := { program := "ythmljebpjohibaadoor", sum := "5a235f98047eeff7cb02937869a6bd19c7de4efc3214fcc14ad9ac3fd4b74f9c", func := "loop.example/godown/laws.FnUriSame", spec := "fnUriSame", inPlace := ["internal/bytealg.IndexByteString"], unfollowed := true, recurses := true, named := ["loop.example/godown/impl.byteClasses"], apart := false, laid := [("loop.example/godown/impl.byteClasses", laid_loop_example_godown_impl_byteClasses)], narrowed := true }
def FnUriSameUptoSaid : Prop := fnUriSameUptoRow.holds Tryd.pinned (OpenSpec.upto fnUriSameSpec)

/-- 'laws.FnUriUnder', WHERE WHAT IT READS IS OF BULK AT MOST 1048576: true; the input reads as it did. -/
def fnUriUnderUptoRow : OpenClaim := { program := "ythmljebpjohibaadoor", sum := "5a235f98047eeff7cb02937869a6bd19c7de4efc3214fcc14ad9ac3fd4b74f9c", func := "loop.example/godown/laws.FnUriUnder", spec := "fnUriUnder", inPlace := ["internal/bytealg.IndexByteString"], unfollowed := true, recurses := true, named := ["loop.example/godown/impl.byteClasses"], apart := false, laid := [("loop.example/godown/impl.byteClasses", laid_loop_example_godown_impl_byteClasses)], narrowed := true }
def FnUriUnderUptoSaid : Prop := fnUriUnderUptoRow.holds Tryd.pinned (OpenSpec.upto fnUriUnderSpec)

/-- 'laws.FnUriPath', WHERE WHAT IT READS IS OF BULK AT MOST 1048576: true; the input reads as it did. -/
def fnUriPathUptoRow : OpenClaim := { program := "ythmljebpjohibaadoor", sum := "5a235f98047eeff7cb02937869a6bd19c7de4efc3214fcc14ad9ac3fd4b74f9c", func := "loop.example/godown/laws.FnUriPath", spec := "fnUriPath", inPlace := ["internal/bytealg.IndexByteString"], unfollowed := true, recurses := true, named := ["loop.example/godown/impl.byteClasses"], apart := false, laid := [("loop.example/godown/impl.byteClasses", laid_loop_example_godown_impl_byteClasses)], narrowed := true }
def FnUriPathUptoSaid : Prop := fnUriPathUptoRow.holds Tryd.pinned (OpenSpec.upto fnUriPathSpec)

/-- 'laws.FnUriDigits', WHERE WHAT IT READS IS OF BULK AT MOST 1048576: true; the input reads as it did. -/
def fnUriDigitsUptoRow : OpenClaim := { program := "ythmljebpjohibaadoor", sum := "5a235f98047eeff7cb02937869a6bd19c7de4efc3214fcc14ad9ac3fd4b74f9c", func := "loop.example/godown/laws.FnUriDigits", spec := "fnUriDigits", inPlace := ["internal/bytealg.IndexByteString"], unfollowed := true, recurses := true, named := ["loop.example/godown/impl.byteClasses"], apart := false, laid := [("loop.example/godown/impl.byteClasses", laid_loop_example_godown_impl_byteClasses)], narrowed := true }
def FnUriDigitsUptoSaid : Prop := fnUriDigitsUptoRow.holds Tryd.pinned (OpenSpec.upto fnUriDigitsSpec)

/-- 'laws.FnExactUriCanon', WHERE WHAT IT READS IS OF BULK AT MOST 1048576: true; the input reads as it did. -/
def fnExactUriCanonUptoRow : OpenClaim := { program := "ythmljebpjohibaadoor", sum := "5a235f98047eeff7cb02937869a6bd19c7de4efc3214fcc14ad9ac3fd4b74f9c", func := "loop.example/godown/laws.FnExactUriCanon", spec := "fnExactUriCanon", inPlace := ["internal/bytealg.IndexByteString"], unfollowed := true, recurses := true, named := ["loop.example/godown/impl.byteClasses"], apart := false, laid := [("loop.example/godown/impl.byteClasses", laid_loop_example_godown_impl_byteClasses)], narrowed := true }
def FnExactUriCanonUptoSaid : Prop := fnExactUriCanonUptoRow.holds Tryd.pinned (OpenSpec.upto fnExactUriCanonSpec)

end Rows
end Go.Proofs.YthmljebpjohibaaDoor
