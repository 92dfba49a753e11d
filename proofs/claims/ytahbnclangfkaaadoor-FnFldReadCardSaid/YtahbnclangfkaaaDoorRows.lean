/-
  NARROWER THAN 'FOR EVERY INPUT', by the rows' own cells (each row's printed sentence says how): FnFldText: laid · FnFldRead: laid · FnFldAll: laid · FnExactFldOk: laid · FnExactFldText: laid · FnExactFldRead: laid.
  DERIVED. THE GIVEN ROWS OF THIS SEAT. 6 by the template 'for every input the law returns true; each argument reads behind the call as it read before'; 0 by the template 'total and deterministic' (their statements: YtahbnclangfkaaaDoorTotals.lean).
  GIVEN WITH THE SEED: the statements are not yours to turn. If you find one false, say at which input.
  Laid BY PROGRAM, IN A SANDBOX (cutbox-rows.mjs): the forced cells as the released guide's own fill.sh prints them over the translation aec0e827aa22b5aa… (all of the seat's roots in one cut). By AI agents, Wed Nov 11 2026. No macro, syntax, notation, axiom, sorry.
-/
import Derived.Test.YtahbnclangfkaaaDoorChecked
import GoSem.PinnedTables
import GoSem.Claim
import GoSem.ClaimJoined
import GoSem.ClaimMapViews
import Derived.JoinedTies
import Derived.KernelRfl
namespace Go.Proofs.YtahbnclangfkaaaDoor
/- THE CELL 'sum', in the pinned program and in every row, IS THE sha256 OF THE DUMP (.gsa) THAT YtahbnclangfkaaaDoorProg.lean LOADS. Nothing in Lean hashes anything: it is a label: what it is worth is what the hold of that sum in a sandbox is worth. -/
noncomputable def Tryd.pinned : Pinned := { name := "ytahbnclangfkaaadoor", sum := "aec0e827aa22b5aa66e665bfc97692a69c6c391d5476fa7936eedbb0c7e7331f", checked := Tryd.checked }
namespace Rows
def none {H : Type} : Left H := { results := [], args := [] }

/- WHAT THE LISTED PACKAGE-LEVEL VARIABLES READ AS WHEN THE CALL BEGINS. Each datum BY PROGRAM (the guide's laid-datum.mjs) off the statement by which the dump's own 'gosem.cut.vars' lays the variable. In a bare row this is a premise. The card (YtahbnclangfkaaaDoorCards.lean) ties it to the program's text. -/
def laid_unicode_utf8_acceptRanges {H : Type} : DataW H := .agg [.agg [.lit (.int .u8 128), .lit (.int .u8 191)], .agg [.lit (.int .u8 160), .lit (.int .u8 191)], .agg [.lit (.int .u8 128), .lit (.int .u8 159)], .agg [.lit (.int .u8 144), .lit (.int .u8 191)], .agg [.lit (.int .u8 128), .lit (.int .u8 143)], .agg [.lit (.int .u8 0), .lit (.int .u8 0)], .agg [.lit (.int .u8 0), .lit (.int .u8 0)], .agg [.lit (.int .u8 0), .lit (.int .u8 0)], .agg [.lit (.int .u8 0), .lit (.int .u8 0)], .agg [.lit (.int .u8 0), .lit (.int .u8 0)], .agg [.lit (.int .u8 0), .lit (.int .u8 0)], .agg [.lit (.int .u8 0), .lit (.int .u8 0)], .agg [.lit (.int .u8 0), .lit (.int .u8 0)], .agg [.lit (.int .u8 0), .lit (.int .u8 0)], .agg [.lit (.int .u8 0), .lit (.int .u8 0)], .agg [.lit (.int .u8 0), .lit (.int .u8 0)]]
def laid_loop_example_godown_impl_byteClasses {H : Type} : DataW H := .agg [.lit (.int .u8 0), .lit (.int .u8 0), .lit (.int .u8 0), .lit (.int .u8 0), .lit (.int .u8 0), .lit (.int .u8 0), .lit (.int .u8 0), .lit (.int .u8 0), .lit (.int .u8 0), .lit (.int .u8 0), .lit (.int .u8 0), .lit (.int .u8 0), .lit (.int .u8 0), .lit (.int .u8 0), .lit (.int .u8 0), .lit (.int .u8 0), .lit (.int .u8 0), .lit (.int .u8 0), .lit (.int .u8 0), .lit (.int .u8 0), .lit (.int .u8 0), .lit (.int .u8 0), .lit (.int .u8 0), .lit (.int .u8 0), .lit (.int .u8 0), .lit (.int .u8 0), .lit (.int .u8 0), .lit (.int .u8 0), .lit (.int .u8 0), .lit (.int .u8 0), .lit (.int .u8 0), .lit (.int .u8 0), .lit (.int .u8 0), .lit (.int .u8 0), .lit (.int .u8 0), .lit (.int .u8 0), .lit (.int .u8 0), .lit (.int .u8 0), .lit (.int .u8 0), .lit (.int .u8 0), .lit (.int .u8 0), .lit (.int .u8 0), .lit (.int .u8 0), .lit (.int .u8 0), .lit (.int .u8 0), .lit (.int .u8 1), .lit (.int .u8 0), .lit (.int .u8 0), .lit (.int .u8 1), .lit (.int .u8 1), .lit (.int .u8 1), .lit (.int .u8 1), .lit (.int .u8 1), .lit (.int .u8 1), .lit (.int .u8 1), .lit (.int .u8 1), .lit (.int .u8 1), .lit (.int .u8 1), .lit (.int .u8 0), .lit (.int .u8 0), .lit (.int .u8 0), .lit (.int .u8 0), .lit (.int .u8 0), .lit (.int .u8 0), .lit (.int .u8 0), .lit (.int .u8 2), .lit (.int .u8 2), .lit (.int .u8 2), .lit (.int .u8 2), .lit (.int .u8 2), .lit (.int .u8 2), .lit (.int .u8 2), .lit (.int .u8 2), .lit (.int .u8 2), .lit (.int .u8 2), .lit (.int .u8 2), .lit (.int .u8 2), .lit (.int .u8 2), .lit (.int .u8 2), .lit (.int .u8 2), .lit (.int .u8 2), .lit (.int .u8 2), .lit (.int .u8 2), .lit (.int .u8 2), .lit (.int .u8 2), .lit (.int .u8 2), .lit (.int .u8 2), .lit (.int .u8 2), .lit (.int .u8 2), .lit (.int .u8 2), .lit (.int .u8 2), .lit (.int .u8 0), .lit (.int .u8 0), .lit (.int .u8 0), .lit (.int .u8 0), .lit (.int .u8 0), .lit (.int .u8 0), .lit (.int .u8 1), .lit (.int .u8 1), .lit (.int .u8 1), .lit (.int .u8 1), .lit (.int .u8 1), .lit (.int .u8 1), .lit (.int .u8 1), .lit (.int .u8 1), .lit (.int .u8 1), .lit (.int .u8 1), .lit (.int .u8 1), .lit (.int .u8 1), .lit (.int .u8 1), .lit (.int .u8 1), .lit (.int .u8 1), .lit (.int .u8 1), .lit (.int .u8 1), .lit (.int .u8 1), .lit (.int .u8 1), .lit (.int .u8 1), .lit (.int .u8 1), .lit (.int .u8 1), .lit (.int .u8 1), .lit (.int .u8 1), .lit (.int .u8 1), .lit (.int .u8 1)]
/-- One of Go's own tables, pinned by name: the form's constant. -/
def laid_unicode_utf8_first : DataW Unit := Go.Pinned.utf8First

/-- 'laws.FnFldText': WHATEVER THE INPUT: true; the input reads as it did. -/
def fnFldTextSpec : ChangeSpec := { name := "fnFldText", vars := ["loop.example/godown/impl.byteClasses"], fn := fun _ => fun
  | [d, g1] => { results := [.lit (.bool true)], args := [d], vars := [g1] }
  | _ => none }
def fnFldTextRow : OpenClaim := { program := "ytahbnclangfkaaadoor", sum := "aec0e827aa22b5aa66e665bfc97692a69c6c391d5476fa7936eedbb0c7e7331f", func := "loop.example/godown/laws.FnFldText", spec := "fnFldText", inPlace := ["internal/bytealg.IndexByteString", "internal/bytealg.IndexString"], named := ["loop.example/godown/impl.byteClasses", "unicode/utf8.first", "unicode/utf8.acceptRanges", "internal/bytealg.MaxLen"], apart := false, laid := [("unicode/utf8.acceptRanges", laid_unicode_utf8_acceptRanges), ("loop.example/godown/impl.byteClasses", laid_loop_example_godown_impl_byteClasses), ("unicode/utf8.first", laid_unicode_utf8_first)] }
def FnFldTextSaid : Prop := fnFldTextRow.holds Tryd.pinned (OpenSpec.ofChange fnFldTextSpec)

/-- ITS FALSE NEIGHBOUR: 'it returns false'. Refute it at one input. -/
def fnFldTextWrong : ChangeSpec := { name := "fnFldText", vars := ["loop.example/godown/impl.byteClasses"], fn := fun _ => fun
  | [d, g1] => { results := [.lit (.bool false)], args := [d], vars := [g1] }
  | _ => none }
def FnFldTextWrongFalsely : Prop := fnFldTextRow.holds Tryd.pinned (OpenSpec.ofChange fnFldTextWrong)

/-- 'laws.FnFldRead': WHATEVER THE INPUT: true; the input reads as it did. -/
def fnFldReadSpec : ChangeSpec := { name := "fnFldRead", vars := ["loop.example/godown/impl.byteClasses"], fn := fun _ => fun
  | [d, g1] => { results := [.lit (.bool true)], args := [d], vars := [g1] }
  | _ => none }
def fnFldReadRow : OpenClaim := { program := "ytahbnclangfkaaadoor", sum := "aec0e827aa22b5aa66e665bfc97692a69c6c391d5476fa7936eedbb0c7e7331f", func := "loop.example/godown/laws.FnFldRead", spec := "fnFldRead", inPlace := ["internal/bytealg.IndexByteString", "internal/bytealg.IndexString"], named := ["loop.example/godown/impl.byteClasses", "unicode/utf8.first", "unicode/utf8.acceptRanges", "internal/bytealg.MaxLen"], apart := false, laid := [("unicode/utf8.acceptRanges", laid_unicode_utf8_acceptRanges), ("loop.example/godown/impl.byteClasses", laid_loop_example_godown_impl_byteClasses), ("unicode/utf8.first", laid_unicode_utf8_first)] }
def FnFldReadSaid : Prop := fnFldReadRow.holds Tryd.pinned (OpenSpec.ofChange fnFldReadSpec)

/-- ITS FALSE NEIGHBOUR: 'it returns false'. Refute it at one input. -/
def fnFldReadWrong : ChangeSpec := { name := "fnFldRead", vars := ["loop.example/godown/impl.byteClasses"], fn := fun _ => fun
  | [d, g1] => { results := [.lit (.bool false)], args := [d], vars := [g1] }
  | _ => none }
def FnFldReadWrongFalsely : Prop := fnFldReadRow.holds Tryd.pinned (OpenSpec.ofChange fnFldReadWrong)

/-- 'laws.FnFldAll': WHATEVER THE INPUT: true; the input reads as it did. -/
def fnFldAllSpec : ChangeSpec := { name := "fnFldAll", vars := ["loop.example/godown/impl.byteClasses"], fn := fun _ => fun
  | [d, g1] => { results := [.lit (.bool true)], args := [d], vars := [g1] }
  | _ => none }
def fnFldAllRow : OpenClaim := { program := "ytahbnclangfkaaadoor", sum := "aec0e827aa22b5aa66e665bfc97692a69c6c391d5476fa7936eedbb0c7e7331f", func := "loop.example/godown/laws.FnFldAll", spec := "fnFldAll", named := ["loop.example/godown/impl.byteClasses"], apart := false, laid := [("loop.example/godown/impl.byteClasses", laid_loop_example_godown_impl_byteClasses)] }
def FnFldAllSaid : Prop := fnFldAllRow.holds Tryd.pinned (OpenSpec.ofChange fnFldAllSpec)

/-- ITS FALSE NEIGHBOUR: 'it returns false'. Refute it at one input. -/
def fnFldAllWrong : ChangeSpec := { name := "fnFldAll", vars := ["loop.example/godown/impl.byteClasses"], fn := fun _ => fun
  | [d, g1] => { results := [.lit (.bool false)], args := [d], vars := [g1] }
  | _ => none }
def FnFldAllWrongFalsely : Prop := fnFldAllRow.holds Tryd.pinned (OpenSpec.ofChange fnFldAllWrong)

/-- 'laws.FnExactFldOk': WHATEVER THE INPUT: true; the input reads as it did. -/
def fnExactFldOkSpec : ChangeSpec := { name := "fnExactFldOk", vars := ["loop.example/godown/impl.byteClasses"], fn := fun _ => fun
  | [d, g1] => { results := [.lit (.bool true)], args := [d], vars := [g1] }
  | _ => none }
def fnExactFldOkRow : OpenClaim := { program := "ytahbnclangfkaaadoor", sum := "aec0e827aa22b5aa66e665bfc97692a69c6c391d5476fa7936eedbb0c7e7331f", func := "loop.example/godown/laws.FnExactFldOk", spec := "fnExactFldOk", inPlace := ["internal/bytealg.IndexByteString", "internal/bytealg.IndexString"], named := ["loop.example/godown/impl.byteClasses", "unicode/utf8.first", "unicode/utf8.acceptRanges", "internal/bytealg.MaxLen"], apart := false, laid := [("unicode/utf8.acceptRanges", laid_unicode_utf8_acceptRanges), ("loop.example/godown/impl.byteClasses", laid_loop_example_godown_impl_byteClasses), ("unicode/utf8.first", laid_unicode_utf8_first)] }
def FnExactFldOkSaid : Prop := fnExactFldOkRow.holds Tryd.pinned (OpenSpec.ofChange fnExactFldOkSpec)

/-- ITS FALSE NEIGHBOUR: 'it returns false'. Refute it at one input. -/
def fnExactFldOkWrong : ChangeSpec := { name := "fnExactFldOk", vars := ["loop.example/godown/impl.byteClasses"], fn := fun _ => fun
  | [d, g1] => { results := [.lit (.bool false)], args := [d], vars := [g1] }
  | _ => none }
def FnExactFldOkWrongFalsely : Prop := fnExactFldOkRow.holds Tryd.pinned (OpenSpec.ofChange fnExactFldOkWrong)

/-- 'laws.FnExactFldText': WHATEVER THE INPUT: true; the input reads as it did. -/
def fnExactFldTextSpec : ChangeSpec := { name := "fnExactFldText", vars := ["loop.example/godown/impl.byteClasses"], fn := fun _ => fun
  | [d, g1] => { results := [.lit (.bool true)], args := [d], vars := [g1] }
  | _ => none }
def fnExactFldTextRow : OpenClaim := { program := "ytahbnclangfkaaadoor", sum := "aec0e827aa22b5aa66e665bfc97692a69c6c391d5476fa7936eedbb0c7e7331f", func := "loop.example/godown/laws.FnExactFldText", spec := "fnExactFldText", inPlace := ["internal/bytealg.IndexByteString", "internal/bytealg.IndexString"], named := ["loop.example/godown/impl.byteClasses", "unicode/utf8.first", "unicode/utf8.acceptRanges", "internal/bytealg.MaxLen"], apart := false, laid := [("unicode/utf8.acceptRanges", laid_unicode_utf8_acceptRanges), ("loop.example/godown/impl.byteClasses", laid_loop_example_godown_impl_byteClasses), ("unicode/utf8.first", laid_unicode_utf8_first)] }
def FnExactFldTextSaid : Prop := fnExactFldTextRow.holds Tryd.pinned (OpenSpec.ofChange fnExactFldTextSpec)

/-- ITS FALSE NEIGHBOUR: 'it returns false'. Refute it at one input. -/
def fnExactFldTextWrong : ChangeSpec := { name := "fnExactFldText", vars := ["loop.example/godown/impl.byteClasses"], fn := fun _ => fun
  | [d, g1] => { results := [.lit (.bool false)], args := [d], vars := [g1] }
  | _ => none }
def FnExactFldTextWrongFalsely : Prop := fnExactFldTextRow.holds Tryd.pinned (OpenSpec.ofChange fnExactFldTextWrong)

/-- 'laws.FnExactFldRead': WHATEVER THE INPUT: true; the input reads as it did. -/
def fnExactFldReadSpec : ChangeSpec := { name := "fnExactFldRead", vars := ["loop.example/godown/impl.byteClasses"], fn := fun _ => fun
  | [d, g1] => { results := [.lit (.bool true)], args := [d], vars := [g1] }
  | _ => none }
def fnExactFldReadRow : OpenClaim := { program := "ytahbnclangfkaaadoor", sum := "aec0e827aa22b5aa66e665bfc97692a69c6c391d5476fa7936eedbb0c7e7331f", func := "loop.example/godown/laws.FnExactFldRead", spec := "fnExactFldRead", inPlace := ["internal/bytealg.IndexByteString", "internal/bytealg.IndexString"], named := ["loop.example/godown/impl.byteClasses", "unicode/utf8.first", "unicode/utf8.acceptRanges", "internal/bytealg.MaxLen"], apart := false, laid := [("unicode/utf8.acceptRanges", laid_unicode_utf8_acceptRanges), ("loop.example/godown/impl.byteClasses", laid_loop_example_godown_impl_byteClasses), ("unicode/utf8.first", laid_unicode_utf8_first)] }
def FnExactFldReadSaid : Prop := fnExactFldReadRow.holds Tryd.pinned (OpenSpec.ofChange fnExactFldReadSpec)

/-- ITS FALSE NEIGHBOUR: 'it returns false'. Refute it at one input. -/
def fnExactFldReadWrong : ChangeSpec := { name := "fnExactFldRead", vars := ["loop.example/godown/impl.byteClasses"], fn := fun _ => fun
  | [d, g1] => { results := [.lit (.bool false)], args := [d], vars := [g1] }
  | _ => none }
def FnExactFldReadWrongFalsely : Prop := fnExactFldReadRow.holds Tryd.pinned (OpenSpec.ofChange fnExactFldReadWrong)

/- THE SECOND FORM. 'bulk': how many values and letters a reading holds, each counted each time it is reached (what is shared counts as often as it is met; a slice's spare places count too). A statement '..UptoSaid' is the law's where the arguments, and the package variables that the reading takes, are together of bulk at most 1048576: NARROWER than '..Said'. Prove '..Said' where nothing that the law and all that it calls make is longer than what came in: it says more and counts as full. Else prove '..UptoSaid'. A law counts once. -/
mutual
def uptoBulk {H : Type} : DataW H → Nat
  | .lit (.string bytes) => bytes.length + 1
  | .lit _ => 1
  | .nil => 1
  | .ptr d => uptoBulk d + 1
  | .slice elems spare => uptoBulkAll elems + uptoBulkAll spare + 1
  | .agg parts => uptoBulkAll parts + 1
  | .iface _ d => uptoBulk d + 1
  | .map entries => uptoBulkEntries entries + 1
  | .held _ => 1
def uptoBulkAll {H : Type} : List (DataW H) → Nat
  | [] => 0
  | d :: r => uptoBulk d + uptoBulkAll r
def uptoBulkEntries {H : Type} : List (Lit × DataW H) → Nat
  | [] => 0
  | x :: r => uptoBulkEntry x + uptoBulkEntries r
def uptoBulkEntry {H : Type} : Lit × DataW H → Nat
  | (.string bytes, d) => bytes.length + uptoBulk d + 1
  | (_, d) => uptoBulk d + 1
 end
def uptoSmall : (H : Type) → List (DataW H) → Bool := fun _ ds => decide (uptoBulkAll ds ≤ 1048576)
def OpenSpec.upto (s : _root_.Go.ChangeSpec) : _root_.Go.OpenSpec := { _root_.Go.OpenSpec.ofChange s with cond := some uptoSmall }

/-- 'laws.FnFldText', WHERE WHAT IT READS IS OF BULK AT MOST 1048576: true; the input reads as it did. -/
def fnFldTextUptoRow : OpenClaim := { program := "ytahbnclangfkaaadoor", sum := "aec0e827aa22b5aa66e665bfc97692a69c6c391d5476fa7936eedbb0c7e7331f", func := "loop.example/godown/laws.FnFldText", spec := "fnFldText", inPlace := ["internal/bytealg.IndexByteString", "internal/bytealg.IndexString"], named := ["loop.example/godown/impl.byteClasses", "unicode/utf8.first", "unicode/utf8.acceptRanges", "internal/bytealg.MaxLen"], apart := false, laid := [("unicode/utf8.acceptRanges", laid_unicode_utf8_acceptRanges), ("loop.example/godown/impl.byteClasses", laid_loop_example_godown_impl_byteClasses), ("unicode/utf8.first", laid_unicode_utf8_first)], narrowed := true }
def FnFldTextUptoSaid : Prop := fnFldTextUptoRow.holds Tryd.pinned (OpenSpec.upto fnFldTextSpec)

/-- 'laws.FnFldRead', WHERE WHAT IT READS IS OF BULK AT MOST 1048576: true; the input reads as it did. -/
def fnFldReadUptoRow : OpenClaim := { program := "ytahbnclangfkaaadoor", sum := "aec0e827aa22b5aa66e665bfc97692a69c6c391d5476fa7936eedbb0c7e7331f", func := "loop.example/godown/laws.FnFldRead", spec := "fnFldRead", inPlace := ["internal/bytealg.IndexByteString", "internal/bytealg.IndexString"], named := ["loop.example/godown/impl.byteClasses", "unicode/utf8.first", "unicode/utf8.acceptRanges", "internal/bytealg.MaxLen"], apart := false, laid := [("unicode/utf8.acceptRanges", laid_unicode_utf8_acceptRanges), ("loop.example/godown/impl.byteClasses", laid_loop_example_godown_impl_byteClasses), ("unicode/utf8.first", laid_unicode_utf8_first)], narrowed := true }
def FnFldReadUptoSaid : Prop := fnFldReadUptoRow.holds Tryd.pinned (OpenSpec.upto fnFldReadSpec)

/-- 'laws.FnFldAll', WHERE WHAT IT READS IS OF BULK AT MOST 1048576: true; the input reads as it did. -/
def fnFldAllUptoRow : OpenClaim := { program := "ytahbnclangfkaaadoor", sum := "aec0e827aa22b5aa66e665bfc97692a69c6c391d5476fa7936eedbb0c7e7331f", func := "loop.example/godown/laws.FnFldAll", spec := "fnFldAll", named := ["loop.example/godown/impl.byteClasses"], apart := false, laid := [("loop.example/godown/impl.byteClasses", laid_loop_example_godown_impl_byteClasses)], narrowed := true }
def FnFldAllUptoSaid : Prop := fnFldAllUptoRow.holds Tryd.pinned (OpenSpec.upto fnFldAllSpec)

/-- 'laws.FnExactFldOk', WHERE WHAT IT READS IS OF BULK AT MOST 1048576: true; the input reads as it did. -/
def fnExactFldOkUptoRow : OpenClaim := { program := "ytahbnclangfkaaadoor", sum := "aec0e827aa22b5aa66e665bfc97692a69c6c391d5476fa7936eedbb0c7e7331f", func := "loop.example/godown/laws.FnExactFldOk", spec := "fnExactFldOk", inPlace := ["internal/bytealg.IndexByteString", "internal/bytealg.IndexString"], named := ["loop.example/godown/impl.byteClasses", "unicode/utf8.first", "unicode/utf8.acceptRanges", "internal/bytealg.MaxLen"], apart := false, laid := [("unicode/utf8.acceptRanges", laid_unicode_utf8_acceptRanges), ("loop.example/godown/impl.byteClasses", laid_loop_example_godown_impl_byteClasses), ("unicode/utf8.first", laid_unicode_utf8_first)], narrowed := true }
def FnExactFldOkUptoSaid : Prop := fnExactFldOkUptoRow.holds Tryd.pinned (OpenSpec.upto fnExactFldOkSpec)

/-- 'laws.FnExactFldText', WHERE WHAT IT READS IS OF BULK AT MOST 1048576: true; the input reads as it did. -/
def fnExactFldTextUptoRow : OpenClaim := { program := "ytahbnclangfkaaadoor", sum := "aec0e827aa22b5aa66e665bfc97692a69c6c391d5476fa7936eedbb0c7e7331f", func := "loop.example/godown/laws.FnExactFldText", spec := "fnExactFldText", inPlace := ["internal/bytealg.IndexByteString", "internal/bytealg.IndexString"], named := ["loop.example/godown/impl.byteClasses", "unicode/utf8.first", "unicode/utf8.acceptRanges", "internal/bytealg.MaxLen"], apart := false, laid := [("unicode/utf8.acceptRanges", laid_unicode_utf8_acceptRanges), ("loop.example/godown/impl.byteClasses", laid_loop_example_godown_impl_byteClasses), ("unicode/utf8.first", laid_unicode_utf8_first)], narrowed := true }
def FnExactFldTextUptoSaid : Prop := fnExactFldTextUptoRow.holds Tryd.pinned (OpenSpec.upto fnExactFldTextSpec)

/-- 'laws.FnExactFldRead', WHERE WHAT IT READS IS OF BULK AT MOST 1048576: true; the input reads as it did. -/
def fnExactFldReadUptoRow : OpenClaim := { program := "ytahbnclangfkaaadoor", sum := "aec0e827aa22b5aa66e665bfc97692a69c6c391d5476fa7936eedbb0c7e7331f", func := "loop.example/godown/laws.FnExactFldRead", spec := "fnExactFldRead", inPlace := ["internal/bytealg.IndexByteString", "internal/bytealg.IndexString"], named := ["loop.example/godown/impl.byteClasses", "unicode/utf8.first", "unicode/utf8.acceptRanges", "internal/bytealg.MaxLen"], apart := false, laid := [("unicode/utf8.acceptRanges", laid_unicode_utf8_acceptRanges), ("loop.example/godown/impl.byteClasses", laid_loop_example_godown_impl_byteClasses), ("unicode/utf8.first", laid_unicode_utf8_first)], narrowed := true }
def FnExactFldReadUptoSaid : Prop := fnExactFldReadUptoRow.holds Tryd.pinned (OpenSpec.upto fnExactFldReadSpec)

end Rows
end Go.Proofs.YtahbnclangfkaaaDoor
