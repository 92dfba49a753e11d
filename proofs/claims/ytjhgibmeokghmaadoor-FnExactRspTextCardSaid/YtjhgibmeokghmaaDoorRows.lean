/-
  NARROWER THAN 'FOR EVERY INPUT', by the rows' own cells (each row's printed sentence says how): FnFrsFresh: laid · FnFrsAge: laid · FnFrsKeep: laid · FnFrsMerge: laid · FnRspText: laid · FnFrsEver: laid · FnExactRspOk: laid · FnExactFrsKeep: laid · FnExactFrsFresh: laid · FnExactFrsMerge: laid · FnExactRspText: laid.
  DERIVED. THE GIVEN ROWS OF THIS SEAT. 11 by the template 'for every input the law returns true; each argument reads behind the call as it read before'; 0 by the template 'total and deterministic' (their statements: YtjhgibmeokghmaaDoorTotals.lean).
  GIVEN WITH THE SEED: the statements are not yours to turn. If you find one false, say at which input.
  Laid BY PROGRAM, IN A SANDBOX (cutbox-rows.mjs): the forced cells as the released guide's own fill.sh prints them over the translation a6a92fabcc33e2aa… (all of the seat's roots in one cut). By AI agents, Wed Nov 11 2026. No macro, syntax, notation, axiom, sorry.
-/
import Derived.Test.YtjhgibmeokghmaaDoorChecked
import GoSem.Claim
import GoSem.ClaimJoined
import GoSem.ClaimMapViews
import Derived.JoinedTies
import Derived.KernelRfl
namespace Go.Proofs.YtjhgibmeokghmaaDoor
/- THE CELL 'sum', in the pinned program and in every row, IS THE sha256 OF THE DUMP (.gsa) THAT YtjhgibmeokghmaaDoorProg.lean LOADS. Nothing in Lean hashes anything: it is a label: what it is worth is what the hold of that sum in a sandbox is worth. -/
noncomputable def Tryd.pinned : Pinned := { name := "ytjhgibmeokghmaadoor", sum := "a6a92fabcc33e2aaee19b79160027164eff8441248817897a065d5ca7110febc", checked := Tryd.checked }
namespace Rows
def none {H : Type} : Left H := { results := [], args := [] }

/- WHAT THE LISTED PACKAGE-LEVEL VARIABLES READ AS WHEN THE CALL BEGINS. Each datum BY PROGRAM (the guide's laid-datum.mjs) off the statement by which the dump's own 'gosem.cut.vars' lays the variable. In a bare row this is a premise. The card (YtjhgibmeokghmaaDoorCards.lean) ties it to the program's text. -/
def laid_loop_example_godown_impl_byteClasses {H : Type} : DataW H := .agg [.lit (.int .u8 0), .lit (.int .u8 0), .lit (.int .u8 0), .lit (.int .u8 0), .lit (.int .u8 0), .lit (.int .u8 0), .lit (.int .u8 0), .lit (.int .u8 0), .lit (.int .u8 0), .lit (.int .u8 0), .lit (.int .u8 0), .lit (.int .u8 0), .lit (.int .u8 0), .lit (.int .u8 0), .lit (.int .u8 0), .lit (.int .u8 0), .lit (.int .u8 0), .lit (.int .u8 0), .lit (.int .u8 0), .lit (.int .u8 0), .lit (.int .u8 0), .lit (.int .u8 0), .lit (.int .u8 0), .lit (.int .u8 0), .lit (.int .u8 0), .lit (.int .u8 0), .lit (.int .u8 0), .lit (.int .u8 0), .lit (.int .u8 0), .lit (.int .u8 0), .lit (.int .u8 0), .lit (.int .u8 0), .lit (.int .u8 0), .lit (.int .u8 0), .lit (.int .u8 0), .lit (.int .u8 0), .lit (.int .u8 0), .lit (.int .u8 0), .lit (.int .u8 0), .lit (.int .u8 0), .lit (.int .u8 0), .lit (.int .u8 0), .lit (.int .u8 0), .lit (.int .u8 0), .lit (.int .u8 0), .lit (.int .u8 1), .lit (.int .u8 0), .lit (.int .u8 0), .lit (.int .u8 1), .lit (.int .u8 1), .lit (.int .u8 1), .lit (.int .u8 1), .lit (.int .u8 1), .lit (.int .u8 1), .lit (.int .u8 1), .lit (.int .u8 1), .lit (.int .u8 1), .lit (.int .u8 1), .lit (.int .u8 0), .lit (.int .u8 0), .lit (.int .u8 0), .lit (.int .u8 0), .lit (.int .u8 0), .lit (.int .u8 0), .lit (.int .u8 0), .lit (.int .u8 2), .lit (.int .u8 2), .lit (.int .u8 2), .lit (.int .u8 2), .lit (.int .u8 2), .lit (.int .u8 2), .lit (.int .u8 2), .lit (.int .u8 2), .lit (.int .u8 2), .lit (.int .u8 2), .lit (.int .u8 2), .lit (.int .u8 2), .lit (.int .u8 2), .lit (.int .u8 2), .lit (.int .u8 2), .lit (.int .u8 2), .lit (.int .u8 2), .lit (.int .u8 2), .lit (.int .u8 2), .lit (.int .u8 2), .lit (.int .u8 2), .lit (.int .u8 2), .lit (.int .u8 2), .lit (.int .u8 2), .lit (.int .u8 2), .lit (.int .u8 2), .lit (.int .u8 0), .lit (.int .u8 0), .lit (.int .u8 0), .lit (.int .u8 0), .lit (.int .u8 0), .lit (.int .u8 0), .lit (.int .u8 1), .lit (.int .u8 1), .lit (.int .u8 1), .lit (.int .u8 1), .lit (.int .u8 1), .lit (.int .u8 1), .lit (.int .u8 1), .lit (.int .u8 1), .lit (.int .u8 1), .lit (.int .u8 1), .lit (.int .u8 1), .lit (.int .u8 1), .lit (.int .u8 1), .lit (.int .u8 1), .lit (.int .u8 1), .lit (.int .u8 1), .lit (.int .u8 1), .lit (.int .u8 1), .lit (.int .u8 1), .lit (.int .u8 1), .lit (.int .u8 1), .lit (.int .u8 1), .lit (.int .u8 1), .lit (.int .u8 1), .lit (.int .u8 1), .lit (.int .u8 1)]
def laid_math_bits_deBruijn32tab {H : Type} : DataW H := .agg [.lit (.int .u8 0), .lit (.int .u8 1), .lit (.int .u8 28), .lit (.int .u8 2), .lit (.int .u8 29), .lit (.int .u8 14), .lit (.int .u8 24), .lit (.int .u8 3), .lit (.int .u8 30), .lit (.int .u8 22), .lit (.int .u8 20), .lit (.int .u8 15), .lit (.int .u8 25), .lit (.int .u8 17), .lit (.int .u8 4), .lit (.int .u8 8), .lit (.int .u8 31), .lit (.int .u8 27), .lit (.int .u8 13), .lit (.int .u8 23), .lit (.int .u8 21), .lit (.int .u8 19), .lit (.int .u8 16), .lit (.int .u8 7), .lit (.int .u8 26), .lit (.int .u8 12), .lit (.int .u8 18), .lit (.int .u8 6), .lit (.int .u8 11), .lit (.int .u8 5), .lit (.int .u8 10), .lit (.int .u8 9)]
def laid_math_bits_deBruijn64tab {H : Type} : DataW H := .agg [.lit (.int .u8 0), .lit (.int .u8 1), .lit (.int .u8 56), .lit (.int .u8 2), .lit (.int .u8 57), .lit (.int .u8 49), .lit (.int .u8 28), .lit (.int .u8 3), .lit (.int .u8 61), .lit (.int .u8 58), .lit (.int .u8 42), .lit (.int .u8 50), .lit (.int .u8 38), .lit (.int .u8 29), .lit (.int .u8 17), .lit (.int .u8 4), .lit (.int .u8 62), .lit (.int .u8 47), .lit (.int .u8 59), .lit (.int .u8 36), .lit (.int .u8 45), .lit (.int .u8 43), .lit (.int .u8 51), .lit (.int .u8 22), .lit (.int .u8 53), .lit (.int .u8 39), .lit (.int .u8 33), .lit (.int .u8 30), .lit (.int .u8 24), .lit (.int .u8 18), .lit (.int .u8 12), .lit (.int .u8 5), .lit (.int .u8 63), .lit (.int .u8 55), .lit (.int .u8 48), .lit (.int .u8 27), .lit (.int .u8 60), .lit (.int .u8 41), .lit (.int .u8 37), .lit (.int .u8 16), .lit (.int .u8 46), .lit (.int .u8 35), .lit (.int .u8 44), .lit (.int .u8 21), .lit (.int .u8 52), .lit (.int .u8 32), .lit (.int .u8 23), .lit (.int .u8 11), .lit (.int .u8 54), .lit (.int .u8 26), .lit (.int .u8 40), .lit (.int .u8 15), .lit (.int .u8 34), .lit (.int .u8 20), .lit (.int .u8 31), .lit (.int .u8 10), .lit (.int .u8 25), .lit (.int .u8 14), .lit (.int .u8 19), .lit (.int .u8 9), .lit (.int .u8 13), .lit (.int .u8 8), .lit (.int .u8 7), .lit (.int .u8 6)]
def laid_internal_strconv_uint64pow10 {H : Type} : DataW H := .agg [.lit (.int .u64 1), .lit (.int .u64 10), .lit (.int .u64 100), .lit (.int .u64 1000), .lit (.int .u64 10000), .lit (.int .u64 100000), .lit (.int .u64 1000000), .lit (.int .u64 10000000), .lit (.int .u64 100000000), .lit (.int .u64 1000000000), .lit (.int .u64 10000000000), .lit (.int .u64 100000000000), .lit (.int .u64 1000000000000), .lit (.int .u64 10000000000000), .lit (.int .u64 100000000000000), .lit (.int .u64 1000000000000000), .lit (.int .u64 10000000000000000), .lit (.int .u64 100000000000000000), .lit (.int .u64 1000000000000000000), .lit (.int .u64 10000000000000000000)]
def laid_loop_example_godown_impl_codingNames {H : Type} : DataW H := .agg [.lit (.string [112, 108, 97, 105, 110]), .lit (.string [103, 122]), .lit (.string [98, 114])]

/-- 'laws.FnFrsFresh': WHATEVER THE INPUT: true; the input reads as it did. -/
def fnFrsFreshSpec : ChangeSpec := { name := "fnFrsFresh", vars := ["loop.example/godown/impl.byteClasses"], fn := fun _ => fun
  | [d, g1] => { results := [.lit (.bool true)], args := [d], vars := [g1] }
  | _ => none }
def fnFrsFreshRow : OpenClaim := { program := "ytjhgibmeokghmaadoor", sum := "a6a92fabcc33e2aaee19b79160027164eff8441248817897a065d5ca7110febc", func := "loop.example/godown/laws.FnFrsFresh", spec := "fnFrsFresh", unfollowed := true, recurses := true, named := ["loop.example/godown/impl.byteClasses"], apart := false, laid := [("loop.example/godown/impl.byteClasses", laid_loop_example_godown_impl_byteClasses)] }
def FnFrsFreshSaid : Prop := fnFrsFreshRow.holds Tryd.pinned (OpenSpec.ofChange fnFrsFreshSpec)

/-- ITS FALSE NEIGHBOUR: 'it returns false'. Refute it at one input. -/
def fnFrsFreshWrong : ChangeSpec := { name := "fnFrsFresh", vars := ["loop.example/godown/impl.byteClasses"], fn := fun _ => fun
  | [d, g1] => { results := [.lit (.bool false)], args := [d], vars := [g1] }
  | _ => none }
def FnFrsFreshWrongFalsely : Prop := fnFrsFreshRow.holds Tryd.pinned (OpenSpec.ofChange fnFrsFreshWrong)

/-- 'laws.FnFrsAge': WHATEVER THE INPUT: true; the input reads as it did. -/
def fnFrsAgeSpec : ChangeSpec := { name := "fnFrsAge", vars := ["loop.example/godown/impl.byteClasses"], fn := fun _ => fun
  | [d, g1] => { results := [.lit (.bool true)], args := [d], vars := [g1] }
  | _ => none }
def fnFrsAgeRow : OpenClaim := { program := "ytjhgibmeokghmaadoor", sum := "a6a92fabcc33e2aaee19b79160027164eff8441248817897a065d5ca7110febc", func := "loop.example/godown/laws.FnFrsAge", spec := "fnFrsAge", named := ["loop.example/godown/impl.byteClasses"], apart := false, laid := [("loop.example/godown/impl.byteClasses", laid_loop_example_godown_impl_byteClasses)] }
def FnFrsAgeSaid : Prop := fnFrsAgeRow.holds Tryd.pinned (OpenSpec.ofChange fnFrsAgeSpec)

/-- ITS FALSE NEIGHBOUR: 'it returns false'. Refute it at one input. -/
def fnFrsAgeWrong : ChangeSpec := { name := "fnFrsAge", vars := ["loop.example/godown/impl.byteClasses"], fn := fun _ => fun
  | [d, g1] => { results := [.lit (.bool false)], args := [d], vars := [g1] }
  | _ => none }
def FnFrsAgeWrongFalsely : Prop := fnFrsAgeRow.holds Tryd.pinned (OpenSpec.ofChange fnFrsAgeWrong)

/-- 'laws.FnFrsKeep': WHATEVER THE INPUT: true; the input reads as it did. -/
def fnFrsKeepSpec : ChangeSpec := { name := "fnFrsKeep", vars := ["loop.example/godown/impl.byteClasses"], fn := fun _ => fun
  | [d, g1] => { results := [.lit (.bool true)], args := [d], vars := [g1] }
  | _ => none }
def fnFrsKeepRow : OpenClaim := { program := "ytjhgibmeokghmaadoor", sum := "a6a92fabcc33e2aaee19b79160027164eff8441248817897a065d5ca7110febc", func := "loop.example/godown/laws.FnFrsKeep", spec := "fnFrsKeep", unfollowed := true, recurses := true, named := ["loop.example/godown/impl.byteClasses"], apart := false, laid := [("loop.example/godown/impl.byteClasses", laid_loop_example_godown_impl_byteClasses)] }
def FnFrsKeepSaid : Prop := fnFrsKeepRow.holds Tryd.pinned (OpenSpec.ofChange fnFrsKeepSpec)

/-- ITS FALSE NEIGHBOUR: 'it returns false'. Refute it at one input. -/
def fnFrsKeepWrong : ChangeSpec := { name := "fnFrsKeep", vars := ["loop.example/godown/impl.byteClasses"], fn := fun _ => fun
  | [d, g1] => { results := [.lit (.bool false)], args := [d], vars := [g1] }
  | _ => none }
def FnFrsKeepWrongFalsely : Prop := fnFrsKeepRow.holds Tryd.pinned (OpenSpec.ofChange fnFrsKeepWrong)

/-- 'laws.FnFrsMerge': WHATEVER THE INPUT: true; the input reads as it did. -/
def fnFrsMergeSpec : ChangeSpec := { name := "fnFrsMerge", vars := ["loop.example/godown/impl.byteClasses"], fn := fun _ => fun
  | [d, g1] => { results := [.lit (.bool true)], args := [d], vars := [g1] }
  | _ => none }
def fnFrsMergeRow : OpenClaim := { program := "ytjhgibmeokghmaadoor", sum := "a6a92fabcc33e2aaee19b79160027164eff8441248817897a065d5ca7110febc", func := "loop.example/godown/laws.FnFrsMerge", spec := "fnFrsMerge", unfollowed := true, recurses := true, named := ["loop.example/godown/impl.byteClasses"], apart := false, laid := [("loop.example/godown/impl.byteClasses", laid_loop_example_godown_impl_byteClasses)] }
def FnFrsMergeSaid : Prop := fnFrsMergeRow.holds Tryd.pinned (OpenSpec.ofChange fnFrsMergeSpec)

/-- ITS FALSE NEIGHBOUR: 'it returns false'. Refute it at one input. -/
def fnFrsMergeWrong : ChangeSpec := { name := "fnFrsMerge", vars := ["loop.example/godown/impl.byteClasses"], fn := fun _ => fun
  | [d, g1] => { results := [.lit (.bool false)], args := [d], vars := [g1] }
  | _ => none }
def FnFrsMergeWrongFalsely : Prop := fnFrsMergeRow.holds Tryd.pinned (OpenSpec.ofChange fnFrsMergeWrong)

/-- 'laws.FnRspText': WHATEVER THE INPUT: true; the input reads as it did. -/
def fnRspTextSpec : ChangeSpec := { name := "fnRspText", vars := ["loop.example/godown/impl.codingNames", "loop.example/godown/impl.byteClasses"], fn := fun _ => fun
  | [d, g1, g2] => { results := [.lit (.bool true)], args := [d], vars := [g1, g2] }
  | _ => none }
def fnRspTextRow : OpenClaim := { program := "ytjhgibmeokghmaadoor", sum := "a6a92fabcc33e2aaee19b79160027164eff8441248817897a065d5ca7110febc", func := "loop.example/godown/laws.FnRspText", spec := "fnRspText", unfollowed := true, recurses := true, named := ["loop.example/godown/impl.codingNames", "loop.example/godown/impl.byteClasses", "internal/strconv.uint64pow10", "math/bits.deBruijn32tab", "math/bits.deBruijn64tab"], apart := false, laid := [("math/bits.deBruijn32tab", laid_math_bits_deBruijn32tab), ("math/bits.deBruijn64tab", laid_math_bits_deBruijn64tab), ("internal/strconv.uint64pow10", laid_internal_strconv_uint64pow10), ("loop.example/godown/impl.byteClasses", laid_loop_example_godown_impl_byteClasses), ("loop.example/godown/impl.codingNames", laid_loop_example_godown_impl_codingNames)] }
def FnRspTextSaid : Prop := fnRspTextRow.holds Tryd.pinned (OpenSpec.ofChange fnRspTextSpec)

/-- ITS FALSE NEIGHBOUR: 'it returns false'. Refute it at one input. -/
def fnRspTextWrong : ChangeSpec := { name := "fnRspText", vars := ["loop.example/godown/impl.codingNames", "loop.example/godown/impl.byteClasses"], fn := fun _ => fun
  | [d, g1, g2] => { results := [.lit (.bool false)], args := [d], vars := [g1, g2] }
  | _ => none }
def FnRspTextWrongFalsely : Prop := fnRspTextRow.holds Tryd.pinned (OpenSpec.ofChange fnRspTextWrong)

/-- 'laws.FnFrsEver': WHATEVER THE INPUT: true; the input reads as it did. -/
def fnFrsEverSpec : ChangeSpec := { name := "fnFrsEver", vars := ["loop.example/godown/impl.byteClasses"], fn := fun _ => fun
  | [d, g1] => { results := [.lit (.bool true)], args := [d], vars := [g1] }
  | _ => none }
def fnFrsEverRow : OpenClaim := { program := "ytjhgibmeokghmaadoor", sum := "a6a92fabcc33e2aaee19b79160027164eff8441248817897a065d5ca7110febc", func := "loop.example/godown/laws.FnFrsEver", spec := "fnFrsEver", unfollowed := true, recurses := true, named := ["loop.example/godown/impl.byteClasses"], apart := false, laid := [("loop.example/godown/impl.byteClasses", laid_loop_example_godown_impl_byteClasses)] }
def FnFrsEverSaid : Prop := fnFrsEverRow.holds Tryd.pinned (OpenSpec.ofChange fnFrsEverSpec)

/-- ITS FALSE NEIGHBOUR: 'it returns false'. Refute it at one input. -/
def fnFrsEverWrong : ChangeSpec := { name := "fnFrsEver", vars := ["loop.example/godown/impl.byteClasses"], fn := fun _ => fun
  | [d, g1] => { results := [.lit (.bool false)], args := [d], vars := [g1] }
  | _ => none }
def FnFrsEverWrongFalsely : Prop := fnFrsEverRow.holds Tryd.pinned (OpenSpec.ofChange fnFrsEverWrong)

/-- 'laws.FnExactRspOk': WHATEVER THE INPUT: true; the input reads as it did. -/
def fnExactRspOkSpec : ChangeSpec := { name := "fnExactRspOk", vars := ["loop.example/godown/impl.byteClasses"], fn := fun _ => fun
  | [d, g1] => { results := [.lit (.bool true)], args := [d], vars := [g1] }
  | _ => none }
def fnExactRspOkRow : OpenClaim := { program := "ytjhgibmeokghmaadoor", sum := "a6a92fabcc33e2aaee19b79160027164eff8441248817897a065d5ca7110febc", func := "loop.example/godown/laws.FnExactRspOk", spec := "fnExactRspOk", unfollowed := true, recurses := true, named := ["loop.example/godown/impl.byteClasses"], apart := false, laid := [("loop.example/godown/impl.byteClasses", laid_loop_example_godown_impl_byteClasses)] }
def FnExactRspOkSaid : Prop := fnExactRspOkRow.holds Tryd.pinned (OpenSpec.ofChange fnExactRspOkSpec)

/-- ITS FALSE NEIGHBOUR: 'it returns false'. Refute it at one input. -/
def fnExactRspOkWrong : ChangeSpec := { name := "fnExactRspOk", vars := ["loop.example/godown/impl.byteClasses"], fn := fun _ => fun
  | [d, g1] => { results := [.lit (.bool false)], args := [d], vars := [g1] }
  | _ => none }
def FnExactRspOkWrongFalsely : Prop := fnExactRspOkRow.holds Tryd.pinned (OpenSpec.ofChange fnExactRspOkWrong)

/-- 'laws.FnExactFrsKeep': WHATEVER THE INPUT: true; the input reads as it did. -/
def fnExactFrsKeepSpec : ChangeSpec := { name := "fnExactFrsKeep", vars := ["loop.example/godown/impl.byteClasses"], fn := fun _ => fun
  | [d1, d2, g1] => { results := [.lit (.bool true)], args := [d1, d2], vars := [g1] }
  | _ => none }
def fnExactFrsKeepRow : OpenClaim := { program := "ytjhgibmeokghmaadoor", sum := "a6a92fabcc33e2aaee19b79160027164eff8441248817897a065d5ca7110febc", func := "loop.example/godown/laws.FnExactFrsKeep", spec := "fnExactFrsKeep", unfollowed := true, recurses := true, named := ["loop.example/godown/impl.byteClasses"], apart := false, laid := [("loop.example/godown/impl.byteClasses", laid_loop_example_godown_impl_byteClasses)] }
def FnExactFrsKeepSaid : Prop := fnExactFrsKeepRow.holds Tryd.pinned (OpenSpec.ofChange fnExactFrsKeepSpec)

/-- ITS FALSE NEIGHBOUR: 'it returns false'. Refute it at one input. -/
def fnExactFrsKeepWrong : ChangeSpec := { name := "fnExactFrsKeep", vars := ["loop.example/godown/impl.byteClasses"], fn := fun _ => fun
  | [d1, d2, g1] => { results := [.lit (.bool false)], args := [d1, d2], vars := [g1] }
  | _ => none }
def FnExactFrsKeepWrongFalsely : Prop := fnExactFrsKeepRow.holds Tryd.pinned (OpenSpec.ofChange fnExactFrsKeepWrong)

/-- 'laws.FnExactFrsFresh': WHATEVER THE INPUT: true; the input reads as it did. -/
def fnExactFrsFreshSpec : ChangeSpec := { name := "fnExactFrsFresh", vars := ["loop.example/godown/impl.byteClasses"], fn := fun _ => fun
  | [d1, d2, d3, g1] => { results := [.lit (.bool true)], args := [d1, d2, d3], vars := [g1] }
  | _ => none }
def fnExactFrsFreshRow : OpenClaim := { program := "ytjhgibmeokghmaadoor", sum := "a6a92fabcc33e2aaee19b79160027164eff8441248817897a065d5ca7110febc", func := "loop.example/godown/laws.FnExactFrsFresh", spec := "fnExactFrsFresh", unfollowed := true, recurses := true, named := ["loop.example/godown/impl.byteClasses"], apart := false, laid := [("loop.example/godown/impl.byteClasses", laid_loop_example_godown_impl_byteClasses)] }
def FnExactFrsFreshSaid : Prop := fnExactFrsFreshRow.holds Tryd.pinned (OpenSpec.ofChange fnExactFrsFreshSpec)

/-- ITS FALSE NEIGHBOUR: 'it returns false'. Refute it at one input. -/
def fnExactFrsFreshWrong : ChangeSpec := { name := "fnExactFrsFresh", vars := ["loop.example/godown/impl.byteClasses"], fn := fun _ => fun
  | [d1, d2, d3, g1] => { results := [.lit (.bool false)], args := [d1, d2, d3], vars := [g1] }
  | _ => none }
def FnExactFrsFreshWrongFalsely : Prop := fnExactFrsFreshRow.holds Tryd.pinned (OpenSpec.ofChange fnExactFrsFreshWrong)

/-- 'laws.FnExactFrsMerge': WHATEVER THE INPUT: true; the input reads as it did. -/
def fnExactFrsMergeSpec : ChangeSpec := { name := "fnExactFrsMerge", vars := ["loop.example/godown/impl.byteClasses"], fn := fun _ => fun
  | [d1, d2, g1] => { results := [.lit (.bool true)], args := [d1, d2], vars := [g1] }
  | _ => none }
def fnExactFrsMergeRow : OpenClaim := { program := "ytjhgibmeokghmaadoor", sum := "a6a92fabcc33e2aaee19b79160027164eff8441248817897a065d5ca7110febc", func := "loop.example/godown/laws.FnExactFrsMerge", spec := "fnExactFrsMerge", unfollowed := true, recurses := true, named := ["loop.example/godown/impl.byteClasses"], apart := false, laid := [("loop.example/godown/impl.byteClasses", laid_loop_example_godown_impl_byteClasses)] }
def FnExactFrsMergeSaid : Prop := fnExactFrsMergeRow.holds Tryd.pinned (OpenSpec.ofChange fnExactFrsMergeSpec)

/-- ITS FALSE NEIGHBOUR: 'it returns false'. Refute it at one input. -/
def fnExactFrsMergeWrong : ChangeSpec := { name := "fnExactFrsMerge", vars := ["loop.example/godown/impl.byteClasses"], fn := fun _ => fun
  | [d1, d2, g1] => { results := [.lit (.bool false)], args := [d1, d2], vars := [g1] }
  | _ => none }
def FnExactFrsMergeWrongFalsely : Prop := fnExactFrsMergeRow.holds Tryd.pinned (OpenSpec.ofChange fnExactFrsMergeWrong)

/-- 'laws.FnExactRspText': WHATEVER THE INPUT: true; the input reads as it did. -/
def fnExactRspTextSpec : ChangeSpec := { name := "fnExactRspText", vars := ["loop.example/godown/impl.codingNames", "loop.example/godown/impl.byteClasses"], fn := fun _ => fun
  | [d1, d2, g1, g2] => { results := [.lit (.bool true)], args := [d1, d2], vars := [g1, g2] }
  | _ => none }
def fnExactRspTextRow : OpenClaim := { program := "ytjhgibmeokghmaadoor", sum := "a6a92fabcc33e2aaee19b79160027164eff8441248817897a065d5ca7110febc", func := "loop.example/godown/laws.FnExactRspText", spec := "fnExactRspText", unfollowed := true, recurses := true, named := ["loop.example/godown/impl.codingNames", "loop.example/godown/impl.byteClasses", "internal/strconv.uint64pow10", "math/bits.deBruijn32tab", "math/bits.deBruijn64tab"], apart := false, laid := [("math/bits.deBruijn32tab", laid_math_bits_deBruijn32tab), ("math/bits.deBruijn64tab", laid_math_bits_deBruijn64tab), ("internal/strconv.uint64pow10", laid_internal_strconv_uint64pow10), ("loop.example/godown/impl.byteClasses", laid_loop_example_godown_impl_byteClasses), ("loop.example/godown/impl.codingNames", laid_loop_example_godown_impl_codingNames)] }
def FnExactRspTextSaid : Prop := fnExactRspTextRow.holds Tryd.pinned (OpenSpec.ofChange fnExactRspTextSpec)

/-- ITS FALSE NEIGHBOUR: 'it returns false'. Refute it at one input. -/
def fnExactRspTextWrong : ChangeSpec := { name := "fnExactRspText", vars := ["loop.example/godown/impl.codingNames", "loop.example/godown/impl.byteClasses"], fn := fun _ => fun
  | [d1, d2, g1, g2] => { results := [.lit (.bool false)], args := [d1, d2], vars := [g1, g2] }
  | _ => none }
def FnExactRspTextWrongFalsely : Prop := fnExactRspTextRow.holds Tryd.pinned (OpenSpec.ofChange fnExactRspTextWrong)

/- THE SECOND FORM. 'bulk': how many values and letters a reading holds, each counted each time it is reached (what is shared counts as often as it is met; a slice's spare places count too). A statement '..UptoSaid' is the law's where the arguments, and the package variables that the reading takes, are together of bulk at most 1048576: NARROWER than '..Said'. Prove '..Said' where nothing that the law and all that it calls make is longer than what came in: it says more and counts as full. Else prove '..UptoSaid'. A law counts once. -/
mutual
def uptoBulk {H : Type} : DataW H → Nat
  | .lit (.string bytes) => bytes.length + 1
  | .lit _ => 1
  | .nil => 1
  | .ptr d => uptoBulk d + 1
  | .slice elems spare => uptoBulkAll elems + uptoBulkAll spare + 1
  | .agg parts => uptoBulkAll parts + 1
  | .iface _ d => uptoBulk d + 1
  | .map entries => uptoBulkEntries entries + 1
  | .held _ => 1
def uptoBulkAll {H : Type} : List (DataW H) → Nat
  | [] => 0
  | d :: r => uptoBulk d + uptoBulkAll r
def uptoBulkEntries {H : Type} : List (Lit × DataW H) → Nat
  | [] => 0
  | x :: r => uptoBulkEntry x + uptoBulkEntries r
def uptoBulkEntry {H : Type} : Lit × DataW H → Nat
  | (.string bytes, d) => bytes.length + uptoBulk d + 1
  | (_, d) => uptoBulk d + 1
 end
def uptoSmall : (H : Type) → List (DataW H) → Bool := fun _ ds => decide (uptoBulkAll ds ≤ 1048576)
def OpenSpec.upto (s : _root_.Go.ChangeSpec) : _root_.Go.OpenSpec := { _root_.Go.OpenSpec.ofChange s with cond := some uptoSmall }

/-- 'laws.FnFrsFresh', WHERE WHAT IT READS IS OF BULK AT MOST 1048576: true; the input reads as it did. -/
def fnFrsFreshUptoRow : OpenClaim := { program := "ytjhgibmeokghmaadoor", sum := "a6a92fabcc33e2aaee19b79160027164eff8441248817897a065d5ca7110febc", func := "loop.example/godown/laws.FnFrsFresh", spec := "fnFrsFresh", unfollowed := true, recurses := true, named := ["loop.example/godown/impl.byteClasses"], apart := false, laid := [("loop.example/godown/impl.byteClasses", laid_loop_example_godown_impl_byteClasses)], narrowed := true }
def FnFrsFreshUptoSaid : Prop := fnFrsFreshUptoRow.holds Tryd.pinned (OpenSpec.upto fnFrsFreshSpec)

/-- 'laws.FnFrsAge', WHERE WHAT IT READS IS OF BULK AT MOST 1048576: true; the input reads as it did. -/
def fnFrsAgeUptoRow : OpenClaim := { program := "ytjhgibmeokghmaadoor", sum := "a6a92fabcc33e2aaee19b79160027164eff8441248817897a065d5ca7110febc", func := "loop.example/godown/laws.FnFrsAge", spec := "fnFrsAge", named := ["loop.example/godown/impl.byteClasses"], apart := false, laid := [("loop.example/godown/impl.byteClasses", laid_loop_example_godown_impl_byteClasses)], narrowed := true }
def FnFrsAgeUptoSaid : Prop := fnFrsAgeUptoRow.holds Tryd.pinned (OpenSpec.upto fnFrsAgeSpec)

/-- 'laws.FnFrsKeep', WHERE WHAT IT READS IS OF BULK AT MOST 1048576: true; the input reads as it did. -/
def fnFrsKeepUptoRow : OpenClaim := { program := "ytjhgibmeokghmaadoor", sum := "a6a92fabcc33e2aaee19b79160027164eff8441248817897a065d5ca7110febc", func := "loop.example/godown/laws.FnFrsKeep", spec := "fnFrsKeep", unfollowed := true, recurses := true, named := ["loop.example/godown/impl.byteClasses"], apart := false, laid := [("loop.example/godown/impl.byteClasses", laid_loop_example_godown_impl_byteClasses)], narrowed := true }
def FnFrsKeepUptoSaid : Prop := fnFrsKeepUptoRow.holds Tryd.pinned (OpenSpec.upto fnFrsKeepSpec)

/-- 'laws.FnFrsMerge', WHERE WHAT IT READS IS OF BULK AT MOST 1048576: true; the input reads as it did. -/
def fnFrsMergeUptoRow : OpenClaim := { program := "ytjhgibmeokghmaadoor", sum := "a6a92fabcc33e2aaee19b79160027164eff8441248817897a065d5ca7110febc", func := "loop.example/godown/laws.FnFrsMerge", spec := "fnFrsMerge", unfollowed := true, recurses := true, named := ["loop.example/godown/impl.byteClasses"], apart := false, laid := [("loop.example/godown/impl.byteClasses", laid_loop_example_godown_impl_byteClasses)], narrowed := true }
def FnFrsMergeUptoSaid : Prop := fnFrsMergeUptoRow.holds Tryd.pinned (OpenSpec.upto fnFrsMergeSpec)

/-- 'laws.FnRspText', WHERE WHAT IT READS IS OF BULK AT MOST 1048576: true; the input reads as it did. -/
def fnRspTextUptoRow : OpenClaim := { program := "ytjhgibmeokghmaadoor", sum := "a6a92fabcc33e2aaee19b79160027164eff8441248817897a065d5ca7110febc", func := "loop.example/godown/laws.FnRspText", spec := "fnRspText", unfollowed := true, recurses := true, named := ["loop.example/godown/impl.codingNames", "loop.example/godown/impl.byteClasses", "internal/strconv.uint64pow10", "math/bits.deBruijn32tab", "math/bits.deBruijn64tab"], apart := false, laid := [("math/bits.deBruijn32tab", laid_math_bits_deBruijn32tab), ("math/bits.deBruijn64tab", laid_math_bits_deBruijn64tab), ("internal/strconv.uint64pow10", laid_internal_strconv_uint64pow10), ("loop.example/godown/impl.byteClasses", laid_loop_example_godown_impl_byteClasses), ("loop.example/godown/impl.codingNames", laid_loop_example_godown_impl_codingNames)], narrowed := true }
def FnRspTextUptoSaid : Prop := fnRspTextUptoRow.holds Tryd.pinned (OpenSpec.upto fnRspTextSpec)

/-- 'laws.FnFrsEver', WHERE WHAT IT READS IS OF BULK AT MOST 1048576: true; the input reads as it did. -/
def fnFrsEverUptoRow : OpenClaim := { program := "ytjhgibmeokghmaadoor", sum := "a6a92fabcc33e2aaee19b79160027164eff8441248817897a065d5ca7110febc", func := "loop.example/godown/laws.FnFrsEver", spec := "fnFrsEver", unfollowed := true, recurses := true, named := ["loop.example/godown/impl.byteClasses"], apart := false, laid := [("loop.example/godown/impl.byteClasses", laid_loop_example_godown_impl_byteClasses)], narrowed := true }
def FnFrsEverUptoSaid : Prop := fnFrsEverUptoRow.holds Tryd.pinned (OpenSpec.upto fnFrsEverSpec)

/-- 'laws.FnExactRspOk', WHERE WHAT IT READS IS OF BULK AT MOST 1048576: true; the input reads as it did. -/
def fnExactRspOkUptoRow : OpenClaim := { program := "ytjhgibmeokghmaadoor", sum := "a6a92fabcc33e2aaee19b79160027164eff8441248817897a065d5ca7110febc", func := "loop.example/godown/laws.FnExactRspOk", spec := "fnExactRspOk", unfollowed := true, recurses := true, named := ["loop.example/godown/impl.byteClasses"], apart := false, laid := [("loop.example/godown/impl.byteClasses", laid_loop_example_godown_impl_byteClasses)], narrowed := true }
def FnExactRspOkUptoSaid : Prop := fnExactRspOkUptoRow.holds Tryd.pinned (OpenSpec.upto fnExactRspOkSpec)

/-- 'laws.FnExactFrsKeep', WHERE WHAT IT READS IS OF BULK AT MOST 1048576: true; the input reads as it did. -/
def fnExactFrsKeepUptoRow : OpenClaim := { program := "ytjhgibmeokghmaadoor", sum := "a6a92fabcc33e2aaee19b79160027164eff8441248817897a065d5ca7110febc", func := "loop.example/godown/laws.FnExactFrsKeep", spec := "fnExactFrsKeep", unfollowed := true, recurses := true, named := ["loop.example/godown/impl.byteClasses"], apart := false, laid := [("loop.example/godown/impl.byteClasses", laid_loop_example_godown_impl_byteClasses)], narrowed := true }
def FnExactFrsKeepUptoSaid : Prop := fnExactFrsKeepUptoRow.holds Tryd.pinned (OpenSpec.upto fnExactFrsKeepSpec)

/-- 'laws.FnExactFrsFresh', WHERE WHAT IT READS IS OF BULK AT MOST 1048576: true; the input reads as it did. -/
def fnExactFrsFreshUptoRow : OpenClaim := { program := "ytjhgibmeokghmaadoor", sum := "a6a92fabcc33e2aaee19b79160027164eff8441248817897a065d5ca7110febc", func := "loop.example/godown/laws.FnExactFrsFresh", spec := "fnExactFrsFresh", unfollowed := true, recurses := true, named := ["loop.example/godown/impl.byteClasses"], apart := false, laid := [("loop.example/godown/impl.byteClasses", laid_loop_example_godown_impl_byteClasses)], narrowed := true }
def FnExactFrsFreshUptoSaid : Prop := fnExactFrsFreshUptoRow.holds Tryd.pinned (OpenSpec.upto fnExactFrsFreshSpec)

/-- 'laws.FnExactFrsMerge', WHERE WHAT IT READS IS OF BULK AT MOST 1048576: true; the input reads as it did. -/
def fnExactFrsMergeUptoRow : OpenClaim := { program := "ytjhgibmeokghmaadoor", sum := "a6a92fabcc33e2aaee19b79160027164eff8441248817897a065d5ca7110febc", func := "loop.example/godown/laws.FnExactFrsMerge", spec := "fnExactFrsMerge", unfollowed := true, recurses := true, named := ["loop.example/godown/impl.byteClasses"], apart := false, laid := [("loop.example/godown/impl.byteClasses", laid_loop_example_godown_impl_byteClasses)], narrowed := true }
def FnExactFrsMergeUptoSaid : Prop := fnExactFrsMergeUptoRow.holds Tryd.pinned (OpenSpec.upto fnExactFrsMergeSpec)

/-- 'laws.FnExactRspText', WHERE WHAT IT READS IS OF BULK AT MOST 1048576: true; the input reads as it did. -/
def fnExactRspTextUptoRow : OpenClaim := { program := "ytjhgibmeokghmaadoor", sum := "a6a92fabcc33e2aaee19b79160027164eff8441248817897a065d5ca7110febc", func := "loop.example/godown/laws.FnExactRspText", spec := "fnExactRspText", unfollowed := true, recurses := true, named := ["loop.example/godown/impl.codingNames", "loop.example/godown/impl.byteClasses", "internal/strconv.uint64pow10", "math/bits.deBruijn32tab", "math/bits.deBruijn64tab"], apart := false, laid := [("math/bits.deBruijn32tab", laid_math_bits_deBruijn32tab), ("math/bits.deBruijn64tab", laid_math_bits_deBruijn64tab), ("internal/strconv.uint64pow10", laid_internal_strconv_uint64pow10), ("loop.example/godown/impl.byteClasses", laid_loop_example_godown_impl_byteClasses), ("loop.example/godown/impl.codingNames", laid_loop_example_godown_impl_codingNames)], narrowed := true }
def FnExactRspTextUptoSaid : Prop := fnExactRspTextUptoRow.holds Tryd.pinned (OpenSpec.upto fnExactRspTextSpec)

end Rows
end Go.Proofs.YtjhgibmeokghmaaDoor
