/-
  NARROWER THAN 'FOR EVERY INPUT', by the rows' own cells (each row's printed sentence says how): FnCfgRoute: laid · FnCfgAlone: laid · FnCfgLess: laid · FnExactCfgOk: laid · FnExactCfgRoute: laid · FnExactCfgAlone: laid.
  DERIVED. THE GIVEN ROWS OF THIS SEAT. 6 by the template 'for every input the law returns true; each argument reads behind the call as it read before'; 0 by the template 'total and deterministic' (their statements: YtojmfcpkmknleaaDoorTotals.lean).
  GIVEN WITH THE SEED: the statements are not yours to turn. If you find one false, say at which input.
  Laid BY PROGRAM, IN A SANDBOX (cutbox-rows.mjs): the forced cells as the released guide's own fill.sh prints them over the translation 6709de055f191f62… (all of the seat's roots in one cut). By AI agents, Wed Nov 11 2026. No macro, syntax, notation, axiom, sorry.
-/
import Derived.Test.YtojmfcpkmknleaaDoorChecked
import GoSem.Claim
import GoSem.ClaimJoined
import GoSem.ClaimMapViews
import Derived.JoinedTies
import Derived.KernelRfl
namespace Go.Proofs.YtojmfcpkmknleaaDoor
/- THE CELL 'sum', in the pinned program and in every row, IS THE sha256 OF THE DUMP (.gsa) THAT YtojmfcpkmknleaaDoorProg.lean LOADS. Nothing in Lean hashes anything: it is a label: what it is worth is what the hold of that sum in a sandbox is worth. -/
noncomputable def Tryd.pinned : Pinned := { name := "ytojmfcpkmknleaadoor", sum := "6709de055f191f62c249b253843a1714c8aaa7535bb5735dc90456df596ee287", checked := Tryd.checked }
namespace Rows
def none {H : Type} : Left H := { results := [], args := [] }

/- WHAT THE LISTED PACKAGE-LEVEL VARIABLES READ AS WHEN THE CALL BEGINS. Each datum BY PROGRAM (the guide's laid-datum.mjs) off the statement by which the dump's own 'gosem.cut.vars' lays the variable. In a bare row this is a premise. The card (YtojmfcpkmknleaaDoorCards.lean) ties it to the program's text. -/
def laid_loop_example_godown_impl_byteClasses {H : Type} : DataW H := .agg [.lit (.int .u8 0), .lit (.int .u8 0), .lit (.int .u8 0), .lit (.int .u8 0), .lit (.int .u8 0), .lit (.int .u8 0), .lit (.int .u8 0), .lit (.int .u8 0), .lit (.int .u8 0), .lit (.int .u8 0), .lit (.int .u8 0), .lit (.int .u8 0), .lit (.int .u8 0), .lit (.int .u8 0), .lit (.int .u8 0), .lit (.int .u8 0), .lit (.int .u8 0), .lit (.int .u8 0), .lit (.int .u8 0), .lit (.int .u8 0), .lit (.int .u8 0), .lit (.int .u8 0), .lit (.int .u8 0), .lit (.int .u8 0), .lit (.int .u8 0), .lit (.int .u8 0), .lit (.int .u8 0), .lit (.int .u8 0), .lit (.int .u8 0), .lit (.int .u8 0), .lit (.int .u8 0), .lit (.int .u8 0), .lit (.int .u8 0), .lit (.int .u8 0), .lit (.int .u8 0), .lit (.int .u8 0), .lit (.int .u8 0), .lit (.int .u8 0), .lit (.int .u8 0), .lit (.int .u8 0), .lit (.int .u8 0), .lit (.int .u8 0), .lit (.int .u8 0), .lit (.int .u8 0), .lit (.int .u8 0), .lit (.int .u8 1), .lit (.int .u8 0), .lit (.int .u8 0), .lit (.int .u8 1), .lit (.int .u8 1), .lit (.int .u8 1), .lit (.int .u8 1), .lit (.int .u8 1), .lit (.int .u8 1), .lit (.int .u8 1), .lit (.int .u8 1), .lit (.int .u8 1), .lit (.int .u8 1), .lit (.int .u8 0), .lit (.int .u8 0), .lit (.int .u8 0), .lit (.int .u8 0), .lit (.int .u8 0), .lit (.int .u8 0), .lit (.int .u8 0), .lit (.int .u8 2), .lit (.int .u8 2), .lit (.int .u8 2), .lit (.int .u8 2), .lit (.int .u8 2), .lit (.int .u8 2), .lit (.int .u8 2), .lit (.int .u8 2), .lit (.int .u8 2), .lit (.int .u8 2), .lit (.int .u8 2), .lit (.int .u8 2), .lit (.int .u8 2), .lit (.int .u8 2), .lit (.int .u8 2), .lit (.int .u8 2), .lit (.int .u8 2), .lit (.int .u8 2), .lit (.int .u8 2), .lit (.int .u8 2), .lit (.int .u8 2), .lit (.int .u8 2), .lit (.int .u8 2), .lit (.int .u8 2), .lit (.int .u8 2), .lit (.int .u8 2), .lit (.int .u8 0), .lit (.int .u8 0), .lit (.int .u8 0), .lit (.int .u8 0), .lit (.int .u8 0), .lit (.int .u8 0), .lit (.int .u8 1), .lit (.int .u8 1), .lit (.int .u8 1), .lit (.int .u8 1), .lit (.int .u8 1), .lit (.int .u8 1), .lit (.int .u8 1), .lit (.int .u8 1), .lit (.int .u8 1), .lit (.int .u8 1), .lit (.int .u8 1), .lit (.int .u8 1), .lit (.int .u8 1), .lit (.int .u8 1), .lit (.int .u8 1), .lit (.int .u8 1), .lit (.int .u8 1), .lit (.int .u8 1), .lit (.int .u8 1), .lit (.int .u8 1), .lit (.int .u8 1), .lit (.int .u8 1), .lit (.int .u8 1), .lit (.int .u8 1), .lit (.int .u8 1), .lit (.int .u8 1)]

/-- 'laws.FnCfgRoute': WHATEVER THE INPUT: true; the input reads as it did. -/
def fnCfgRouteSpec : ChangeSpec := { name := "fnCfgRoute", vars := ["loop.example/godown/impl.byteClasses"], fn := fun _ => fun
  | [d, g1] => { results := [.lit (.bool true)], args := [d], vars := [g1] }
  | _ => none }
def fnCfgRouteRow : OpenClaim := { program := "ytojmfcpkmknleaadoor", sum := "6709de055f191f62c249b253843a1714c8aaa7535bb5735dc90456df596ee287", func := "loop.example/godown/laws.FnCfgRoute", spec := "fnCfgRoute", inPlace := ["internal/bytealg.IndexByteString"], unfollowed := true, recurses := true, named := ["loop.example/godown/impl.byteClasses"], apart := false, laid := [("loop.example/godown/impl.byteClasses", laid_loop_example_godown_impl_byteClasses)] }
def FnCfgRouteSaid : Prop := fnCfgRouteRow.holds Tryd.pinned (OpenSpec.ofChange fnCfgRouteSpec)

/-- ITS FALSE NEIGHBOUR: 'it returns false'. Refute it at one input. -/
def fnCfgRouteWrong : ChangeSpec := { name := "fnCfgRoute", vars := ["loop.example/godown/impl.byteClasses"], fn := fun _ => fun
  | [d, g1] => { results := [.lit (.bool false)], args := [d], vars := [g1] }
  | _ => none }
def FnCfgRouteWrongFalsely : Prop := fnCfgRouteRow.holds Tryd.pinned (OpenSpec.ofChange fnCfgRouteWrong)

/-- 'laws.FnCfgAlone': WHATEVER THE INPUT: true; the input reads as it did. -/
def fnCfgAloneSpec : ChangeSpec := { name := "fnCfgAlone", vars := ["loop.example/godown/impl.byteClasses"], fn := fun _ => fun
  | [d, g1] => { results := [.lit (.bool true)], args := [d], vars := [g1] }
  | _ => none }
def fnCfgAloneRow : OpenClaim := { program := "ytojmfcpkmknleaadoor", sum := "6709de055f191f62c249b253843a1714c8aaa7535bb5735dc90456df596ee287", func := "loop.example/godown/laws.FnCfgAlone", spec := "fnCfgAlone", inPlace := ["internal/bytealg.IndexByteString"], unfollowed := true, recurses := true, named := ["loop.example/godown/impl.byteClasses"], apart := false, laid := [("loop.example/godown/impl.byteClasses", laid_loop_example_godown_impl_byteClasses)] }
def FnCfgAloneSaid : Prop := fnCfgAloneRow.holds Tryd.pinned (OpenSpec.ofChange fnCfgAloneSpec)

/-- ITS FALSE NEIGHBOUR: 'it returns false'. Refute it at one input. -/
def fnCfgAloneWrong : ChangeSpec := { name := "fnCfgAlone", vars := ["loop.example/godown/impl.byteClasses"], fn := fun _ => fun
  | [d, g1] => { results := [.lit (.bool false)], args := [d], vars := [g1] }
  | _ => none }
def FnCfgAloneWrongFalsely : Prop := fnCfgAloneRow.holds Tryd.pinned (OpenSpec.ofChange fnCfgAloneWrong)

/-- 'laws.FnCfgLess': WHATEVER THE INPUT: true; the input reads as it did. -/
def fnCfgLessSpec : ChangeSpec := { name := "fnCfgLess", vars := ["loop.example/godown/impl.byteClasses"], fn := fun _ => fun
  | [d, g1] => { results := [.lit (.bool true)], args := [d], vars := [g1] }
  | _ => none }
def fnCfgLessRow : OpenClaim := { program := "ytojmfcpkmknleaadoor", sum := "6709de055f191f62c249b253843a1714c8aaa7535bb5735dc90456df596ee287", func := "loop.example/godown/laws.FnCfgLess", spec := "fnCfgLess", inPlace := ["internal/bytealg.IndexByteString"], unfollowed := true, recurses := true, named := ["loop.example/godown/impl.byteClasses"], apart := false, laid := [("loop.example/godown/impl.byteClasses", laid_loop_example_godown_impl_byteClasses)] }
def FnCfgLessSaid : Prop := fnCfgLessRow.holds Tryd.pinned (OpenSpec.ofChange fnCfgLessSpec)

/-- ITS FALSE NEIGHBOUR: 'it returns false'. Refute it at one input. -/
def fnCfgLessWrong : ChangeSpec := { name := "fnCfgLess", vars := ["loop.example/godown/impl.byteClasses"], fn := fun _ => fun
  | [d, g1] => { results := [.lit (.bool false)], args := [d], vars := [g1] }
  | _ => none }
def FnCfgLessWrongFalsely : Prop := fnCfgLessRow.holds Tryd.pinned (OpenSpec.ofChange fnCfgLessWrong)

/-- 'laws.FnExactCfgOk': WHATEVER THE INPUT: true; the input reads as it did. -/
def fnExactCfgOkSpec : ChangeSpec := { name := "fnExactCfgOk", vars := ["loop.example/godown/impl.byteClasses"], fn := fun _ => fun
  | [d, g1] => { results := [.lit (.bool true)], args := [d], vars := [g1] }
  | _ => none }
def fnExactCfgOkRow : OpenClaim := { program := "ytojmfcpkmknleaadoor", sum := "6709de055f191f62c249b253843a1714c8aaa7535bb5735dc90456df596ee287", func := "loop.example/godown/laws.FnExactCfgOk", spec := "fnExactCfgOk", inPlace := ["internal/bytealg.IndexByteString"], unfollowed := true, recurses := true, named := ["loop.example/godown/impl.byteClasses"], apart := false, laid := [("loop.example/godown/impl.byteClasses", laid_loop_example_godown_impl_byteClasses)] }
def FnExactCfgOkSaid : Prop := fnExactCfgOkRow.holds Tryd.pinned (OpenSpec.ofChange fnExactCfgOkSpec)

/-- ITS FALSE NEIGHBOUR: 'it returns false'. Refute it at one input. -/
def fnExactCfgOkWrong : ChangeSpec := { name := "fnExactCfgOk", vars := ["loop.example/godown/impl.byteClasses"], fn := fun _ => fun
  | [d, g1] => { results := [.lit (.bool false)], args := [d], vars := [g1] }
  | _ => none }
def FnExactCfgOkWrongFalsely : Prop := fnExactCfgOkRow.holds Tryd.pinned (OpenSpec.ofChange fnExactCfgOkWrong)

/-- 'laws.FnExactCfgRoute': WHATEVER THE INPUT: true; the input reads as it did. -/
def fnExactCfgRouteSpec : ChangeSpec := { name := "fnExactCfgRoute", vars := ["loop.example/godown/impl.byteClasses"], fn := fun _ => fun
  | [d1, d2, g1] => { results := [.lit (.bool true)], args := [d1, d2], vars := [g1] }
  | _ => none }
def fnExactCfgRouteRow : OpenClaim := { program := "ytojmfcpkmknleaadoor", sum := "6709de055f191f62c249b253843a1714c8aaa7535bb5735dc90456df596ee287", func := "loop.example/godown/laws.FnExactCfgRoute", spec := "fnExactCfgRoute", inPlace := ["internal/bytealg.IndexByteString"], unfollowed := true, recurses := true, named := ["loop.example/godown/impl.byteClasses"], apart := false, laid := [("loop.example/godown/impl.byteClasses", laid_loop_example_godown_impl_byteClasses)] }
def FnExactCfgRouteSaid : Prop := fnExactCfgRouteRow.holds Tryd.pinned (OpenSpec.ofChange fnExactCfgRouteSpec)

/-- ITS FALSE NEIGHBOUR: 'it returns false'. Refute it at one input. -/
def fnExactCfgRouteWrong : ChangeSpec := { name := "fnExactCfgRoute", vars := ["loop.example/godown/impl.byteClasses"], fn := fun _ => fun
  | [d1, d2, g1] => { results := [.lit (.bool false)], args := [d1, d2], vars := [g1] }
  | _ => none }
def FnExactCfgRouteWrongFalsely : Prop := fnExactCfgRouteRow.holds Tryd.pinned (OpenSpec.ofChange fnExactCfgRouteWrong)

/-- 'laws.FnExactCfgAlone': WHATEVER THE INPUT: true; the input reads as it did. -/
def fnExactCfgAloneSpec : ChangeSpec := { name := "fnExactCfgAlone", vars := ["loop.example/godown/impl.byteClasses"], fn := fun _ => fun
  | [d1, d2, g1] => { results := [.lit (.bool true)], args := [d1, d2], vars := [g1] }
  | _ => none }
def fnExactCfgAloneRow : OpenClaim := { program := "ytojmfcpkmknleaadoor", sum := "6709de055f191f62c249b253843a1714c8aaa7535bb5735dc90456df596ee287", func := "loop.example/godown/laws.FnExactCfgAlone", spec := "fnExactCfgAlone", inPlace := ["internal/bytealg.IndexByteString"], unfollowed := true, recurses := true, named := ["loop.example/godown/impl.byteClasses"], apart := false, laid := [("loop.example/godown/impl.byteClasses", laid_loop_example_godown_impl_byteClasses)] }
def FnExactCfgAloneSaid : Prop := fnExactCfgAloneRow.holds Tryd.pinned (OpenSpec.ofChange fnExactCfgAloneSpec)

/-- ITS FALSE NEIGHBOUR: 'it returns false'. Refute it at one input. -/
def fnExactCfgAloneWrong : ChangeSpec := { name := "fnExactCfgAlone", vars := ["loop.example/godown/impl.byteClasses"], fn := fun _ => fun
  | [d1, d2, g1] => { results := [.lit (.bool false)], args := [d1, d2], vars := [g1] }
  | _ => none }
def FnExactCfgAloneWrongFalsely : Prop := fnExactCfgAloneRow.holds Tryd.pinned (OpenSpec.ofChange fnExactCfgAloneWrong)

/- THE SECOND FORM. 'bulk': how many values and letters a reading holds, each counted each time it is reached (what is shared counts as often as it is met; a slice's spare places count too). A statement '..UptoSaid' is the law's where the arguments, and the package variables that the reading takes, are together of bulk at most 1048576: NARROWER than '..Said'. Prove '..Said' where nothing that the law and all that it calls make is longer than what came in: it says more and counts as full. Else prove '..UptoSaid'. A law counts once. -/
mutual
def uptoBulk {H : Type} : DataW H → Nat
  | .lit (.string bytes) => bytes.length + 1
  | .lit _ => 1
  | .nil => 1
  | .ptr d => uptoBulk d + 1
  | .slice elems spare => uptoBulkAll elems + uptoBulkAll spare + 1
  | .agg parts => uptoBulkAll parts + 1
  | .iface _ d => uptoBulk d + 1
  | .map entries => uptoBulkEntries entries + 1
  | .held _ => 1
def uptoBulkAll {H : Type} : List (DataW H) → Nat
  | [] => 0
  | d :: r => uptoBulk d + uptoBulkAll r
def uptoBulkEntries {H : Type} : List (Lit × DataW H) → Nat
  | [] => 0
  | x :: r => uptoBulkEntry x + uptoBulkEntries r
def uptoBulkEntry {H : Type} : Lit × DataW H → Nat
  | (.string bytes, d) => bytes.length + uptoBulk d + 1
  | (_, d) => uptoBulk d + 1
 end
def uptoSmall : (H : Type) → List (DataW H) → Bool := fun _ ds => decide (uptoBulkAll ds ≤ 1048576)
def OpenSpec.upto (s : _root_.Go.ChangeSpec) : _root_.Go.OpenSpec := { _root_.Go.OpenSpec.ofChange s with cond := some uptoSmall }

/-- 'laws.FnCfgRoute', WHERE WHAT IT READS IS OF BULK AT MOST 1048576: true; the input reads as it did. -/
def fnCfgRouteUptoRow : OpenClaim := { program := "ytojmfcpkmknleaadoor", sum := "6709de055f191f62c249b253843a1714c8aaa7535bb5735dc90456df596ee287", func := "loop.example/godown/laws.FnCfgRoute", spec := "fnCfgRoute", inPlace := ["internal/bytealg.IndexByteString"], unfollowed := true, recurses := true, named := ["loop.example/godown/impl.byteClasses"], apart := false, laid := [("loop.example/godown/impl.byteClasses", laid_loop_example_godown_impl_byteClasses)], narrowed := true }
def FnCfgRouteUptoSaid : Prop := fnCfgRouteUptoRow.holds Tryd.pinned (OpenSpec.upto fnCfgRouteSpec)

/-- 'laws.FnCfgAlone', WHERE WHAT IT READS IS OF BULK AT MOST 1048576: true; the input reads as it did. -/
def fnCfgAloneUptoRow : OpenClaim := { program := "ytojmfcpkmknleaadoor", sum := "6709de055f191f62c249b253843a1714c8aaa7535bb5735dc90456df596ee287", func := "loop.example/godown/laws.FnCfgAlone", spec := "fnCfgAlone", inPlace := ["internal/bytealg.IndexByteString"], unfollowed := true, recurses := true, named := ["loop.example/godown/impl.byteClasses"], apart := false, laid := [("loop.example/godown/impl.byteClasses", laid_loop_example_godown_impl_byteClasses)], narrowed := true }
def FnCfgAloneUptoSaid : Prop := fnCfgAloneUptoRow.holds Tryd.pinned (OpenSpec.upto fnCfgAloneSpec)

/-- 'laws.FnCfgLess', WHERE WHAT IT READS IS OF BULK AT MOST 1048576: true; the input reads as it did. -/
def fnCfgLessUptoRow : OpenClaim := { program := "ytojmfcpkmknleaadoor", sum := "6709de055f191f62c249b253843a1714c8aaa7535bb5735dc90456df596ee287", func := "loop.example/godown/laws.FnCfgLess", spec := "fnCfgLess", inPlace := ["internal/bytealg.IndexByteString"], unfollowed := true, recurses := true, named := ["loop.example/godown/impl.byteClasses"], apart := false, laid := [("loop.example/godown/impl.byteClasses", laid_loop_example_godown_impl_byteClasses)], narrowed := true }
def FnCfgLessUptoSaid : Prop := fnCfgLessUptoRow.holds Tryd.pinned (OpenSpec.upto fnCfgLessSpec)

/-- 'laws.FnExactCfgOk', WHERE WHAT IT READS IS OF BULK AT MOST 1048576: true; the input reads as it did. -/
def fnExactCfgOkUptoRow : OpenClaim := { program := "ytojmfcpkmknleaadoor", sum := "6709de055f191f62c249b253843a1714c8aaa7535bb5735dc90456df596ee287", func := "loop.example/godown/laws.FnExactCfgOk", spec := "fnExactCfgOk", inPlace := ["internal/bytealg.IndexByteString"], unfollowed := true, recurses := true, named := ["loop.example/godown/impl.byteClasses"], apart := false, laid := [("loop.example/godown/impl.byteClasses", laid_loop_example_godown_impl_byteClasses)], narrowed := true }
def FnExactCfgOkUptoSaid : Prop := fnExactCfgOkUptoRow.holds Tryd.pinned (OpenSpec.upto fnExactCfgOkSpec)

/-- 'laws.FnExactCfgRoute', WHERE WHAT IT READS IS OF BULK AT MOST 1048576: true; the input reads as it did. -/
def fnExactCfgRouteUptoRow : OpenClaim := { program := "ytojmfcpkmknleaadoor", sum := "6709de055f191f62c249b253843a1714c8aaa7535bb5735dc90456df596ee287", func := "loop.example/godown/laws.FnExactCfgRoute", spec := "fnExactCfgRoute", inPlace := ["internal/bytealg.IndexByteString"], unfollowed := true, recurses := true, named := ["loop.example/godown/impl.byteClasses"], apart := false, laid := [("loop.example/godown/impl.byteClasses", laid_loop_example_godown_impl_byteClasses)], narrowed := true }
def FnExactCfgRouteUptoSaid : Prop := fnExactCfgRouteUptoRow.holds Tryd.pinned (OpenSpec.upto fnExactCfgRouteSpec)

/-- 'laws.FnExactCfgAlone', WHERE WHAT IT READS IS OF BULK AT MOST 1048576: true; the input reads as it did. -/
def fnExactCfgAloneUptoRow : OpenClaim := { program := "ytojmfcpkmknleaadoor", sum := "6709de055f191f62c249b253843a1714c8aaa7535bb5735dc90456df596ee287", func := "loop.example/godown/laws.FnExactCfgAlone", spec := "fnExactCfgAlone", inPlace := ["internal/bytealg.IndexByteString"], unfollowed := true, recurses := true, named := ["loop.example/godown/impl.byteClasses"], apart := false, laid := [("loop.example/godown/impl.byteClasses", laid_loop_example_godown_impl_byteClasses)], narrowed := true }
def FnExactCfgAloneUptoSaid : Prop := fnExactCfgAloneUptoRow.holds Tryd.pinned (OpenSpec.upto fnExactCfgAloneSpec)

end Rows
end Go.Proofs.YtojmfcpkmknleaaDoor
