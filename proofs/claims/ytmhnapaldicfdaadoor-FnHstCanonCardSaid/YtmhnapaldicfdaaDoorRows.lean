/-
  NARROWER THAN 'FOR EVERY INPUT', by the rows' own cells (each row's printed sentence says how): FnHstCanon: laid · FnExactHstCanon: laid.
  DERIVED. THE GIVEN ROWS OF THIS SEAT. 2 by the template 'for every input the law returns true; each argument reads behind the call as it read before'; 0 by the template 'total and deterministic' (their statements: YtmhnapaldicfdaaDoorTotals.lean).
  GIVEN WITH THE SEED: the statements are not yours to turn. If you find one false, say at which input.
  Laid BY PROGRAM, IN A SANDBOX (cutbox-rows.mjs): the forced cells as the released guide's own fill.sh prints them over the translation b1abbd79f12a383c… (all of the seat's roots in one cut). By AI agents, Wed Nov 11 2026. No macro, syntax, notation, axiom, sorry.
-/
import Derived.Test.YtmhnapaldicfdaaDoorChecked
import GoSem.Claim
import GoSem.ClaimJoined
import GoSem.ClaimMapViews
import Derived.JoinedTies
import Derived.KernelRfl
namespace Go.Proofs.YtmhnapaldicfdaaDoor
/- THE CELL 'sum', in the pinned program and in every row, IS THE sha256 OF THE DUMP (.gsa) THAT YtmhnapaldicfdaaDoorProg.lean LOADS. Nothing in Lean hashes anything: it is a label: what it is worth is what the hold of that sum in a sandbox is worth. -/
noncomputable def Tryd.pinned : Pinned := { name := "ytmhnapaldicfdaadoor", sum := "b1abbd79f12a383cc954dcf79af607010cb5fb1b24f811665f25137d68c4c88b", checked := Tryd.checked }
namespace Rows
def none {H : Type} : Left H := { results := [], args := [] }

/- WHAT THE LISTED PACKAGE-LEVEL VARIABLES READ AS WHEN THE CALL BEGINS. Each datum BY PROGRAM (the guide's laid-datum.mjs) off the statement by which the dump's own 'gosem.cut.vars' lays the variable. In a bare row this is a premise. The card (YtmhnapaldicfdaaDoorCards.lean) ties it to the program's text. -/
def laid_loop_example_godown_impl_byteClasses {H : Type} : DataW H := .agg [.lit (.int .u8 0), .lit (.int .u8 0), .lit (.int .u8 0), .lit (.int .u8 0), .lit (.int .u8 0), .lit (.int .u8 0), .lit (.int .u8 0), .lit (.int .u8 0), .lit (.int .u8 0), .lit (.int .u8 0), .lit (.int .u8 0), .lit (.int .u8 0), .lit (.int .u8 0), .lit (.int .u8 0), .lit (.int .u8 0), .lit (.int .u8 0), .lit (.int .u8 0), .lit (.int .u8 0), .lit (.int .u8 0), .lit (.int .u8 0), .lit (.int .u8 0), .lit (.int .u8 0), .lit (.int .u8 0), .lit (.int .u8 0), .lit (.int .u8 0), .lit (.int .u8 0), .lit (.int .u8 0), .lit (.int .u8 0), .lit (.int .u8 0), .lit (.int .u8 0), .lit (.int .u8 0), .lit (.int .u8 0), .lit (.int .u8 0), .lit (.int .u8 0), .lit (.int .u8 0), .lit (.int .u8 0), .lit (.int .u8 0), .lit (.int .u8 0), .lit (.int .u8 0), .lit (.int .u8 0), .lit (.int .u8 0), .lit (.int .u8 0), .lit (.int .u8 0), .lit (.int .u8 0), .lit (.int .u8 0), .lit (.int .u8 1), .lit (.int .u8 0), .lit (.int .u8 0), .lit (.int .u8 1), .lit (.int .u8 1), .lit (.int .u8 1), .lit (.int .u8 1), .lit (.int .u8 1), .lit (.int .u8 1), .lit (.int .u8 1), .lit (.int .u8 1), .lit (.int .u8 1), .lit (.int .u8 1), .lit (.int .u8 0), .lit (.int .u8 0), .lit (.int .u8 0), .lit (.int .u8 0), .lit (.int .u8 0), .lit (.int .u8 0), .lit (.int .u8 0), .lit (.int .u8 2), .lit (.int .u8 2), .lit (.int .u8 2), .lit (.int .u8 2), .lit (.int .u8 2), .lit (.int .u8 2), .lit (.int .u8 2), .lit (.int .u8 2), .lit (.int .u8 2), .lit (.int .u8 2), .lit (.int .u8 2), .lit (.int .u8 2), .lit (.int .u8 2), .lit (.int .u8 2), .lit (.int .u8 2), .lit (.int .u8 2), .lit (.int .u8 2), .lit (.int .u8 2), .lit (.int .u8 2), .lit (.int .u8 2), .lit (.int .u8 2), .lit (.int .u8 2), .lit (.int .u8 2), .lit (.int .u8 2), .lit (.int .u8 2), .lit (.int .u8 2), .lit (.int .u8 0), .lit (.int .u8 0), .lit (.int .u8 0), .lit (.int .u8 0), .lit (.int .u8 0), .lit (.int .u8 0), .lit (.int .u8 1), .lit (.int .u8 1), .lit (.int .u8 1), .lit (.int .u8 1), .lit (.int .u8 1), .lit (.int .u8 1), .lit (.int .u8 1), .lit (.int .u8 1), .lit (.int .u8 1), .lit (.int .u8 1), .lit (.int .u8 1), .lit (.int .u8 1), .lit (.int .u8 1), .lit (.int .u8 1), .lit (.int .u8 1), .lit (.int .u8 1), .lit (.int .u8 1), .lit (.int .u8 1), .lit (.int .u8 1), .lit (.int .u8 1), .lit (.int .u8 1), .lit (.int .u8 1), .lit (.int .u8 1), .lit (.int .u8 1), .lit (.int .u8 1), .lit (.int .u8 1)]

/-- 'laws.FnHstCanon': WHATEVER THE INPUT: true; the input reads as it did. -/
def fnHstCanonSpec : ChangeSpec := { name := "fnHstCanon", vars := ["loop.example/godown/impl.byteClasses"], fn := fun _ => fun
  | [d, g1] => { results := [.lit (.bool true)], args := [d], vars := [g1] }
  | _ => none }
def fnHstCanonRow : OpenClaim := { program := "ytmhnapaldicfdaadoor", sum := "b1abbd79f12a383cc954dcf79af607010cb5fb1b24f811665f25137d68c4c88b", func := "loop.example/godown/laws.FnHstCanon", spec := "fnHstCanon", inPlace := ["internal/bytealg.IndexByteString"], named := ["loop.example/godown/impl.byteClasses"], apart := false, laid := [("loop.example/godown/impl.byteClasses", laid_loop_example_godown_impl_byteClasses)] }
def FnHstCanonSaid : Prop := fnHstCanonRow.holds Tryd.pinned (OpenSpec.ofChange fnHstCanonSpec)

/-- ITS FALSE NEIGHBOUR: 'it returns false'. Refute it at one input. -/
def fnHstCanonWrong : ChangeSpec := { name := "fnHstCanon", vars := ["loop.example/godown/impl.byteClasses"], fn := fun _ => fun
  | [d, g1] => { results := [.lit (.bool false)], args := [d], vars := [g1] }
  | _ => none }
def FnHstCanonWrongFalsely : Prop := fnHstCanonRow.holds Tryd.pinned (OpenSpec.ofChange fnHstCanonWrong)

/-- 'laws.FnExactHstCanon': WHATEVER THE INPUT: true; the input reads as it did. -/
def fnExactHstCanonSpec : ChangeSpec := { name := "fnExactHstCanon", vars := ["loop.example/godown/impl.byteClasses"], fn := fun _ => fun
  | [d, g1] => { results := [.lit (.bool true)], args := [d], vars := [g1] }
  | _ => none }
def fnExactHstCanonRow : OpenClaim := { program := "ytmhnapaldicfdaadoor", sum := "b1abbd79f12a383cc954dcf79af607010cb5fb1b24f811665f25137d68c4c88b", func := "loop.example/godown/laws.FnExactHstCanon", spec := "fnExactHstCanon", inPlace := ["internal/bytealg.IndexByteString"], named := ["loop.example/godown/impl.byteClasses"], apart := false, laid := [("loop.example/godown/impl.byteClasses", laid_loop_example_godown_impl_byteClasses)] }
def FnExactHstCanonSaid : Prop := fnExactHstCanonRow.holds Tryd.pinned (OpenSpec.ofChange fnExactHstCanonSpec)

/-- ITS FALSE NEIGHBOUR: 'it returns false'. Refute it at one input. -/
def fnExactHstCanonWrong : ChangeSpec := { name := "fnExactHstCanon", vars := ["loop.example/godown/impl.byteClasses"], fn := fun _ => fun
  | [d, g1] => { results := [.lit (.bool false)], args := [d], vars := [g1] }
  | _ => none }
def FnExactHstCanonWrongFalsely : Prop := fnExactHstCanonRow.holds Tryd.pinned (OpenSpec.ofChange fnExactHstCanonWrong)

/- THE SECOND FORM. 'bulk': how many values and letters a reading holds, each counted each time it is reached (what is shared counts as often as it is met; a slice's spare places count too). A statement '..UptoSaid' is the law's where the arguments, and the package variables that the reading takes, are together of bulk at most 1048576: NARROWER than '..Said'. Prove '..Said' where nothing that the law and all that it calls make is longer than what came in: it says more and counts as full. Else prove '..UptoSaid'. A law counts once. -/
mutual
def uptoBulk {H : Type} : DataW H → Nat
  | .lit (.string bytes) => bytes.length + 1
  | .lit _ => 1
  | .nil => 1
  | .ptr d => uptoBulk d + 1
  | .slice elems spare => uptoBulkAll elems + uptoBulkAll spare + 1
  | .agg parts => uptoBulkAll parts + 1
  | .iface _ d => uptoBulk d + 1
  | .map entries => uptoBulkEntries entries + 1
  | .held _ => 1
def uptoBulkAll {H : Type} : List (DataW H) → Nat
  | [] => 0
  | d :: r => uptoBulk d + uptoBulkAll r
def uptoBulkEntries {H : Type} : List (Lit × DataW H) → Nat
  | [] => 0
  | x :: r => uptoBulkEntry x + uptoBulkEntries r
def uptoBulkEntry {H : Type} : Lit × DataW H → Nat
  | (.string bytes, d) => bytes.length + uptoBulk d + 1
  | (_, d) => uptoBulk d + 1
 end
def uptoSmall : (H : Type) → List (DataW H) → Bool := fun _ ds => decide (uptoBulkAll ds ≤ 1048576)
def OpenSpec.upto (s : _root_.Go.ChangeSpec) : _root_.Go.OpenSpec := { _root_.Go.OpenSpec.ofChange s with cond := some uptoSmall }

/-- 'laws.FnHstCanon', WHERE WHAT IT READS IS OF BULK AT MOST 1048576: true; the input reads as it did. -/
def fnHstCanonUptoRow : OpenClaim := { program := "ytmhnapaldicfdaadoor", sum := "b1abbd79f12a383cc954dcf79af607010cb5fb1b24f811665f25137d68c4c88b", func := "loop.example/godown/laws.FnHstCanon", spec := "fnHstCanon", inPlace := ["internal/bytealg.IndexByteString"], named := ["loop.example/godown/impl.byteClasses"], apart := false, laid := [("loop.example/godown/impl.byteClasses", laid_loop_example_godown_impl_byteClasses)], narrowed := true }
def FnHstCanonUptoSaid : Prop := fnHstCanonUptoRow.holds Tryd.pinned (OpenSpec.upto fnHstCanonSpec)

/-- 'laws.FnExactHstCanon', WHERE WHAT IT READS IS OF BULK AT MOST 1048576: true; the input reads as it did. -/
def fnExactHstCanonUptoRow : OpenClaim := { program := "ytmhnapaldicfdaadoor", sum := "b1abbd79f12a383cc954dcf79af607010cb5fb1b24f811665f25137d68c4c88b", func := "loop.example/godown/laws.FnExactHstCanon", spec := "fnExactHstCanon", inPlace := ["internal/bytealg.IndexByteString"], named := ["loop.example/godown/impl.byteClasses"], apart := false, laid := [("loop.example/godown/impl.byteClasses", laid_loop_example_godown_impl_byteClasses)], narrowed := true }
def FnExactHstCanonUptoSaid : Prop := fnExactHstCanonUptoRow.holds Tryd.pinned (OpenSpec.upto fnExactHstCanonSpec)

end Rows
end Go.Proofs.YtmhnapaldicfdaaDoor
