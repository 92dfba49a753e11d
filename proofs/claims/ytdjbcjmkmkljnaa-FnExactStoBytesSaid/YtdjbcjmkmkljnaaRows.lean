/-
  No cell of these rows narrows 'for every input' (looked for: loops, veiled, ifaces, maps, wideKeys, modest, calm, conditions, laid).
  DERIVED. THE GIVEN ROWS OF THIS SEAT. 3 by the template 'for every input the law returns true; each argument reads behind the call as it read before'; 0 by the template 'total and deterministic' (their statements: YtdjbcjmkmkljnaaTotals.lean).
  GIVEN WITH THE SEED: the statements are not yours to turn. If you find one false, say at which input.
  Laid BY PROGRAM, IN A SANDBOX (cutbox-rows.mjs): the forced cells as the released guide's own fill.sh prints them over the translation 659b184482e8431f… (all of the seat's roots in one cut). By AI agents, Wed Nov 11 2026. No macro, syntax, notation, axiom, sorry.
-/
import Derived.Test.YtdjbcjmkmkljnaaChecked
import GoSem.Claim
import GoSem.ClaimJoined
import GoSem.ClaimMapViews
import Derived.JoinedTies
import Derived.KernelRfl
namespace Go.Proofs.Ytdjbcjmkmkljnaa
/- THE CELL 'sum', in the pinned program and in every row, IS THE sha256 OF THE DUMP (.gsa) THAT YtdjbcjmkmkljnaaProg.lean LOADS. Nothing in Lean hashes anything: it is a label: what it is worth is what the hold of that sum in a sandbox is worth. -/
noncomputable def Try.pinned : Pinned := { name := "ytdjbcjmkmkljnaa", sum := "659b184482e8431f8479dbf7c3b750948e9283fb11c65212f0645655d35225e7", checked := Try.checked }
namespace Rows
def none {H : Type} : Left H := { results := [], args := [] }

/-- 'laws.FnExactStoSize': WHATEVER THE INPUT: true; the input reads as it did. -/
def fnExactStoSizeSpec : ChangeSpec := { name := "fnExactStoSize", fn := fun _ => fun
  | [d] => { results := [.lit (.bool true)], args := [d] }
  | _ => none }
def fnExactStoSizeRow : OpenClaim := { program := "ytdjbcjmkmkljnaa", sum := "659b184482e8431f8479dbf7c3b750948e9283fb11c65212f0645655d35225e7", func := "loop.example/godown/laws.FnExactStoSize", spec := "fnExactStoSize", plainKeys := false, apart := false }
def FnExactStoSizeSaid : Prop := fnExactStoSizeRow.holds Try.pinned (OpenSpec.ofChange fnExactStoSizeSpec)

/-- ITS FALSE NEIGHBOUR: 'it returns false'. Refute it at one input. -/
def fnExactStoSizeWrong : ChangeSpec := { name := "fnExactStoSize", fn := fun _ => fun
  | [d] => { results := [.lit (.bool false)], args := [d] }
  | _ => none }
def FnExactStoSizeWrongFalsely : Prop := fnExactStoSizeRow.holds Try.pinned (OpenSpec.ofChange fnExactStoSizeWrong)

/-- 'laws.FnExactStoBytes': WHATEVER THE INPUT: true; the input reads as it did. -/
def fnExactStoBytesSpec : ChangeSpec := { name := "fnExactStoBytes", fn := fun _ => fun
  | [d] => { results := [.lit (.bool true)], args := [d] }
  | _ => none }
def fnExactStoBytesRow : OpenClaim := { program := "ytdjbcjmkmkljnaa", sum := "659b184482e8431f8479dbf7c3b750948e9283fb11c65212f0645655d35225e7", func := "loop.example/godown/laws.FnExactStoBytes", spec := "fnExactStoBytes", plainKeys := false, apart := false }
def FnExactStoBytesSaid : Prop := fnExactStoBytesRow.holds Try.pinned (OpenSpec.ofChange fnExactStoBytesSpec)

/-- ITS FALSE NEIGHBOUR: 'it returns false'. Refute it at one input. -/
def fnExactStoBytesWrong : ChangeSpec := { name := "fnExactStoBytes", fn := fun _ => fun
  | [d] => { results := [.lit (.bool false)], args := [d] }
  | _ => none }
def FnExactStoBytesWrongFalsely : Prop := fnExactStoBytesRow.holds Try.pinned (OpenSpec.ofChange fnExactStoBytesWrong)

/-- 'laws.FnExactStoFind': WHATEVER THE INPUT: true; the input reads as it did. -/
def fnExactStoFindSpec : ChangeSpec := { name := "fnExactStoFind", fn := fun _ => fun
  | [d1, d2, d3] => { results := [.lit (.bool true)], args := [d1, d2, d3] }
  | _ => none }
def fnExactStoFindRow : OpenClaim := { program := "ytdjbcjmkmkljnaa", sum := "659b184482e8431f8479dbf7c3b750948e9283fb11c65212f0645655d35225e7", func := "loop.example/godown/laws.FnExactStoFind", spec := "fnExactStoFind", unfollowed := true, recurses := true, plainKeys := false, apart := false }
def FnExactStoFindSaid : Prop := fnExactStoFindRow.holds Try.pinned (OpenSpec.ofChange fnExactStoFindSpec)

/-- ITS FALSE NEIGHBOUR: 'it returns false'. Refute it at one input. -/
def fnExactStoFindWrong : ChangeSpec := { name := "fnExactStoFind", fn := fun _ => fun
  | [d1, d2, d3] => { results := [.lit (.bool false)], args := [d1, d2, d3] }
  | _ => none }
def FnExactStoFindWrongFalsely : Prop := fnExactStoFindRow.holds Try.pinned (OpenSpec.ofChange fnExactStoFindWrong)

/- THE SECOND FORM. 'bulk': how many values and letters a reading holds, each counted each time it is reached (what is shared counts as often as it is met; a slice's spare places count too). A statement '..UptoSaid' is the law's where the arguments, and the package variables that the reading takes, are together of bulk at most 1048576: NARROWER than '..Said'. Prove '..Said' where nothing that the law and all that it calls make is longer than what came in: it says more and counts as full. Else prove '..UptoSaid'. A law counts once. -/
mutual
def uptoBulk {H : Type} : DataW H → Nat
  | .lit (.string bytes) => bytes.length + 1
  | .lit _ => 1
  | .nil => 1
  | .ptr d => uptoBulk d + 1
  | .slice elems spare => uptoBulkAll elems + uptoBulkAll spare + 1
  | .agg parts => uptoBulkAll parts + 1
  | .iface _ d => uptoBulk d + 1
  | .map entries => uptoBulkEntries entries + 1
  | .held _ => 1
def uptoBulkAll {H : Type} : List (DataW H) → Nat
  | [] => 0
  | d :: r => uptoBulk d + uptoBulkAll r
def uptoBulkEntries {H : Type} : List (Lit × DataW H) → Nat
  | [] => 0
  | x :: r => uptoBulkEntry x + uptoBulkEntries r
def uptoBulkEntry {H : Type} : Lit × DataW H → Nat
  | (.string bytes, d) => bytes.length + uptoBulk d + 1
  | (_, d) => uptoBulk d + 1
 end
def uptoSmall : (H : Type) → List (DataW H) → Bool := fun _ ds => decide (uptoBulkAll ds ≤ 1048576)
def OpenSpec.upto (s : _root_.Go.ChangeSpec) : _root_.Go.OpenSpec := { _root_.Go.OpenSpec.ofChange s with cond := some uptoSmall }

/-- 'laws.FnExactStoSize', WHERE WHAT IT READS IS OF BULK AT MOST 1048576: true; the input reads as it did. -/
def fnExactStoSizeUptoRow : OpenClaim := { program := "ytdjbcjmkmkljnaa", sum := "659b184482e8431f8479dbf7c3b750948e9283fb11c65212f0645655d35225e7", func := "loop.example/godown/laws.FnExactStoSize", spec := "fnExactStoSize", plainKeys := false, apart := false, narrowed := true }
def FnExactStoSizeUptoSaid : Prop := fnExactStoSizeUptoRow.holds Try.pinned (OpenSpec.upto fnExactStoSizeSpec)

/-- 'laws.FnExactStoBytes', WHERE WHAT IT READS IS OF BULK AT MOST 1048576: true; the input reads as it did. -/
def fnExactStoBytesUptoRow : OpenClaim := { program := "ytdjbcjmkmkljnaa", sum := "659b184482e8431f8479dbf7c3b750948e9283fb11c65212f0645655d35225e7", func := "loop.example/godown/laws.FnExactStoBytes", spec := "fnExactStoBytes", plainKeys := false, apart := false, narrowed := true }
def FnExactStoBytesUptoSaid : Prop := fnExactStoBytesUptoRow.holds Try.pinned (OpenSpec.upto fnExactStoBytesSpec)

/-- 'laws.FnExactStoFind', WHERE WHAT IT READS IS OF BULK AT MOST 1048576: true; the input reads as it did. -/
def fnExactStoFindUptoRow : OpenClaim := { program := "ytdjbcjmkmkljnaa", sum := "659b184482e8431f8479dbf7c3b750948e9283fb11c65212f0645655d35225e7", func := "loop.example/godown/laws.FnExactStoFind", spec := "fnExactStoFind", unfollowed := true, recurses := true, plainKeys := false, apart := false, narrowed := true }
def FnExactStoFindUptoSaid : Prop := fnExactStoFindUptoRow.holds Try.pinned (OpenSpec.upto fnExactStoFindSpec)

end Rows
end Go.Proofs.Ytdjbcjmkmkljnaa
