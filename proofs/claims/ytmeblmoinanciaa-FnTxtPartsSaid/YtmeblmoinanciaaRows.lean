/-
  No cell of these rows narrows 'for every input' (looked for: loops, veiled, ifaces, maps, wideKeys, modest, calm, conditions, laid).
  DERIVED. THE GIVEN ROWS OF THIS SEAT. 3 by the template 'for every input the law returns true; each argument reads behind the call as it read before'; 0 by the template 'total and deterministic' (their statements: YtmeblmoinanciaaTotals.lean).
  GIVEN WITH THE SEED: the statements are not yours to turn. If you find one false, say at which input.
  Laid BY PROGRAM, IN A SANDBOX (cutbox-rows.mjs): the forced cells as the released guide's own fill.sh prints them over the translation a124123043340c12… (all of the seat's roots in one cut). By AI agents, Wed Nov 11 2026. No macro, syntax, notation, axiom, sorry.
-/
import Derived.Test.YtmeblmoinanciaaChecked
import GoSem.Claim
import GoSem.ClaimJoined
import GoSem.ClaimMapViews
import Derived.JoinedTies
import Derived.KernelRfl
namespace Go.Proofs.Ytmeblmoinanciaa
/- THE CELL 'sum', in the pinned program and in every row, IS THE sha256 OF THE DUMP (.gsa) THAT YtmeblmoinanciaaProg.lean LOADS. Nothing in Lean hashes anything: it is a label: what it is worth is what the hold of that sum in a sandbox is worth. -/
noncomputable def Try.pinned : Pinned := { name := "ytmeblmoinanciaa", sum := "a124123043340c12f9c1395ad53c782660fe7dca3cd30dcf6a65fb2b0565f9ba", checked := Try.checked }
namespace Rows
def none {H : Type} : Left H := { results := [], args := [] }

/-- 'laws.FnTxtParts': WHATEVER THE INPUT: true; the input reads as it did. -/
def fnTxtPartsSpec : ChangeSpec := { name := "fnTxtParts", fn := fun _ => fun
  | [d] => { results := [.lit (.bool true)], args := [d] }
  | _ => none }
def fnTxtPartsRow : OpenClaim := { program := "ytmeblmoinanciaa", sum := "a124123043340c12f9c1395ad53c782660fe7dca3cd30dcf6a65fb2b0565f9ba", func := "loop.example/godown/laws.FnTxtParts", spec := "fnTxtParts", inPlace := ["internal/bytealg.IndexByteString"], apart := false }
def FnTxtPartsSaid : Prop := fnTxtPartsRow.holds Try.pinned (OpenSpec.ofChange fnTxtPartsSpec)

/-- ITS FALSE NEIGHBOUR: 'it returns false'. Refute it at one input. -/
def fnTxtPartsWrong : ChangeSpec := { name := "fnTxtParts", fn := fun _ => fun
  | [d] => { results := [.lit (.bool false)], args := [d] }
  | _ => none }
def FnTxtPartsWrongFalsely : Prop := fnTxtPartsRow.holds Try.pinned (OpenSpec.ofChange fnTxtPartsWrong)

/-- 'laws.FnExactTxtCut': WHATEVER THE INPUT: true; the input reads as it did. -/
def fnExactTxtCutSpec : ChangeSpec := { name := "fnExactTxtCut", fn := fun _ => fun
  | [d1, d2] => { results := [.lit (.bool true)], args := [d1, d2] }
  | _ => none }
def fnExactTxtCutRow : OpenClaim := { program := "ytmeblmoinanciaa", sum := "a124123043340c12f9c1395ad53c782660fe7dca3cd30dcf6a65fb2b0565f9ba", func := "loop.example/godown/laws.FnExactTxtCut", spec := "fnExactTxtCut", inPlace := ["internal/bytealg.IndexByteString"], apart := false }
def FnExactTxtCutSaid : Prop := fnExactTxtCutRow.holds Try.pinned (OpenSpec.ofChange fnExactTxtCutSpec)

/-- ITS FALSE NEIGHBOUR: 'it returns false'. Refute it at one input. -/
def fnExactTxtCutWrong : ChangeSpec := { name := "fnExactTxtCut", fn := fun _ => fun
  | [d1, d2] => { results := [.lit (.bool false)], args := [d1, d2] }
  | _ => none }
def FnExactTxtCutWrongFalsely : Prop := fnExactTxtCutRow.holds Try.pinned (OpenSpec.ofChange fnExactTxtCutWrong)

/-- 'laws.FnExactTxtParts': WHATEVER THE INPUT: true; the input reads as it did. -/
def fnExactTxtPartsSpec : ChangeSpec := { name := "fnExactTxtParts", fn := fun _ => fun
  | [d1, d2] => { results := [.lit (.bool true)], args := [d1, d2] }
  | _ => none }
def fnExactTxtPartsRow : OpenClaim := { program := "ytmeblmoinanciaa", sum := "a124123043340c12f9c1395ad53c782660fe7dca3cd30dcf6a65fb2b0565f9ba", func := "loop.example/godown/laws.FnExactTxtParts", spec := "fnExactTxtParts", inPlace := ["internal/bytealg.IndexByteString"], apart := false }
def FnExactTxtPartsSaid : Prop := fnExactTxtPartsRow.holds Try.pinned (OpenSpec.ofChange fnExactTxtPartsSpec)

/-- ITS FALSE NEIGHBOUR: 'it returns false'. Refute it at one input. -/
def fnExactTxtPartsWrong : ChangeSpec := { name := "fnExactTxtParts", fn := fun _ => fun
  | [d1, d2] => { results := [.lit (.bool false)], args := [d1, d2] }
  | _ => none }
def FnExactTxtPartsWrongFalsely : Prop := fnExactTxtPartsRow.holds Try.pinned (OpenSpec.ofChange fnExactTxtPartsWrong)

/- THE SECOND FORM. 'bulk': how many values and letters a reading holds, each counted each time it is reached (what is shared counts as often as it is met; a slice's spare places count too). A statement '..UptoSaid' is the law's where the arguments, and the package variables that the reading takes, are together of bulk at most 1048576: NARROWER than '..Said'. Prove '..Said' where nothing that the law and all that it calls make is longer than what came in: it says more and counts as full. Else prove '..UptoSaid'. A law counts once. -/
mutual
def uptoBulk {H : Type} : DataW H → Nat
  | .lit (.string bytes) => bytes.length + 1
  | .lit _ => 1
  | .nil => 1
  | .ptr d => uptoBulk d + 1
  | .slice elems spare => uptoBulkAll elems + uptoBulkAll spare + 1
  | .agg parts => uptoBulkAll parts + 1
  | .iface _ d => uptoBulk d + 1
  | .map entries => uptoBulkEntries entries + 1
  | .held _ => 1
def uptoBulkAll {H : Type} : List (DataW H) → Nat
  | [] => 0
  | d :: r => uptoBulk d + uptoBulkAll r
def uptoBulkEntries {H : Type} : List (Lit × DataW H) → Nat
  | [] => 0
  | x :: r => uptoBulkEntry x + uptoBulkEntries r
def uptoBulkEntry {H : Type} : Lit × DataW H → Nat
  | (.string bytes, d) => bytes.length + uptoBulk d + 1
  | (_, d) => uptoBulk d + 1
 end
def uptoSmall : (H : Type) → List (DataW H) → Bool := fun _ ds => decide (uptoBulkAll ds ≤ 1048576)
def OpenSpec.upto (s : _root_.Go.ChangeSpec) : _root_.Go.OpenSpec := { _root_.Go.OpenSpec.ofChange s with cond := some uptoSmall }

/-- 'laws.FnTxtParts', WHERE WHAT IT READS IS OF BULK AT MOST 1048576: true; the input reads as it did. -/
def fnTxtPartsUptoRow : OpenClaim := { program := "ytmeblmoinanciaa", sum := "a124123043340c12f9c1395ad53c782660fe7dca3cd30dcf6a65fb2b0565f9ba", func := "loop.example/godown/laws.FnTxtParts", spec := "fnTxtParts", inPlace := ["internal/bytealg.IndexByteString"], apart := false, narrowed := true }
def FnTxtPartsUptoSaid : Prop := fnTxtPartsUptoRow.holds Try.pinned (OpenSpec.upto fnTxtPartsSpec)

/-- 'laws.FnExactTxtCut', WHERE WHAT IT READS IS OF BULK AT MOST 1048576: true; the input reads as it did. -/
def fnExactTxtCutUptoRow : OpenClaim := { program := "ytmeblmoinanciaa", sum := "a124123043340c12f9c1395ad53c782660fe7dca3cd30dcf6a65fb2b0565f9ba", func := "loop.example/godown/laws.FnExactTxtCut", spec := "fnExactTxtCut", inPlace := ["internal/bytealg.IndexByteString"], apart := false, narrowed := true }
def FnExactTxtCutUptoSaid : Prop := fnExactTxtCutUptoRow.holds Try.pinned (OpenSpec.upto fnExactTxtCutSpec)

/-- 'laws.FnExactTxtParts', WHERE WHAT IT READS IS OF BULK AT MOST 1048576: true; the input reads as it did. -/
def fnExactTxtPartsUptoRow : OpenClaim := { program := "ytmeblmoinanciaa", sum := "a124123043340c12f9c1395ad53c782660fe7dca3cd30dcf6a65fb2b0565f9ba", func := "loop.example/godown/laws.FnExactTxtParts", spec := "fnExactTxtParts", inPlace := ["internal/bytealg.IndexByteString"], apart := false, narrowed := true }
def FnExactTxtPartsUptoSaid : Prop := fnExactTxtPartsUptoRow.holds Try.pinned (OpenSpec.upto fnExactTxtPartsSpec)

end Rows
end Go.Proofs.Ytmeblmoinanciaa
