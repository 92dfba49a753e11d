/-
  No cell of these rows narrows 'for every input' (looked for: loops, veiled, ifaces, maps, wideKeys, modest, calm, conditions, laid).
  DERIVED. THE GIVEN ROWS OF THIS SEAT. 3 by the template 'for every input the law returns true; each argument reads behind the call as it read before'; 0 by the template 'total and deterministic' (their statements: YtlfcamapjeldjaaTotals.lean).
  GIVEN WITH THE SEED: the statements are not yours to turn. If you find one false, say at which input.
  Laid BY PROGRAM, IN A SANDBOX (cutbox-rows.mjs): the forced cells as the released guide's own fill.sh prints them over the translation 32655c40b89bb33d… (all of the seat's roots in one cut). By AI agents, Wed Nov 11 2026. No macro, syntax, notation, axiom, sorry.
-/
import Derived.Test.YtlfcamapjeldjaaChecked
import GoSem.Claim
import GoSem.ClaimJoined
import GoSem.ClaimMapViews
import Derived.JoinedTies
import Derived.KernelRfl
namespace Go.Proofs.Ytlfcamapjeldjaa
/- THE CELL 'sum', in the pinned program and in every row, IS THE sha256 OF THE DUMP (.gsa) THAT YtlfcamapjeldjaaProg.lean LOADS. Nothing in Lean hashes anything: it is a label: what it is worth is what the hold of that sum in a sandbox is worth. -/
noncomputable def Try.pinned : Pinned := { name := "ytlfcamapjeldjaa", sum := "32655c40b89bb33d0e2e5312edab723f0eee8ffbce5a0958917177ae6e7e7007", checked := Try.checked }
namespace Rows
def none {H : Type} : Left H := { results := [], args := [] }

/-- 'laws.FnCodMask': WHATEVER THE INPUT: true; the input reads as it did. -/
def fnCodMaskSpec : ChangeSpec := { name := "fnCodMask", fn := fun _ => fun
  | [d] => { results := [.lit (.bool true)], args := [d] }
  | _ => none }
def fnCodMaskRow : OpenClaim := { program := "ytlfcamapjeldjaa", sum := "32655c40b89bb33d0e2e5312edab723f0eee8ffbce5a0958917177ae6e7e7007", func := "loop.example/godown/laws.FnCodMask", spec := "fnCodMask", unfollowed := true, recurses := true, apart := false }
def FnCodMaskSaid : Prop := fnCodMaskRow.holds Try.pinned (OpenSpec.ofChange fnCodMaskSpec)

/-- ITS FALSE NEIGHBOUR: 'it returns false'. Refute it at one input. -/
def fnCodMaskWrong : ChangeSpec := { name := "fnCodMask", fn := fun _ => fun
  | [d] => { results := [.lit (.bool false)], args := [d] }
  | _ => none }
def FnCodMaskWrongFalsely : Prop := fnCodMaskRow.holds Try.pinned (OpenSpec.ofChange fnCodMaskWrong)

/-- 'laws.FnExactCodMask': WHATEVER THE INPUT: true; the input reads as it did. -/
def fnExactCodMaskSpec : ChangeSpec := { name := "fnExactCodMask", fn := fun _ => fun
  | [d] => { results := [.lit (.bool true)], args := [d] }
  | _ => none }
def fnExactCodMaskRow : OpenClaim := { program := "ytlfcamapjeldjaa", sum := "32655c40b89bb33d0e2e5312edab723f0eee8ffbce5a0958917177ae6e7e7007", func := "loop.example/godown/laws.FnExactCodMask", spec := "fnExactCodMask", unfollowed := true, recurses := true, apart := false }
def FnExactCodMaskSaid : Prop := fnExactCodMaskRow.holds Try.pinned (OpenSpec.ofChange fnExactCodMaskSpec)

/-- ITS FALSE NEIGHBOUR: 'it returns false'. Refute it at one input. -/
def fnExactCodMaskWrong : ChangeSpec := { name := "fnExactCodMask", fn := fun _ => fun
  | [d] => { results := [.lit (.bool false)], args := [d] }
  | _ => none }
def FnExactCodMaskWrongFalsely : Prop := fnExactCodMaskRow.holds Try.pinned (OpenSpec.ofChange fnExactCodMaskWrong)

/-- 'laws.FnExactCodIn': WHATEVER THE INPUT: true; the input reads as it did. -/
def fnExactCodInSpec : ChangeSpec := { name := "fnExactCodIn", fn := fun _ => fun
  | [d1, d2] => { results := [.lit (.bool true)], args := [d1, d2] }
  | _ => none }
def fnExactCodInRow : OpenClaim := { program := "ytlfcamapjeldjaa", sum := "32655c40b89bb33d0e2e5312edab723f0eee8ffbce5a0958917177ae6e7e7007", func := "loop.example/godown/laws.FnExactCodIn", spec := "fnExactCodIn", apart := false }
def FnExactCodInSaid : Prop := fnExactCodInRow.holds Try.pinned (OpenSpec.ofChange fnExactCodInSpec)

/-- ITS FALSE NEIGHBOUR: 'it returns false'. Refute it at one input. -/
def fnExactCodInWrong : ChangeSpec := { name := "fnExactCodIn", fn := fun _ => fun
  | [d1, d2] => { results := [.lit (.bool false)], args := [d1, d2] }
  | _ => none }
def FnExactCodInWrongFalsely : Prop := fnExactCodInRow.holds Try.pinned (OpenSpec.ofChange fnExactCodInWrong)

/- THE SECOND FORM. 'bulk': how many values and letters a reading holds, each counted each time it is reached (what is shared counts as often as it is met; a slice's spare places count too). A statement '..UptoSaid' is the law's where the arguments, and the package variables that the reading takes, are together of bulk at most 1048576: NARROWER than '..Said'. Prove '..Said' where nothing that the law and all that it calls make is longer than what came in: it says more and counts as full. Else prove '..UptoSaid'. A law counts once. -/
mutual
def uptoBulk {H : Type} : DataW H → Nat
  | .lit (.string bytes) => bytes.length + 1
  | .lit _ => 1
  | .nil => 1
  | .ptr d => uptoBulk d + 1
  | .slice elems spare => uptoBulkAll elems + uptoBulkAll spare + 1
  | .agg parts => uptoBulkAll parts + 1
  | .iface _ d => uptoBulk d + 1
  | .map entries => uptoBulkEntries entries + 1
  | .held _ => 1
def uptoBulkAll {H : Type} : List (DataW H) → Nat
  | [] => 0
  | d :: r => uptoBulk d + uptoBulkAll r
def uptoBulkEntries {H : Type} : List (Lit × DataW H) → Nat
  | [] => 0
  | x :: r => uptoBulkEntry x + uptoBulkEntries r
def uptoBulkEntry {H : Type} : Lit × DataW H → Nat
  | (.string bytes, d) => bytes.length + uptoBulk d + 1
  | (_, d) => uptoBulk d + 1
 end
def uptoSmall : (H : Type) → List (DataW H) → Bool := fun _ ds => decide (uptoBulkAll ds ≤ 1048576)
def OpenSpec.upto (s : _root_.Go.ChangeSpec) : _root_.Go.OpenSpec := { _root_.Go.OpenSpec.ofChange s with cond := some uptoSmall }

/-- 'laws.FnCodMask', WHERE WHAT IT READS IS OF BULK AT MOST 1048576: true; the input reads as it did. -/
def fnCodMaskUptoRow : OpenClaim := { program := "ytlfcamapjeldjaa", sum := "32655c40b89bb33d0e2e5312edab723f0eee8ffbce5a0958917177ae6e7e7007", func := "loop.example/godown/laws.FnCodMask", spec := "fnCodMask", unfollowed := true, recurses := true, apart := false, narrowed := true }
def FnCodMaskUptoSaid : Prop := fnCodMaskUptoRow.holds Try.pinned (OpenSpec.upto fnCodMaskSpec)

/-- 'laws.FnExactCodMask', WHERE WHAT IT READS IS OF BULK AT MOST 1048576: true; the input reads as it did. -/
def fnExactCodMaskUptoRow : OpenClaim := { program := "ytlfcamapjeldjaa", sum := "32655c40b89bb33d0e2e5312edab723f0eee8ffbce5a0958917177ae6e7e7007", func := "loop.example/godown/laws.FnExactCodMask", spec := "fnExactCodMask", unfollowed := true, recurses := true, apart := false, narrowed := true }
def FnExactCodMaskUptoSaid : Prop := fnExactCodMaskUptoRow.holds Try.pinned (OpenSpec.upto fnExactCodMaskSpec)

/-- 'laws.FnExactCodIn', WHERE WHAT IT READS IS OF BULK AT MOST 1048576: true; the input reads as it did. -/
def fnExactCodInUptoRow : OpenClaim := { program := "ytlfcamapjeldjaa", sum := "32655c40b89bb33d0e2e5312edab723f0eee8ffbce5a0958917177ae6e7e7007", func := "loop.example/godown/laws.FnExactCodIn", spec := "fnExactCodIn", apart := false, narrowed := true }
def FnExactCodInUptoSaid : Prop := fnExactCodInUptoRow.holds Try.pinned (OpenSpec.upto fnExactCodInSpec)

end Rows
end Go.Proofs.Ytlfcamapjeldjaa
