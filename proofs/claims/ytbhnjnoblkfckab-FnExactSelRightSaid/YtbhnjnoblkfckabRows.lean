/-
  No cell of these rows narrows 'for every input' (looked for: loops, veiled, ifaces, maps, wideKeys, modest, calm, conditions, laid).
  DERIVED. THE GIVEN ROWS OF THIS SEAT. 2 by the template 'for every input the law returns true; each argument reads behind the call as it read before'; 0 by the template 'total and deterministic' (their statements: YtbhnjnoblkfckabTotals.lean).
  GIVEN WITH THE SEED: the statements are not yours to turn. If you find one false, say at which input.
  Laid BY PROGRAM, IN A SANDBOX (cutbox-rows.mjs): the forced cells as the released guide's own fill.sh prints them over the translation 39049ada468e6d3a… (all of the seat's roots in one cut). By AI agents, Wed Nov 11 2026. No macro, syntax, notation, axiom, sorry.
-/
import Derived.Test.YtbhnjnoblkfckabChecked
import GoSem.Claim
import GoSem.ClaimJoined
import GoSem.ClaimMapViews
import Derived.JoinedTies
import Derived.KernelRfl
namespace Go.Proofs.Ytbhnjnoblkfckab
/- THE CELL 'sum', in the pinned program and in every row, IS THE sha256 OF THE DUMP (.gsa) THAT YtbhnjnoblkfckabProg.lean LOADS. Nothing in Lean hashes anything: it is a label: what it is worth is what the hold of that sum in a sandbox is worth. -/
noncomputable def Try.pinned : Pinned := { name := "ytbhnjnoblkfckab", sum := "39049ada468e6d3a64961eaaca4eccf86696d5f1c29897442f9978200dcbde52", checked := Try.checked }
namespace Rows
def none {H : Type} : Left H := { results := [], args := [] }

/-- 'laws.FnExactSelOf': WHATEVER THE INPUT: true; the input reads as it did. -/
def fnExactSelOfSpec : ChangeSpec := { name := "fnExactSelOf", fn := fun _ => fun
  | [d1, d2, d3, d4, d5] => { results := [.lit (.bool true)], args := [d1, d2, d3, d4, d5] }
  | _ => none }
def fnExactSelOfRow : OpenClaim := { program := "ytbhnjnoblkfckab", sum := "39049ada468e6d3a64961eaaca4eccf86696d5f1c29897442f9978200dcbde52", func := "loop.example/godown/laws.FnExactSelOf", spec := "fnExactSelOf", unfollowed := true, recurses := true, apart := false }
def FnExactSelOfSaid : Prop := fnExactSelOfRow.holds Try.pinned (OpenSpec.ofChange fnExactSelOfSpec)

/-- ITS FALSE NEIGHBOUR: 'it returns false'. Refute it at one input. -/
def fnExactSelOfWrong : ChangeSpec := { name := "fnExactSelOf", fn := fun _ => fun
  | [d1, d2, d3, d4, d5] => { results := [.lit (.bool false)], args := [d1, d2, d3, d4, d5] }
  | _ => none }
def FnExactSelOfWrongFalsely : Prop := fnExactSelOfRow.holds Try.pinned (OpenSpec.ofChange fnExactSelOfWrong)

/-- 'laws.FnExactSelRight': WHATEVER THE INPUT: true; the input reads as it did. -/
def fnExactSelRightSpec : ChangeSpec := { name := "fnExactSelRight", fn := fun _ => fun
  | [d1, d2, d3, d4] => { results := [.lit (.bool true)], args := [d1, d2, d3, d4] }
  | _ => none }
def fnExactSelRightRow : OpenClaim := { program := "ytbhnjnoblkfckab", sum := "39049ada468e6d3a64961eaaca4eccf86696d5f1c29897442f9978200dcbde52", func := "loop.example/godown/laws.FnExactSelRight", spec := "fnExactSelRight", unfollowed := true, recurses := true, apart := false }
def FnExactSelRightSaid : Prop := fnExactSelRightRow.holds Try.pinned (OpenSpec.ofChange fnExactSelRightSpec)

/-- ITS FALSE NEIGHBOUR: 'it returns false'. Refute it at one input. -/
def fnExactSelRightWrong : ChangeSpec := { name := "fnExactSelRight", fn := fun _ => fun
  | [d1, d2, d3, d4] => { results := [.lit (.bool false)], args := [d1, d2, d3, d4] }
  | _ => none }
def FnExactSelRightWrongFalsely : Prop := fnExactSelRightRow.holds Try.pinned (OpenSpec.ofChange fnExactSelRightWrong)

/- THE SECOND FORM. 'bulk': how many values and letters a reading holds, each counted each time it is reached (what is shared counts as often as it is met; a slice's spare places count too). A statement '..UptoSaid' is the law's where the arguments, and the package variables that the reading takes, are together of bulk at most 1048576: NARROWER than '..Said'. Prove '..Said' where nothing that the law and all that it calls make is longer than what came in: it says more and counts as full. Else prove '..UptoSaid'. A law counts once. -/
mutual
def uptoBulk {H : Type} : DataW H → Nat
  | .lit (.string bytes) => bytes.length + 1
  | .lit _ => 1
  | .nil => 1
  | .ptr d => uptoBulk d + 1
  | .slice elems spare => uptoBulkAll elems + uptoBulkAll spare + 1
  | .agg parts => uptoBulkAll parts + 1
  | .iface _ d => uptoBulk d + 1
  | .map entries => uptoBulkEntries entries + 1
  | .held _ => 1
def uptoBulkAll {H : Type} : List (DataW H) → Nat
  | [] => 0
  | d :: r => uptoBulk d + uptoBulkAll r
def uptoBulkEntries {H : Type} : List (Lit × DataW H) → Nat
  | [] => 0
  | x :: r => uptoBulkEntry x + uptoBulkEntries r
def uptoBulkEntry {H : Type} : Lit × DataW H → Nat
  | (.string bytes, d) => bytes.length + uptoBulk d + 1
  | (_, d) => uptoBulk d + 1
 end
def uptoSmall : (H : Type) → List (DataW H) → Bool := fun _ ds => decide (uptoBulkAll ds ≤ 1048576)
def OpenSpec.upto (s : _root_.Go.ChangeSpec) : _root_.Go.OpenSpec := { _root_.Go.OpenSpec.ofChange s with cond := some uptoSmall }

/-- 'laws.FnExactSelOf', WHERE WHAT IT READS IS OF BULK AT MOST 1048576: true; the input reads as it did. -/
def fnExactSelOfUptoRow : OpenClaim := { program := "ytbhnjnoblkfckab", sum := "39049ada468e6d3a64961eaaca4eccf86696d5f1c29897442f9978200dcbde52", func := "loop.example/godown/laws.FnExactSelOf", spec := "fnExactSelOf", unfollowed := true, recurses := true, apart := false, narrowed := true }
def FnExactSelOfUptoSaid : Prop := fnExactSelOfUptoRow.holds Try.pinned (OpenSpec.upto fnExactSelOfSpec)

/-- 'laws.FnExactSelRight', WHERE WHAT IT READS IS OF BULK AT MOST 1048576: true; the input reads as it did. -/
def fnExactSelRightUptoRow : OpenClaim := { program := "ytbhnjnoblkfckab", sum := "39049ada468e6d3a64961eaaca4eccf86696d5f1c29897442f9978200dcbde52", func := "loop.example/godown/laws.FnExactSelRight", spec := "fnExactSelRight", unfollowed := true, recurses := true, apart := false, narrowed := true }
def FnExactSelRightUptoSaid : Prop := fnExactSelRightUptoRow.holds Try.pinned (OpenSpec.upto fnExactSelRightSpec)

end Rows
end Go.Proofs.Ytbhnjnoblkfckab
