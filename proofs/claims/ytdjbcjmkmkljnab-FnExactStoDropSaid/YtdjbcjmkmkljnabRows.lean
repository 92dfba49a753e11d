/-
  No cell of these rows narrows 'for every input' (looked for: loops, veiled, ifaces, maps, wideKeys, modest, calm, conditions, laid).
  DERIVED. THE GIVEN ROWS OF THIS SEAT. 3 by the template 'for every input the law returns true; each argument reads behind the call as it read before'; 0 by the template 'total and deterministic' (their statements: YtdjbcjmkmkljnabTotals.lean).
  GIVEN WITH THE SEED: the statements are not yours to turn. If you find one false, say at which input.
  Laid BY PROGRAM, IN A SANDBOX (cutbox-rows.mjs): the forced cells as the released guide's own fill.sh prints them over the translation 0bbf2f897baeec45… (all of the seat's roots in one cut). By AI agents, Wed Nov 11 2026. No macro, syntax, notation, axiom, sorry.
-/
import Derived.Test.YtdjbcjmkmkljnabChecked
import GoSem.Claim
import GoSem.ClaimJoined
import GoSem.ClaimMapViews
import Derived.JoinedTies
import Derived.KernelRfl
namespace Go.Proofs.Ytdjbcjmkmkljnab
/- THE CELL 'sum', in the pinned program and in every row, IS THE sha256 OF THE DUMP (.gsa) THAT YtdjbcjmkmkljnabProg.lean LOADS. Nothing in Lean hashes anything: it is a label: what it is worth is what the hold of that sum in a sandbox is worth. -/
noncomputable def Try.pinned : Pinned := { name := "ytdjbcjmkmkljnab", sum := "0bbf2f897baeec45494385ef78a56248277860e2e2fac92b35c221d03f2fb99c", checked := Try.checked }
namespace Rows
def none {H : Type} : Left H := { results := [], args := [] }

/-- 'laws.FnExactStoUse': WHATEVER THE INPUT: true; the input reads as it did. -/
def fnExactStoUseSpec : ChangeSpec := { name := "fnExactStoUse", fn := fun _ => fun
  | [d1, d2] => { results := [.lit (.bool true)], args := [d1, d2] }
  | _ => none }
def fnExactStoUseRow : OpenClaim := { program := "ytdjbcjmkmkljnab", sum := "0bbf2f897baeec45494385ef78a56248277860e2e2fac92b35c221d03f2fb99c", func := "loop.example/godown/laws.FnExactStoUse", spec := "fnExactStoUse", unfollowed := true, recurses := true, plainKeys := false, apart := false }
def FnExactStoUseSaid : Prop := fnExactStoUseRow.holds Try.pinned (OpenSpec.ofChange fnExactStoUseSpec)

/-- ITS FALSE NEIGHBOUR: 'it returns false'. Refute it at one input. -/
def fnExactStoUseWrong : ChangeSpec := { name := "fnExactStoUse", fn := fun _ => fun
  | [d1, d2] => { results := [.lit (.bool false)], args := [d1, d2] }
  | _ => none }
def FnExactStoUseWrongFalsely : Prop := fnExactStoUseRow.holds Try.pinned (OpenSpec.ofChange fnExactStoUseWrong)

/-- 'laws.FnExactStoOut': WHATEVER THE INPUT: true; the input reads as it did. -/
def fnExactStoOutSpec : ChangeSpec := { name := "fnExactStoOut", fn := fun _ => fun
  | [d1, d2, d3] => { results := [.lit (.bool true)], args := [d1, d2, d3] }
  | _ => none }
def fnExactStoOutRow : OpenClaim := { program := "ytdjbcjmkmkljnab", sum := "0bbf2f897baeec45494385ef78a56248277860e2e2fac92b35c221d03f2fb99c", func := "loop.example/godown/laws.FnExactStoOut", spec := "fnExactStoOut", unfollowed := true, recurses := true, plainKeys := false, apart := false }
def FnExactStoOutSaid : Prop := fnExactStoOutRow.holds Try.pinned (OpenSpec.ofChange fnExactStoOutSpec)

/-- ITS FALSE NEIGHBOUR: 'it returns false'. Refute it at one input. -/
def fnExactStoOutWrong : ChangeSpec := { name := "fnExactStoOut", fn := fun _ => fun
  | [d1, d2, d3] => { results := [.lit (.bool false)], args := [d1, d2, d3] }
  | _ => none }
def FnExactStoOutWrongFalsely : Prop := fnExactStoOutRow.holds Try.pinned (OpenSpec.ofChange fnExactStoOutWrong)

/-- 'laws.FnExactStoDrop': WHATEVER THE INPUT: true; the input reads as it did. -/
def fnExactStoDropSpec : ChangeSpec := { name := "fnExactStoDrop", fn := fun _ => fun
  | [d1, d2, d3] => { results := [.lit (.bool true)], args := [d1, d2, d3] }
  | _ => none }
def fnExactStoDropRow : OpenClaim := { program := "ytdjbcjmkmkljnab", sum := "0bbf2f897baeec45494385ef78a56248277860e2e2fac92b35c221d03f2fb99c", func := "loop.example/godown/laws.FnExactStoDrop", spec := "fnExactStoDrop", inPlace := ["internal/bytealg.IndexByteString"], unfollowed := true, recurses := true, plainKeys := false, apart := false }
def FnExactStoDropSaid : Prop := fnExactStoDropRow.holds Try.pinned (OpenSpec.ofChange fnExactStoDropSpec)

/-- ITS FALSE NEIGHBOUR: 'it returns false'. Refute it at one input. -/
def fnExactStoDropWrong : ChangeSpec := { name := "fnExactStoDrop", fn := fun _ => fun
  | [d1, d2, d3] => { results := [.lit (.bool false)], args := [d1, d2, d3] }
  | _ => none }
def FnExactStoDropWrongFalsely : Prop := fnExactStoDropRow.holds Try.pinned (OpenSpec.ofChange fnExactStoDropWrong)

/- THE SECOND FORM. 'bulk': how many values and letters a reading holds, each counted each time it is reached (what is shared counts as often as it is met; a slice's spare places count too). A statement '..UptoSaid' is the law's where the arguments, and the package variables that the reading takes, are together of bulk at most 1048576: NARROWER than '..Said'. Prove '..Said' where nothing that the law and all that it calls make is longer than what came in: it says more and counts as full. Else prove '..UptoSaid'. A law counts once. -/
mutual
def uptoBulk {H : Type} : DataW H → Nat
  | .lit (.string bytes) => bytes.length + 1
  | .lit _ => 1
  | .nil => 1
  | .ptr d => uptoBulk d + 1
  | .slice elems spare => uptoBulkAll elems + uptoBulkAll spare + 1
  | .agg parts => uptoBulkAll parts + 1
  | .iface _ d => uptoBulk d + 1
  | .map entries => uptoBulkEntries entries + 1
  | .held _ => 1
def uptoBulkAll {H : Type} : List (DataW H) → Nat
  | [] => 0
  | d :: r => uptoBulk d + uptoBulkAll r
def uptoBulkEntries {H : Type} : List (Lit × DataW H) → Nat
  | [] => 0
  | x :: r => uptoBulkEntry x + uptoBulkEntries r
def uptoBulkEntry {H : Type} : Lit × DataW H → Nat
  | (.string bytes, d) => bytes.length + uptoBulk d + 1
  | (_, d) => uptoBulk d + 1
 end
def uptoSmall : (H : Type) → List (DataW H) → Bool := fun _ ds => decide (uptoBulkAll ds ≤ 1048576)
def OpenSpec.upto (s : _root_.Go.ChangeSpec) : _root_.Go.OpenSpec := { _root_.Go.OpenSpec.ofChange s with cond := some uptoSmall }

/-- 'laws.FnExactStoUse', WHERE WHAT IT READS IS OF BULK AT MOST 1048576: true; the input reads as it did. -/
def fnExactStoUseUptoRow : OpenClaim := { program := "ytdjbcjmkmkljnab", sum := "0bbf2f897baeec45494385ef78a56248277860e2e2fac92b35c221d03f2fb99c", func := "loop.example/godown/laws.FnExactStoUse", spec := "fnExactStoUse", unfollowed := true, recurses := true, plainKeys := false, apart := false, narrowed := true }
def FnExactStoUseUptoSaid : Prop := fnExactStoUseUptoRow.holds Try.pinned (OpenSpec.upto fnExactStoUseSpec)

/-- 'laws.FnExactStoOut', WHERE WHAT IT READS IS OF BULK AT MOST 1048576: true; the input reads as it did. -/
def fnExactStoOutUptoRow : OpenClaim := { program := "ytdjbcjmkmkljnab", sum := "0bbf2f897baeec45494385ef78a56248277860e2e2fac92b35c221d03f2fb99c", func := "loop.example/godown/laws.FnExactStoOut", spec := "fnExactStoOut", unfollowed := true, recurses := true, plainKeys := false, apart := false, narrowed := true }
def FnExactStoOutUptoSaid : Prop := fnExactStoOutUptoRow.holds Try.pinned (OpenSpec.upto fnExactStoOutSpec)

/-- 'laws.FnExactStoDrop', WHERE WHAT IT READS IS OF BULK AT MOST 1048576: true; the input reads as it did. -/
def fnExactStoDropUptoRow : OpenClaim := { program := "ytdjbcjmkmkljnab", sum := "0bbf2f897baeec45494385ef78a56248277860e2e2fac92b35c221d03f2fb99c", func := "loop.example/godown/laws.FnExactStoDrop", spec := "fnExactStoDrop", inPlace := ["internal/bytealg.IndexByteString"], unfollowed := true, recurses := true, plainKeys := false, apart := false, narrowed := true }
def FnExactStoDropUptoSaid : Prop := fnExactStoDropUptoRow.holds Try.pinned (OpenSpec.upto fnExactStoDropSpec)

end Rows
end Go.Proofs.Ytdjbcjmkmkljnab
