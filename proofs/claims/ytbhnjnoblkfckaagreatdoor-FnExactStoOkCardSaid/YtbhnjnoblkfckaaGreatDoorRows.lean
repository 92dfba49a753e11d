/-
  NARROWER THAN 'FOR EVERY INPUT', by the rows' own cells (each row's printed sentence says how): FnExactStoOk: laid · FnExactStoPut: laid · FnStoPut: laid · FnStoRoom: laid · FnStoOk: laid · FnStoTwice: laid · FnStoBack: laid.
  DERIVED. THE GIVEN ROWS OF THIS SEAT. 7 by the template 'for every input the law returns true; each argument reads behind the call as it read before'; 0 by the template 'total and deterministic' (their statements: YtbhnjnoblkfckaaGreatDoorTotals.lean).
  GIVEN WITH THE SEED: the statements are not yours to turn. If you find one false, say at which input.
  Laid BY PROGRAM, IN A SANDBOX (cutbox-rows.mjs): the forced cells as the released guide's own fill.sh prints them over the translation 057d157299f26f1e… (all of the seat's roots in one cut). By AI agents, Wed Nov 11 2026. No macro, syntax, notation, axiom, sorry.
-/
import Derived.Test.YtbhnjnoblkfckaaGreatDoorChecked
import GoSem.Claim
import GoSem.ClaimJoined
import GoSem.ClaimMapViews
import Derived.JoinedTies
import Derived.KernelRfl
namespace Go.Proofs.YtbhnjnoblkfckaaGreatDoor
/- THE CELL 'sum', in the pinned program and in every row, IS THE sha256 OF THE DUMP (.gsa) THAT YtbhnjnoblkfckaaGreatDoorProg.lean LOADS. Nothing in Lean hashes anything: it is a label: what it is worth is what the hold of that sum in a sandbox is worth. -/
noncomputable def Tryz.pinned : Pinned := { name := "ytbhnjnoblkfckaagreatdoor", sum := "057d157299f26f1eef87f8d0c5960594fb254d972d55e5d118164f36b1279c02", checked := Tryz.checked }
namespace Rows
def none {H : Type} : Left H := { results := [], args := [] }

/- WHAT THE LISTED PACKAGE-LEVEL VARIABLES READ AS WHEN THE CALL BEGINS. Each datum BY PROGRAM (the guide's laid-datum.mjs) off the statement by which the dump's own 'gosem.cut.vars' lays the variable. In a bare row this is a premise. The card (YtbhnjnoblkfckaaGreatDoorCards.lean) ties it to the program's text. -/
def laid_loop_example_godown_impl_byteClasses {H : Type} : DataW H := .agg [.lit (.int .u8 0), .lit (.int .u8 0), .lit (.int .u8 0), .lit (.int .u8 0), .lit (.int .u8 0), .lit (.int .u8 0), .lit (.int .u8 0), .lit (.int .u8 0), .lit (.int .u8 0), .lit (.int .u8 0), .lit (.int .u8 0), .lit (.int .u8 0), .lit (.int .u8 0), .lit (.int .u8 0), .lit (.int .u8 0), .lit (.int .u8 0), .lit (.int .u8 0), .lit (.int .u8 0), .lit (.int .u8 0), .lit (.int .u8 0), .lit (.int .u8 0), .lit (.int .u8 0), .lit (.int .u8 0), .lit (.int .u8 0), .lit (.int .u8 0), .lit (.int .u8 0), .lit (.int .u8 0), .lit (.int .u8 0), .lit (.int .u8 0), .lit (.int .u8 0), .lit (.int .u8 0), .lit (.int .u8 0), .lit (.int .u8 0), .lit (.int .u8 0), .lit (.int .u8 0), .lit (.int .u8 0), .lit (.int .u8 0), .lit (.int .u8 0), .lit (.int .u8 0), .lit (.int .u8 0), .lit (.int .u8 0), .lit (.int .u8 0), .lit (.int .u8 0), .lit (.int .u8 0), .lit (.int .u8 0), .lit (.int .u8 1), .lit (.int .u8 0), .lit (.int .u8 0), .lit (.int .u8 1), .lit (.int .u8 1), .lit (.int .u8 1), .lit (.int .u8 1), .lit (.int .u8 1), .lit (.int .u8 1), .lit (.int .u8 1), .lit (.int .u8 1), .lit (.int .u8 1), .lit (.int .u8 1), .lit (.int .u8 0), .lit (.int .u8 0), .lit (.int .u8 0), .lit (.int .u8 0), .lit (.int .u8 0), .lit (.int .u8 0), .lit (.int .u8 0), .lit (.int .u8 2), .lit (.int .u8 2), .lit (.int .u8 2), .lit (.int .u8 2), .lit (.int .u8 2), .lit (.int .u8 2), .lit (.int .u8 2), .lit (.int .u8 2), .lit (.int .u8 2), .lit (.int .u8 2), .lit (.int .u8 2), .lit (.int .u8 2), .lit (.int .u8 2), .lit (.int .u8 2), .lit (.int .u8 2), .lit (.int .u8 2), .lit (.int .u8 2), .lit (.int .u8 2), .lit (.int .u8 2), .lit (.int .u8 2), .lit (.int .u8 2), .lit (.int .u8 2), .lit (.int .u8 2), .lit (.int .u8 2), .lit (.int .u8 2), .lit (.int .u8 2), .lit (.int .u8 0), .lit (.int .u8 0), .lit (.int .u8 0), .lit (.int .u8 0), .lit (.int .u8 0), .lit (.int .u8 0), .lit (.int .u8 1), .lit (.int .u8 1), .lit (.int .u8 1), .lit (.int .u8 1), .lit (.int .u8 1), .lit (.int .u8 1), .lit (.int .u8 1), .lit (.int .u8 1), .lit (.int .u8 1), .lit (.int .u8 1), .lit (.int .u8 1), .lit (.int .u8 1), .lit (.int .u8 1), .lit (.int .u8 1), .lit (.int .u8 1), .lit (.int .u8 1), .lit (.int .u8 1), .lit (.int .u8 1), .lit (.int .u8 1), .lit (.int .u8 1), .lit (.int .u8 1), .lit (.int .u8 1), .lit (.int .u8 1), .lit (.int .u8 1), .lit (.int .u8 1), .lit (.int .u8 1)]

/-- 'laws.FnExactStoOk': WHATEVER THE INPUT: true; the input reads as it did. -/
def fnExactStoOkSpec : ChangeSpec := { name := "fnExactStoOk", vars := ["loop.example/godown/impl.byteClasses"], fn := fun _ => fun
  | [d1, d2, g1] => { results := [.lit (.bool true)], args := [d1, d2], vars := [g1] }
  | _ => none }
def fnExactStoOkRow : OpenClaim := { program := "ytbhnjnoblkfckaagreatdoor", sum := "057d157299f26f1eef87f8d0c5960594fb254d972d55e5d118164f36b1279c02", func := "loop.example/godown/laws.FnExactStoOk", spec := "fnExactStoOk", inPlace := ["internal/bytealg.IndexByteString"], unfollowed := true, recurses := true, named := ["loop.example/godown/impl.byteClasses"], plainKeys := false, apart := false, laid := [("loop.example/godown/impl.byteClasses", laid_loop_example_godown_impl_byteClasses)] }
def FnExactStoOkSaid : Prop := fnExactStoOkRow.holds Tryz.pinned (OpenSpec.ofChange fnExactStoOkSpec)

/-- ITS FALSE NEIGHBOUR: 'it returns false'. Refute it at one input. -/
def fnExactStoOkWrong : ChangeSpec := { name := "fnExactStoOk", vars := ["loop.example/godown/impl.byteClasses"], fn := fun _ => fun
  | [d1, d2, g1] => { results := [.lit (.bool false)], args := [d1, d2], vars := [g1] }
  | _ => none }
def FnExactStoOkWrongFalsely : Prop := fnExactStoOkRow.holds Tryz.pinned (OpenSpec.ofChange fnExactStoOkWrong)

/-- 'laws.FnExactStoPut': WHATEVER THE INPUT: true; the input reads as it did. -/
def fnExactStoPutSpec : ChangeSpec := { name := "fnExactStoPut", vars := ["loop.example/godown/impl.byteClasses"], fn := fun _ => fun
  | [d1, d2, d3, g1] => { results := [.lit (.bool true)], args := [d1, d2, d3], vars := [g1] }
  | _ => none }
def fnExactStoPutRow : OpenClaim := { program := "ytbhnjnoblkfckaagreatdoor", sum := "057d157299f26f1eef87f8d0c5960594fb254d972d55e5d118164f36b1279c02", func := "loop.example/godown/laws.FnExactStoPut", spec := "fnExactStoPut", inPlace := ["internal/bytealg.IndexByteString"], unfollowed := true, recurses := true, named := ["loop.example/godown/impl.byteClasses"], plainKeys := false, apart := false, laid := [("loop.example/godown/impl.byteClasses", laid_loop_example_godown_impl_byteClasses)] }
def FnExactStoPutSaid : Prop := fnExactStoPutRow.holds Tryz.pinned (OpenSpec.ofChange fnExactStoPutSpec)

/-- ITS FALSE NEIGHBOUR: 'it returns false'. Refute it at one input. -/
def fnExactStoPutWrong : ChangeSpec := { name := "fnExactStoPut", vars := ["loop.example/godown/impl.byteClasses"], fn := fun _ => fun
  | [d1, d2, d3, g1] => { results := [.lit (.bool false)], args := [d1, d2, d3], vars := [g1] }
  | _ => none }
def FnExactStoPutWrongFalsely : Prop := fnExactStoPutRow.holds Tryz.pinned (OpenSpec.ofChange fnExactStoPutWrong)

/-- 'laws.FnStoPut': WHATEVER THE INPUT: true; the input reads as it did. -/
def fnStoPutSpec : ChangeSpec := { name := "fnStoPut", vars := ["loop.example/godown/impl.byteClasses"], fn := fun _ => fun
  | [d, g1] => { results := [.lit (.bool true)], args := [d], vars := [g1] }
  | _ => none }
def fnStoPutRow : OpenClaim := { program := "ytbhnjnoblkfckaagreatdoor", sum := "057d157299f26f1eef87f8d0c5960594fb254d972d55e5d118164f36b1279c02", func := "loop.example/godown/laws.FnStoPut", spec := "fnStoPut", inPlace := ["internal/bytealg.IndexByteString"], unfollowed := true, recurses := true, named := ["loop.example/godown/impl.byteClasses"], plainKeys := false, apart := false, laid := [("loop.example/godown/impl.byteClasses", laid_loop_example_godown_impl_byteClasses)] }
def FnStoPutSaid : Prop := fnStoPutRow.holds Tryz.pinned (OpenSpec.ofChange fnStoPutSpec)

/-- ITS FALSE NEIGHBOUR: 'it returns false'. Refute it at one input. -/
def fnStoPutWrong : ChangeSpec := { name := "fnStoPut", vars := ["loop.example/godown/impl.byteClasses"], fn := fun _ => fun
  | [d, g1] => { results := [.lit (.bool false)], args := [d], vars := [g1] }
  | _ => none }
def FnStoPutWrongFalsely : Prop := fnStoPutRow.holds Tryz.pinned (OpenSpec.ofChange fnStoPutWrong)

/-- 'laws.FnStoRoom': WHATEVER THE INPUT: true; the input reads as it did. -/
def fnStoRoomSpec : ChangeSpec := { name := "fnStoRoom", vars := ["loop.example/godown/impl.byteClasses"], fn := fun _ => fun
  | [d, g1] => { results := [.lit (.bool true)], args := [d], vars := [g1] }
  | _ => none }
def fnStoRoomRow : OpenClaim := { program := "ytbhnjnoblkfckaagreatdoor", sum := "057d157299f26f1eef87f8d0c5960594fb254d972d55e5d118164f36b1279c02", func := "loop.example/godown/laws.FnStoRoom", spec := "fnStoRoom", inPlace := ["internal/bytealg.IndexByteString"], unfollowed := true, recurses := true, named := ["loop.example/godown/impl.byteClasses"], plainKeys := false, apart := false, laid := [("loop.example/godown/impl.byteClasses", laid_loop_example_godown_impl_byteClasses)] }
def FnStoRoomSaid : Prop := fnStoRoomRow.holds Tryz.pinned (OpenSpec.ofChange fnStoRoomSpec)

/-- ITS FALSE NEIGHBOUR: 'it returns false'. Refute it at one input. -/
def fnStoRoomWrong : ChangeSpec := { name := "fnStoRoom", vars := ["loop.example/godown/impl.byteClasses"], fn := fun _ => fun
  | [d, g1] => { results := [.lit (.bool false)], args := [d], vars := [g1] }
  | _ => none }
def FnStoRoomWrongFalsely : Prop := fnStoRoomRow.holds Tryz.pinned (OpenSpec.ofChange fnStoRoomWrong)

/-- 'laws.FnStoOk': WHATEVER THE INPUT: true; the input reads as it did. -/
def fnStoOkSpec : ChangeSpec := { name := "fnStoOk", vars := ["loop.example/godown/impl.byteClasses"], fn := fun _ => fun
  | [d, g1] => { results := [.lit (.bool true)], args := [d], vars := [g1] }
  | _ => none }
def fnStoOkRow : OpenClaim := { program := "ytbhnjnoblkfckaagreatdoor", sum := "057d157299f26f1eef87f8d0c5960594fb254d972d55e5d118164f36b1279c02", func := "loop.example/godown/laws.FnStoOk", spec := "fnStoOk", inPlace := ["internal/bytealg.IndexByteString"], unfollowed := true, recurses := true, named := ["loop.example/godown/impl.byteClasses"], plainKeys := false, apart := false, laid := [("loop.example/godown/impl.byteClasses", laid_loop_example_godown_impl_byteClasses)] }
def FnStoOkSaid : Prop := fnStoOkRow.holds Tryz.pinned (OpenSpec.ofChange fnStoOkSpec)

/-- ITS FALSE NEIGHBOUR: 'it returns false'. Refute it at one input. -/
def fnStoOkWrong : ChangeSpec := { name := "fnStoOk", vars := ["loop.example/godown/impl.byteClasses"], fn := fun _ => fun
  | [d, g1] => { results := [.lit (.bool false)], args := [d], vars := [g1] }
  | _ => none }
def FnStoOkWrongFalsely : Prop := fnStoOkRow.holds Tryz.pinned (OpenSpec.ofChange fnStoOkWrong)

/-- 'laws.FnStoTwice': WHATEVER THE INPUT: true; the input reads as it did. -/
def fnStoTwiceSpec : ChangeSpec := { name := "fnStoTwice", vars := ["loop.example/godown/impl.byteClasses"], fn := fun _ => fun
  | [d, g1] => { results := [.lit (.bool true)], args := [d], vars := [g1] }
  | _ => none }
def fnStoTwiceRow : OpenClaim := { program := "ytbhnjnoblkfckaagreatdoor", sum := "057d157299f26f1eef87f8d0c5960594fb254d972d55e5d118164f36b1279c02", func := "loop.example/godown/laws.FnStoTwice", spec := "fnStoTwice", inPlace := ["internal/bytealg.IndexByteString"], unfollowed := true, recurses := true, named := ["loop.example/godown/impl.byteClasses"], plainKeys := false, apart := false, laid := [("loop.example/godown/impl.byteClasses", laid_loop_example_godown_impl_byteClasses)] }
def FnStoTwiceSaid : Prop := fnStoTwiceRow.holds Tryz.pinned (OpenSpec.ofChange fnStoTwiceSpec)

/-- ITS FALSE NEIGHBOUR: 'it returns false'. Refute it at one input. -/
def fnStoTwiceWrong : ChangeSpec := { name := "fnStoTwice", vars := ["loop.example/godown/impl.byteClasses"], fn := fun _ => fun
  | [d, g1] => { results := [.lit (.bool false)], args := [d], vars := [g1] }
  | _ => none }
def FnStoTwiceWrongFalsely : Prop := fnStoTwiceRow.holds Tryz.pinned (OpenSpec.ofChange fnStoTwiceWrong)

/-- 'laws.FnStoBack': WHATEVER THE INPUT: true; the input reads as it did. -/
def fnStoBackSpec : ChangeSpec := { name := "fnStoBack", vars := ["loop.example/godown/impl.byteClasses"], fn := fun _ => fun
  | [d, g1] => { results := [.lit (.bool true)], args := [d], vars := [g1] }
  | _ => none }
def fnStoBackRow : OpenClaim := { program := "ytbhnjnoblkfckaagreatdoor", sum := "057d157299f26f1eef87f8d0c5960594fb254d972d55e5d118164f36b1279c02", func := "loop.example/godown/laws.FnStoBack", spec := "fnStoBack", inPlace := ["internal/bytealg.IndexByteString"], unfollowed := true, recurses := true, named := ["loop.example/godown/impl.byteClasses"], plainKeys := false, apart := false, laid := [("loop.example/godown/impl.byteClasses", laid_loop_example_godown_impl_byteClasses)] }
def FnStoBackSaid : Prop := fnStoBackRow.holds Tryz.pinned (OpenSpec.ofChange fnStoBackSpec)

/-- ITS FALSE NEIGHBOUR: 'it returns false'. Refute it at one input. -/
def fnStoBackWrong : ChangeSpec := { name := "fnStoBack", vars := ["loop.example/godown/impl.byteClasses"], fn := fun _ => fun
  | [d, g1] => { results := [.lit (.bool false)], args := [d], vars := [g1] }
  | _ => none }
def FnStoBackWrongFalsely : Prop := fnStoBackRow.holds Tryz.pinned (OpenSpec.ofChange fnStoBackWrong)

/- THE SECOND FORM. 'bulk': how many values and letters a reading holds, each counted each time it is reached (what is shared counts as often as it is met; a slice's spare places count too). A statement '..UptoSaid' is the law's where the arguments, and the package variables that the reading takes, are together of bulk at most 1048576: NARROWER than '..Said'. Prove '..Said' where nothing that the law and all that it calls make is longer than what came in: it says more and counts as full. Else prove '..UptoSaid'. A law counts once. -/
mutual
def uptoBulk {H : Type} : DataW H → Nat
  | .lit (.string bytes) => bytes.length + 1
  | .lit _ => 1
  | .nil => 1
  | .ptr d => uptoBulk d + 1
  | .slice elems spare => uptoBulkAll elems + uptoBulkAll spare + 1
  | .agg parts => uptoBulkAll parts + 1
  | .iface _ d => uptoBulk d + 1
  | .map entries => uptoBulkEntries entries + 1
  | .held _ => 1
def uptoBulkAll {H : Type} : List (DataW H) → Nat
  | [] => 0
  | d :: r => uptoBulk d + uptoBulkAll r
def uptoBulkEntries {H : Type} : List (Lit × DataW H) → Nat
  | [] => 0
  | x :: r => uptoBulkEntry x + uptoBulkEntries r
def uptoBulkEntry {H : Type} : Lit × DataW H → Nat
  | (.string bytes, d) => bytes.length + uptoBulk d + 1
  | (_, d) => uptoBulk d + 1
 end
def uptoSmall : (H : Type) → List (DataW H) → Bool := fun _ ds => decide (uptoBulkAll ds ≤ 1048576)
def OpenSpec.upto (s : _root_.Go.ChangeSpec) : _root_.Go.OpenSpec := { _root_.Go.OpenSpec.ofChange s with cond := some uptoSmall }

/-- 'laws.FnExactStoOk', WHERE WHAT IT READS IS OF BULK AT MOST 1048576: true; the input reads as it did. -/
def fnExactStoOkUptoRow : OpenClaim := { program := "ytbhnjnoblkfckaagreatdoor", sum := "057d157299f26f1eef87f8d0c5960594fb254d972d55e5d118164f36b1279c02", func := "loop.example/godown/laws.FnExactStoOk", spec := "fnExactStoOk", inPlace := ["internal/bytealg.IndexByteString"], unfollowed := true, recurses := true, named := ["loop.example/godown/impl.byteClasses"], plainKeys := false, apart := false, laid := [("loop.example/godown/impl.byteClasses", laid_loop_example_godown_impl_byteClasses)], narrowed := true }
def FnExactStoOkUptoSaid : Prop := fnExactStoOkUptoRow.holds Tryz.pinned (OpenSpec.upto fnExactStoOkSpec)

/-- 'laws.FnExactStoPut', WHERE WHAT IT READS IS OF BULK AT MOST 1048576: true; the input reads as it did. -/
def fnExactStoPutUptoRow : OpenClaim := { program := "ytbhnjnoblkfckaagreatdoor", sum := "057d157299f26f1eef87f8d0c5960594fb254d972d55e5d118164f36b1279c02", func := "loop.example/godown/laws.FnExactStoPut", spec := "fnExactStoPut", inPlace := ["internal/bytealg.IndexByteString"], unfollowed := true, recurses := true, named := ["loop.example/godown/impl.byteClasses"], plainKeys := false, apart := false, laid := [("loop.example/godown/impl.byteClasses", laid_loop_example_godown_impl_byteClasses)], narrowed := true }
def FnExactStoPutUptoSaid : Prop := fnExactStoPutUptoRow.holds Tryz.pinned (OpenSpec.upto fnExactStoPutSpec)

/-- 'laws.FnStoPut', WHERE WHAT IT READS IS OF BULK AT MOST 1048576: true; the input reads as it did. -/
def fnStoPutUptoRow : OpenClaim := { program := "ytbhnjnoblkfckaagreatdoor", sum := "057d157299f26f1eef87f8d0c5960594fb254d972d55e5d118164f36b1279c02", func := "loop.example/godown/laws.FnStoPut", spec := "fnStoPut", inPlace := ["internal/bytealg.IndexByteString"], unfollowed := true, recurses := true, named := ["loop.example/godown/impl.byteClasses"], plainKeys := false, apart := false, laid := [("loop.example/godown/impl.byteClasses", laid_loop_example_godown_impl_byteClasses)], narrowed := true }
def FnStoPutUptoSaid : Prop := fnStoPutUptoRow.holds Tryz.pinned (OpenSpec.upto fnStoPutSpec)

/-- 'laws.FnStoRoom', WHERE WHAT IT READS IS OF BULK AT MOST 1048576: true; the input reads as it did. -/
def fnStoRoomUptoRow : OpenClaim := { program := "ytbhnjnoblkfckaagreatdoor", sum := "057d157299f26f1eef87f8d0c5960594fb254d972d55e5d118164f36b1279c02", func := "loop.example/godown/laws.FnStoRoom", spec := "fnStoRoom", inPlace := ["internal/bytealg.IndexByteString"], unfollowed := true, recurses := true, named := ["loop.example/godown/impl.byteClasses"], plainKeys := false, apart := false, laid := [("loop.example/godown/impl.byteClasses", laid_loop_example_godown_impl_byteClasses)], narrowed := true }
def FnStoRoomUptoSaid : Prop := fnStoRoomUptoRow.holds Tryz.pinned (OpenSpec.upto fnStoRoomSpec)

/-- 'laws.FnStoOk', WHERE WHAT IT READS IS OF BULK AT MOST 1048576: true; the input reads as it did. -/
def fnStoOkUptoRow : OpenClaim := { program := "ytbhnjnoblkfckaagreatdoor", sum := "057d157299f26f1eef87f8d0c5960594fb254d972d55e5d118164f36b1279c02", func := "loop.example/godown/laws.FnStoOk", spec := "fnStoOk", inPlace := ["internal/bytealg.IndexByteString"], unfollowed := true, recurses := true, named := ["loop.example/godown/impl.byteClasses"], plainKeys := false, apart := false, laid := [("loop.example/godown/impl.byteClasses", laid_loop_example_godown_impl_byteClasses)], narrowed := true }
def FnStoOkUptoSaid : Prop := fnStoOkUptoRow.holds Tryz.pinned (OpenSpec.upto fnStoOkSpec)

/-- 'laws.FnStoTwice', WHERE WHAT IT READS IS OF BULK AT MOST 1048576: true; the input reads as it did. -/
def fnStoTwiceUptoRow : OpenClaim := { program := "ytbhnjnoblkfckaagreatdoor", sum := "057d157299f26f1eef87f8d0c5960594fb254d972d55e5d118164f36b1279c02", func := "loop.example/godown/laws.FnStoTwice", spec := "fnStoTwice", inPlace := ["internal/bytealg.IndexByteString"], unfollowed := true, recurses := true, named := ["loop.example/godown/impl.byteClasses"], plainKeys := false, apart := false, laid := [("loop.example/godown/impl.byteClasses", laid_loop_example_godown_impl_byteClasses)], narrowed := true }
def FnStoTwiceUptoSaid : Prop := fnStoTwiceUptoRow.holds Tryz.pinned (OpenSpec.upto fnStoTwiceSpec)

/-- 'laws.FnStoBack', WHERE WHAT IT READS IS OF BULK AT MOST 1048576: true; the input reads as it did. -/
def fnStoBackUptoRow : OpenClaim := { program := "ytbhnjnoblkfckaagreatdoor", sum := "057d157299f26f1eef87f8d0c5960594fb254d972d55e5d118164f36b1279c02", func := "loop.example/godown/laws.FnStoBack", spec := "fnStoBack", inPlace := ["internal/bytealg.IndexByteString"], unfollowed := true, recurses := true, named := ["loop.example/godown/impl.byteClasses"], plainKeys := false, apart := false, laid := [("loop.example/godown/impl.byteClasses", laid_loop_example_godown_impl_byteClasses)], narrowed := true }
def FnStoBackUptoSaid : Prop := fnStoBackUptoRow.holds Tryz.pinned (OpenSpec.upto fnStoBackSpec)

end Rows
end Go.Proofs.YtbhnjnoblkfckaaGreatDoor
