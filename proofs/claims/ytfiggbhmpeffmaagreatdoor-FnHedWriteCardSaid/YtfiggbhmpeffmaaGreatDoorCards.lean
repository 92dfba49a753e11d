/-
  DERIVED. GIVEN WITH THE SEED: THE CARDS: each row of YtfiggbhmpeffmaaGreatDoorRows.lean that lists a variable, with what it lists TIED to the program's text (the seventh form; the later family's looks); each row that meets fmt, with fmt's text TOLD by the authors' own Lean function (tested against real Go, not proved from fmt's source: count such statements apart). THE CARD IS WHAT COUNTS. Prove the row's statement (the work); the ties are given (YtfiggbhmpeffmaaGreatDoorTie.lean); close each card by the builder's one call (the guide's Derived/Test/ToyasCard.lean, 'card_holds'). Laid BY PROGRAM, IN A SANDBOX (cutbox-door.mjs). By AI agents, Wed Nov 11 2026. No macro, syntax, notation, axiom, sorry.
-/
import Derived.Test.YtfiggbhmpeffmaaGreatDoorRows
import GoSem.ClaimSeven
namespace Go.Proofs.YtfiggbhmpeffmaaGreatDoor
namespace Rows

/-- THE TIED CARD OF 'laws.FnHedWrite'. -/
def fnHedWriteCard : Claim7 := { stood := { row := fnHedWriteRow, standIns := [], harness := (true, "7cdee946e278d1533c2618c6007f70afb1619514797f103acdfdc910bfeb92a8"), looks := true }, kinds := [], alts := [], laidByText := true, laidKinds := [.data, .data, .data, .data, .sentinel, .sentinel, .data, .pinned], laidTests := true, laidLooks := .later }
def FnHedWriteCardSaid : Prop := Claim7.holds Tryz.pinned (.plain (OpenSpec.ofChange fnHedWriteSpec)) fnHedWriteCard

/-- THE TIED CARD OF 'laws.FnHedRead'. -/
def fnHedReadCard : Claim7 := { stood := { row := fnHedReadRow, standIns := [], harness := (true, "7cdee946e278d1533c2618c6007f70afb1619514797f103acdfdc910bfeb92a8"), looks := true }, kinds := [], alts := [], laidByText := true, laidKinds := [.data, .data, .data, .data, .sentinel, .sentinel, .data, .pinned], laidTests := true, laidLooks := .later }
def FnHedReadCardSaid : Prop := Claim7.holds Tryz.pinned (.plain (OpenSpec.ofChange fnHedReadSpec)) fnHedReadCard

/-- THE TIED CARD OF 'laws.FnHedPart'. -/
def fnHedPartCard : Claim7 := { stood := { row := fnHedPartRow, standIns := [], harness := (true, "7cdee946e278d1533c2618c6007f70afb1619514797f103acdfdc910bfeb92a8"), looks := true }, kinds := [], alts := [], laidByText := true, laidKinds := [.data, .data, .data, .data, .sentinel, .sentinel, .data, .pinned], laidTests := true, laidLooks := .later }
def FnHedPartCardSaid : Prop := Claim7.holds Tryz.pinned (.plain (OpenSpec.ofChange fnHedPartSpec)) fnHedPartCard

/-- THE TIED CARD OF 'laws.FnHedStrict'. -/
def fnHedStrictCard : Claim7 := { stood := { row := fnHedStrictRow, standIns := [], harness := (true, "7cdee946e278d1533c2618c6007f70afb1619514797f103acdfdc910bfeb92a8"), looks := true }, kinds := [], alts := [], laidByText := true, laidKinds := [.data, .data, .data, .data, .sentinel, .sentinel, .data, .pinned], laidTests := true, laidLooks := .later }
def FnHedStrictCardSaid : Prop := Claim7.holds Tryz.pinned (.plain (OpenSpec.ofChange fnHedStrictSpec)) fnHedStrictCard

/-- THE TIED CARD OF 'laws.FnHedTwo'. -/
def fnHedTwoCard : Claim7 := { stood := { row := fnHedTwoRow, standIns := [], harness := (true, "7cdee946e278d1533c2618c6007f70afb1619514797f103acdfdc910bfeb92a8"), looks := true }, kinds := [], alts := [], laidByText := true, laidKinds := [.data, .data, .data, .data, .sentinel, .sentinel, .data, .pinned], laidTests := true, laidLooks := .later }
def FnHedTwoCardSaid : Prop := Claim7.holds Tryz.pinned (.plain (OpenSpec.ofChange fnHedTwoSpec)) fnHedTwoCard

/-- THE TIED CARD OF 'laws.FnExactHedOk'. -/
def fnExactHedOkCard : Claim7 := { stood := { row := fnExactHedOkRow, standIns := [], harness := (true, "7cdee946e278d1533c2618c6007f70afb1619514797f103acdfdc910bfeb92a8"), looks := true }, kinds := [], alts := [], laidByText := true, laidKinds := [.data, .data, .data, .data, .data, .pinned], laidTests := true, laidLooks := .later }
def FnExactHedOkCardSaid : Prop := Claim7.holds Tryz.pinned (.plain (OpenSpec.ofChange fnExactHedOkSpec)) fnExactHedOkCard

/-- THE TIED CARD OF 'laws.FnExactHedWrite'. -/
def fnExactHedWriteCard : Claim7 := { stood := { row := fnExactHedWriteRow, standIns := [], harness := (true, "7cdee946e278d1533c2618c6007f70afb1619514797f103acdfdc910bfeb92a8"), looks := true }, kinds := [], alts := [], laidByText := true, laidKinds := [.data, .data, .data, .data, .data, .pinned], laidTests := true, laidLooks := .later }
def FnExactHedWriteCardSaid : Prop := Claim7.holds Tryz.pinned (.plain (OpenSpec.ofChange fnExactHedWriteSpec)) fnExactHedWriteCard

/-- THE TIED CARD OF 'laws.FnExactHedRead'. -/
def fnExactHedReadCard : Claim7 := { stood := { row := fnExactHedReadRow, standIns := [], harness := (true, "7cdee946e278d1533c2618c6007f70afb1619514797f103acdfdc910bfeb92a8"), looks := true }, kinds := [], alts := [], laidByText := true, laidKinds := [.data, .data, .data, .data, .sentinel, .sentinel, .data, .pinned], laidTests := true, laidLooks := .later }
def FnExactHedReadCardSaid : Prop := Claim7.holds Tryz.pinned (.plain (OpenSpec.ofChange fnExactHedReadSpec)) fnExactHedReadCard

/-- THE SECOND FORM's CARD OF 'laws.FnHedWrite'. -/
def fnHedWriteUptoCard : Claim7 := { stood := { row := fnHedWriteUptoRow, standIns := [], harness := (true, "7cdee946e278d1533c2618c6007f70afb1619514797f103acdfdc910bfeb92a8"), looks := true }, kinds := [], alts := [], laidByText := true, laidKinds := [.data, .data, .data, .data, .sentinel, .sentinel, .data, .pinned], laidTests := true, laidLooks := .later }
def FnHedWriteUptoCardSaid : Prop := Claim7.holds Tryz.pinned (.plain (OpenSpec.upto fnHedWriteSpec)) fnHedWriteUptoCard

/-- THE SECOND FORM's CARD OF 'laws.FnHedRead'. -/
def fnHedReadUptoCard : Claim7 := { stood := { row := fnHedReadUptoRow, standIns := [], harness := (true, "7cdee946e278d1533c2618c6007f70afb1619514797f103acdfdc910bfeb92a8"), looks := true }, kinds := [], alts := [], laidByText := true, laidKinds := [.data, .data, .data, .data, .sentinel, .sentinel, .data, .pinned], laidTests := true, laidLooks := .later }
def FnHedReadUptoCardSaid : Prop := Claim7.holds Tryz.pinned (.plain (OpenSpec.upto fnHedReadSpec)) fnHedReadUptoCard

/-- THE SECOND FORM's CARD OF 'laws.FnHedPart'. -/
def fnHedPartUptoCard : Claim7 := { stood := { row := fnHedPartUptoRow, standIns := [], harness := (true, "7cdee946e278d1533c2618c6007f70afb1619514797f103acdfdc910bfeb92a8"), looks := true }, kinds := [], alts := [], laidByText := true, laidKinds := [.data, .data, .data, .data, .sentinel, .sentinel, .data, .pinned], laidTests := true, laidLooks := .later }
def FnHedPartUptoCardSaid : Prop := Claim7.holds Tryz.pinned (.plain (OpenSpec.upto fnHedPartSpec)) fnHedPartUptoCard

/-- THE SECOND FORM's CARD OF 'laws.FnHedStrict'. -/
def fnHedStrictUptoCard : Claim7 := { stood := { row := fnHedStrictUptoRow, standIns := [], harness := (true, "7cdee946e278d1533c2618c6007f70afb1619514797f103acdfdc910bfeb92a8"), looks := true }, kinds := [], alts := [], laidByText := true, laidKinds := [.data, .data, .data, .data, .sentinel, .sentinel, .data, .pinned], laidTests := true, laidLooks := .later }
def FnHedStrictUptoCardSaid : Prop := Claim7.holds Tryz.pinned (.plain (OpenSpec.upto fnHedStrictSpec)) fnHedStrictUptoCard

/-- THE SECOND FORM's CARD OF 'laws.FnHedTwo'. -/
def fnHedTwoUptoCard : Claim7 := { stood := { row := fnHedTwoUptoRow, standIns := [], harness := (true, "7cdee946e278d1533c2618c6007f70afb1619514797f103acdfdc910bfeb92a8"), looks := true }, kinds := [], alts := [], laidByText := true, laidKinds := [.data, .data, .data, .data, .sentinel, .sentinel, .data, .pinned], laidTests := true, laidLooks := .later }
def FnHedTwoUptoCardSaid : Prop := Claim7.holds Tryz.pinned (.plain (OpenSpec.upto fnHedTwoSpec)) fnHedTwoUptoCard

/-- THE SECOND FORM's CARD OF 'laws.FnExactHedOk'. -/
def fnExactHedOkUptoCard : Claim7 := { stood := { row := fnExactHedOkUptoRow, standIns := [], harness := (true, "7cdee946e278d1533c2618c6007f70afb1619514797f103acdfdc910bfeb92a8"), looks := true }, kinds := [], alts := [], laidByText := true, laidKinds := [.data, .data, .data, .data, .data, .pinned], laidTests := true, laidLooks := .later }
def FnExactHedOkUptoCardSaid : Prop := Claim7.holds Tryz.pinned (.plain (OpenSpec.upto fnExactHedOkSpec)) fnExactHedOkUptoCard

/-- THE SECOND FORM's CARD OF 'laws.FnExactHedWrite'. -/
def fnExactHedWriteUptoCard : Claim7 := { stood := { row := fnExactHedWriteUptoRow, standIns := [], harness := (true, "7cdee946e278d1533c2618c6007f70afb1619514797f103acdfdc910bfeb92a8"), looks := true }, kinds := [], alts := [], laidByText := true, laidKinds := [.data, .data, .data, .data, .data, .pinned], laidTests := true, laidLooks := .later }
def FnExactHedWriteUptoCardSaid : Prop := Claim7.holds Tryz.pinned (.plain (OpenSpec.upto fnExactHedWriteSpec)) fnExactHedWriteUptoCard

/-- THE SECOND FORM's CARD OF 'laws.FnExactHedRead'. -/
def fnExactHedReadUptoCard : Claim7 := { stood := { row := fnExactHedReadUptoRow, standIns := [], harness := (true, "7cdee946e278d1533c2618c6007f70afb1619514797f103acdfdc910bfeb92a8"), looks := true }, kinds := [], alts := [], laidByText := true, laidKinds := [.data, .data, .data, .data, .sentinel, .sentinel, .data, .pinned], laidTests := true, laidLooks := .later }
def FnExactHedReadUptoCardSaid : Prop := Claim7.holds Tryz.pinned (.plain (OpenSpec.upto fnExactHedReadSpec)) fnExactHedReadUptoCard
end Rows
end Go.Proofs.YtfiggbhmpeffmaaGreatDoor
