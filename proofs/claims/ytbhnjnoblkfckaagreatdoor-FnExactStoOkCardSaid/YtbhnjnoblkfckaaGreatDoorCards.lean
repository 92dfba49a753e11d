/-
  DERIVED. GIVEN WITH THE SEED: THE CARDS: each row of YtbhnjnoblkfckaaGreatDoorRows.lean that lists a variable, with what it lists TIED to the program's text (the seventh form; the later family's looks); each row that meets fmt, with fmt's text TOLD by the authors' own Lean function (tested against real Go, not proved from fmt's source: count such statements apart). THE CARD IS WHAT COUNTS. Prove the row's statement (the work); the ties are given (YtbhnjnoblkfckaaGreatDoorTie.lean); close each card by the builder's one call (the guide's Derived/Test/ToyasCard.lean, 'card_holds'). Laid BY PROGRAM, IN A SANDBOX (cutbox-door.mjs). By AI agents, Wed Nov 11 2026. No macro, syntax, notation, axiom, sorry.
-/
import Derived.Test.YtbhnjnoblkfckaaGreatDoorRows
import GoSem.ClaimSeven
namespace Go.Proofs.YtbhnjnoblkfckaaGreatDoor
namespace Rows

/-- THE TIED CARD OF 'laws.FnExactStoOk'. -/
def fnExactStoOkCard : Claim7 := { stood := { row := fnExactStoOkRow, standIns := [], harness := (true, "7fd075304e0d56bf45d1356597d547829d2b28dbc9636ff5fc160ee56fac89b4"), looks := true }, kinds := [], alts := [], laidByText := true, laidKinds := [.data], laidTests := true, laidLooks := .later }
def FnExactStoOkCardSaid : Prop := Claim7.holds Tryz.pinned (.plain (OpenSpec.ofChange fnExactStoOkSpec)) fnExactStoOkCard

/-- THE TIED CARD OF 'laws.FnExactStoPut'. -/
def fnExactStoPutCard : Claim7 := { stood := { row := fnExactStoPutRow, standIns := [], harness := (true, "7fd075304e0d56bf45d1356597d547829d2b28dbc9636ff5fc160ee56fac89b4"), looks := true }, kinds := [], alts := [], laidByText := true, laidKinds := [.data], laidTests := true, laidLooks := .later }
def FnExactStoPutCardSaid : Prop := Claim7.holds Tryz.pinned (.plain (OpenSpec.ofChange fnExactStoPutSpec)) fnExactStoPutCard

/-- THE TIED CARD OF 'laws.FnStoPut'. -/
def fnStoPutCard : Claim7 := { stood := { row := fnStoPutRow, standIns := [], harness := (true, "7fd075304e0d56bf45d1356597d547829d2b28dbc9636ff5fc160ee56fac89b4"), looks := true }, kinds := [], alts := [], laidByText := true, laidKinds := [.data], laidTests := true, laidLooks := .later }
def FnStoPutCardSaid : Prop := Claim7.holds Tryz.pinned (.plain (OpenSpec.ofChange fnStoPutSpec)) fnStoPutCard

/-- THE TIED CARD OF 'laws.FnStoRoom'. -/
def fnStoRoomCard : Claim7 := { stood := { row := fnStoRoomRow, standIns := [], harness := (true, "7fd075304e0d56bf45d1356597d547829d2b28dbc9636ff5fc160ee56fac89b4"), looks := true }, kinds := [], alts := [], laidByText := true, laidKinds := [.data], laidTests := true, laidLooks := .later }
def FnStoRoomCardSaid : Prop := Claim7.holds Tryz.pinned (.plain (OpenSpec.ofChange fnStoRoomSpec)) fnStoRoomCard

/-- THE TIED CARD OF 'laws.FnStoOk'. -/
def fnStoOkCard : Claim7 := { stood := { row := fnStoOkRow, standIns := [], harness := (true, "7fd075304e0d56bf45d1356597d547829d2b28dbc9636ff5fc160ee56fac89b4"), looks := true }, kinds := [], alts := [], laidByText := true, laidKinds := [.data], laidTests := true, laidLooks := .later }
def FnStoOkCardSaid : Prop := Claim7.holds Tryz.pinned (.plain (OpenSpec.ofChange fnStoOkSpec)) fnStoOkCard

/-- THE TIED CARD OF 'laws.FnStoTwice'. -/
def fnStoTwiceCard : Claim7 := { stood := { row := fnStoTwiceRow, standIns := [], harness := (true, "7fd075304e0d56bf45d1356597d547829d2b28dbc9636ff5fc160ee56fac89b4"), looks := true }, kinds := [], alts := [], laidByText := true, laidKinds := [.data], laidTests := true, laidLooks := .later }
def FnStoTwiceCardSaid : Prop := Claim7.holds Tryz.pinned (.plain (OpenSpec.ofChange fnStoTwiceSpec)) fnStoTwiceCard

/-- THE TIED CARD OF 'laws.FnStoBack'. -/
def fnStoBackCard : Claim7 := { stood := { row := fnStoBackRow, standIns := [], harness := (true, "7fd075304e0d56bf45d1356597d547829d2b28dbc9636ff5fc160ee56fac89b4"), looks := true }, kinds := [], alts := [], laidByText := true, laidKinds := [.data], laidTests := true, laidLooks := .later }
def FnStoBackCardSaid : Prop := Claim7.holds Tryz.pinned (.plain (OpenSpec.ofChange fnStoBackSpec)) fnStoBackCard

/-- THE SECOND FORM's CARD OF 'laws.FnExactStoOk'. -/
def fnExactStoOkUptoCard : Claim7 := { stood := { row := fnExactStoOkUptoRow, standIns := [], harness := (true, "7fd075304e0d56bf45d1356597d547829d2b28dbc9636ff5fc160ee56fac89b4"), looks := true }, kinds := [], alts := [], laidByText := true, laidKinds := [.data], laidTests := true, laidLooks := .later }
def FnExactStoOkUptoCardSaid : Prop := Claim7.holds Tryz.pinned (.plain (OpenSpec.upto fnExactStoOkSpec)) fnExactStoOkUptoCard

/-- THE SECOND FORM's CARD OF 'laws.FnExactStoPut'. -/
def fnExactStoPutUptoCard : Claim7 := { stood := { row := fnExactStoPutUptoRow, standIns := [], harness := (true, "7fd075304e0d56bf45d1356597d547829d2b28dbc9636ff5fc160ee56fac89b4"), looks := true }, kinds := [], alts := [], laidByText := true, laidKinds := [.data], laidTests := true, laidLooks := .later }
def FnExactStoPutUptoCardSaid : Prop := Claim7.holds Tryz.pinned (.plain (OpenSpec.upto fnExactStoPutSpec)) fnExactStoPutUptoCard

/-- THE SECOND FORM's CARD OF 'laws.FnStoPut'. -/
def fnStoPutUptoCard : Claim7 := { stood := { row := fnStoPutUptoRow, standIns := [], harness := (true, "7fd075304e0d56bf45d1356597d547829d2b28dbc9636ff5fc160ee56fac89b4"), looks := true }, kinds := [], alts := [], laidByText := true, laidKinds := [.data], laidTests := true, laidLooks := .later }
def FnStoPutUptoCardSaid : Prop := Claim7.holds Tryz.pinned (.plain (OpenSpec.upto fnStoPutSpec)) fnStoPutUptoCard

/-- THE SECOND FORM's CARD OF 'laws.FnStoRoom'. -/
def fnStoRoomUptoCard : Claim7 := { stood := { row := fnStoRoomUptoRow, standIns := [], harness := (true, "7fd075304e0d56bf45d1356597d547829d2b28dbc9636ff5fc160ee56fac89b4"), looks := true }, kinds := [], alts := [], laidByText := true, laidKinds := [.data], laidTests := true, laidLooks := .later }
def FnStoRoomUptoCardSaid : Prop := Claim7.holds Tryz.pinned (.plain (OpenSpec.upto fnStoRoomSpec)) fnStoRoomUptoCard

/-- THE SECOND FORM's CARD OF 'laws.FnStoOk'. -/
def fnStoOkUptoCard : Claim7 := { stood := { row := fnStoOkUptoRow, standIns := [], harness := (true, "7fd075304e0d56bf45d1356597d547829d2b28dbc9636ff5fc160ee56fac89b4"), looks := true }, kinds := [], alts := [], laidByText := true, laidKinds := [.data], laidTests := true, laidLooks := .later }
def FnStoOkUptoCardSaid : Prop := Claim7.holds Tryz.pinned (.plain (OpenSpec.upto fnStoOkSpec)) fnStoOkUptoCard

/-- THE SECOND FORM's CARD OF 'laws.FnStoTwice'. -/
def fnStoTwiceUptoCard : Claim7 := { stood := { row := fnStoTwiceUptoRow, standIns := [], harness := (true, "7fd075304e0d56bf45d1356597d547829d2b28dbc9636ff5fc160ee56fac89b4"), looks := true }, kinds := [], alts := [], laidByText := true, laidKinds := [.data], laidTests := true, laidLooks := .later }
def FnStoTwiceUptoCardSaid : Prop := Claim7.holds Tryz.pinned (.plain (OpenSpec.upto fnStoTwiceSpec)) fnStoTwiceUptoCard

/-- THE SECOND FORM's CARD OF 'laws.FnStoBack'. -/
def fnStoBackUptoCard : Claim7 := { stood := { row := fnStoBackUptoRow, standIns := [], harness := (true, "7fd075304e0d56bf45d1356597d547829d2b28dbc9636ff5fc160ee56fac89b4"), looks := true }, kinds := [], alts := [], laidByText := true, laidKinds := [.data], laidTests := true, laidLooks := .later }
def FnStoBackUptoCardSaid : Prop := Claim7.holds Tryz.pinned (.plain (OpenSpec.upto fnStoBackSpec)) fnStoBackUptoCard
end Rows
end Go.Proofs.YtbhnjnoblkfckaaGreatDoor
