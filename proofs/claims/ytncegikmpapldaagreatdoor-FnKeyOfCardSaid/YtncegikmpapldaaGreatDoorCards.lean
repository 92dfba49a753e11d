/-
  DERIVED. GIVEN WITH THE SEED: THE CARDS: each row of YtncegikmpapldaaGreatDoorRows.lean that lists a variable, with what it lists TIED to the program's text (the seventh form; the later family's looks); each row that meets fmt, with fmt's text TOLD by the authors' own Lean function (tested against real Go, not proved from fmt's source: count such statements apart). THE CARD IS WHAT COUNTS. Prove the row's statement (the work); the ties are given (YtncegikmpapldaaGreatDoorTie.lean); close each card by the builder's one call (the guide's Derived/Test/ToyasCard.lean, 'card_holds'). Laid BY PROGRAM, IN A SANDBOX (cutbox-door.mjs). By AI agents, Wed Nov 11 2026. No macro, syntax, notation, axiom, sorry.
-/
import Derived.Test.YtncegikmpapldaaGreatDoorRows
import GoSem.ClaimSeven
namespace Go.Proofs.YtncegikmpapldaaGreatDoor
namespace Rows

/-- THE TIED CARD OF 'laws.FnKeyText'. -/
def fnKeyTextCard : Claim7 := { stood := { row := fnKeyTextRow, standIns := [], harness := (true, "0cc5577ecbdd5f7a1bc0092ffd5d8f3aaca369b7253c0162712cbe1fc1628186"), looks := true }, kinds := [], alts := [], laidByText := true, laidKinds := [.data, .data, .data, .sentinel, .sentinel, .data], laidTests := true, laidLooks := .later }
def FnKeyTextCardSaid : Prop := Claim7.holds Tryz.pinned (.plain (OpenSpec.ofChange fnKeyTextSpec)) fnKeyTextCard

/-- THE TIED CARD OF 'laws.FnKeyOf'. -/
def fnKeyOfCard : Claim7 := { stood := { row := fnKeyOfRow, standIns := [], harness := (true, "0cc5577ecbdd5f7a1bc0092ffd5d8f3aaca369b7253c0162712cbe1fc1628186"), looks := true }, kinds := [], alts := [], laidByText := true, laidKinds := [.data, .data, .data, .data, .sentinel, .sentinel, .data, .data, .pinned], laidTests := true, laidLooks := .later }
def FnKeyOfCardSaid : Prop := Claim7.holds Tryz.pinned (.plain (OpenSpec.ofChange fnKeyOfSpec)) fnKeyOfCard

/-- THE TIED CARD OF 'laws.FnKeyAsk'. -/
def fnKeyAskCard : Claim7 := { stood := { row := fnKeyAskRow, standIns := [], harness := (true, "0cc5577ecbdd5f7a1bc0092ffd5d8f3aaca369b7253c0162712cbe1fc1628186"), looks := true }, kinds := [], alts := [], laidByText := true, laidKinds := [.data, .data, .data, .data, .sentinel, .sentinel, .data, .data, .pinned], laidTests := true, laidLooks := .later }
def FnKeyAskCardSaid : Prop := Claim7.holds Tryz.pinned (.plain (OpenSpec.ofChange fnKeyAskSpec)) fnKeyAskCard

/-- THE TIED CARD OF 'laws.FnKeyApart'. -/
def fnKeyApartCard : Claim7 := { stood := { row := fnKeyApartRow, standIns := [], harness := (true, "0cc5577ecbdd5f7a1bc0092ffd5d8f3aaca369b7253c0162712cbe1fc1628186"), looks := true }, kinds := [], alts := [], laidByText := true, laidKinds := [.data, .data, .data, .data, .data, .data, .pinned], laidTests := true, laidLooks := .later }
def FnKeyApartCardSaid : Prop := Claim7.holds Tryz.pinned (.plain (OpenSpec.ofChange fnKeyApartSpec)) fnKeyApartCard

/-- THE TIED CARD OF 'laws.FnKeyMore'. -/
def fnKeyMoreCard : Claim7 := { stood := { row := fnKeyMoreRow, standIns := [], harness := (true, "0cc5577ecbdd5f7a1bc0092ffd5d8f3aaca369b7253c0162712cbe1fc1628186"), looks := true }, kinds := [], alts := [], laidByText := true, laidKinds := [.data, .data, .data, .data, .sentinel, .sentinel, .data, .data, .pinned], laidTests := true, laidLooks := .later }
def FnKeyMoreCardSaid : Prop := Claim7.holds Tryz.pinned (.plain (OpenSpec.ofChange fnKeyMoreSpec)) fnKeyMoreCard

/-- THE SECOND FORM's CARD OF 'laws.FnKeyText'. -/
def fnKeyTextUptoCard : Claim7 := { stood := { row := fnKeyTextUptoRow, standIns := [], harness := (true, "0cc5577ecbdd5f7a1bc0092ffd5d8f3aaca369b7253c0162712cbe1fc1628186"), looks := true }, kinds := [], alts := [], laidByText := true, laidKinds := [.data, .data, .data, .sentinel, .sentinel, .data], laidTests := true, laidLooks := .later }
def FnKeyTextUptoCardSaid : Prop := Claim7.holds Tryz.pinned (.plain (OpenSpec.upto fnKeyTextSpec)) fnKeyTextUptoCard

/-- THE SECOND FORM's CARD OF 'laws.FnKeyOf'. -/
def fnKeyOfUptoCard : Claim7 := { stood := { row := fnKeyOfUptoRow, standIns := [], harness := (true, "0cc5577ecbdd5f7a1bc0092ffd5d8f3aaca369b7253c0162712cbe1fc1628186"), looks := true }, kinds := [], alts := [], laidByText := true, laidKinds := [.data, .data, .data, .data, .sentinel, .sentinel, .data, .data, .pinned], laidTests := true, laidLooks := .later }
def FnKeyOfUptoCardSaid : Prop := Claim7.holds Tryz.pinned (.plain (OpenSpec.upto fnKeyOfSpec)) fnKeyOfUptoCard

/-- THE SECOND FORM's CARD OF 'laws.FnKeyAsk'. -/
def fnKeyAskUptoCard : Claim7 := { stood := { row := fnKeyAskUptoRow, standIns := [], harness := (true, "0cc5577ecbdd5f7a1bc0092ffd5d8f3aaca369b7253c0162712cbe1fc1628186"), looks := true }, kinds := [], alts := [], laidByText := true, laidKinds := [.data, .data, .data, .data, .sentinel, .sentinel, .data, .data, .pinned], laidTests := true, laidLooks := .later }
def FnKeyAskUptoCardSaid : Prop := Claim7.holds Tryz.pinned (.plain (OpenSpec.upto fnKeyAskSpec)) fnKeyAskUptoCard

/-- THE SECOND FORM's CARD OF 'laws.FnKeyApart'. -/
def fnKeyApartUptoCard : Claim7 := { stood := { row := fnKeyApartUptoRow, standIns := [], harness := (true, "0cc5577ecbdd5f7a1bc0092ffd5d8f3aaca369b7253c0162712cbe1fc1628186"), looks := true }, kinds := [], alts := [], laidByText := true, laidKinds := [.data, .data, .data, .data, .data, .data, .pinned], laidTests := true, laidLooks := .later }
def FnKeyApartUptoCardSaid : Prop := Claim7.holds Tryz.pinned (.plain (OpenSpec.upto fnKeyApartSpec)) fnKeyApartUptoCard

/-- THE SECOND FORM's CARD OF 'laws.FnKeyMore'. -/
def fnKeyMoreUptoCard : Claim7 := { stood := { row := fnKeyMoreUptoRow, standIns := [], harness := (true, "0cc5577ecbdd5f7a1bc0092ffd5d8f3aaca369b7253c0162712cbe1fc1628186"), looks := true }, kinds := [], alts := [], laidByText := true, laidKinds := [.data, .data, .data, .data, .sentinel, .sentinel, .data, .data, .pinned], laidTests := true, laidLooks := .later }
def FnKeyMoreUptoCardSaid : Prop := Claim7.holds Tryz.pinned (.plain (OpenSpec.upto fnKeyMoreSpec)) fnKeyMoreUptoCard
end Rows
end Go.Proofs.YtncegikmpapldaaGreatDoor
