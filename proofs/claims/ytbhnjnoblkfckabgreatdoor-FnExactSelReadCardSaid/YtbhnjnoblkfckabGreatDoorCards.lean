/-
  DERIVED. GIVEN WITH THE SEED: THE CARDS: each row of YtbhnjnoblkfckabGreatDoorRows.lean that lists a variable, with what it lists TIED to the program's text (the seventh form; the later family's looks); each row that meets fmt, with fmt's text TOLD by the authors' own Lean function (tested against real Go, not proved from fmt's source: count such statements apart). THE CARD IS WHAT COUNTS. Prove the row's statement (the work); the ties are given (YtbhnjnoblkfckabGreatDoorTie.lean); close each card by the builder's one call (the guide's Derived/Test/ToyasCard.lean, 'card_holds'). Laid BY PROGRAM, IN A SANDBOX (cutbox-door.mjs). By AI agents, Wed Nov 11 2026. No macro, syntax, notation, axiom, sorry.
-/
import Derived.Test.YtbhnjnoblkfckabGreatDoorRows
import GoSem.ClaimSeven
namespace Go.Proofs.YtbhnjnoblkfckabGreatDoor
namespace Rows

/-- THE TIED CARD OF 'laws.FnExactSelRead'. -/
def fnExactSelReadCard : Claim7 := { stood := { row := fnExactSelReadRow, standIns := [], harness := (true, "89e5accd468f31873c3a7fbacb592af578027d5d2e0afe3cef6daed6722cc3fd"), looks := true }, kinds := [], alts := [], laidByText := true, laidKinds := [.data, .data, .data, .data, .sentinel, .sentinel, .data, .pinned], laidTests := true, laidLooks := .later }
def FnExactSelReadCardSaid : Prop := Claim7.holds Tryz.pinned (.plain (OpenSpec.ofChange fnExactSelReadSpec)) fnExactSelReadCard

/-- THE TIED CARD OF 'laws.FnSelRead'. -/
def fnSelReadCard : Claim7 := { stood := { row := fnSelReadRow, standIns := [], harness := (true, "89e5accd468f31873c3a7fbacb592af578027d5d2e0afe3cef6daed6722cc3fd"), looks := true }, kinds := [], alts := [], laidByText := true, laidKinds := [.data, .data, .data, .data, .sentinel, .sentinel, .data, .pinned], laidTests := true, laidLooks := .later }
def FnSelReadCardSaid : Prop := Claim7.holds Tryz.pinned (.plain (OpenSpec.ofChange fnSelReadSpec)) fnSelReadCard

/-- THE TIED CARD OF 'laws.FnKeyText'. -/
def fnKeyTextCard : Claim7 := { stood := { row := fnKeyTextRow, standIns := [], harness := (true, "89e5accd468f31873c3a7fbacb592af578027d5d2e0afe3cef6daed6722cc3fd"), looks := true }, kinds := [], alts := [], laidByText := true, laidKinds := [.data, .data, .data, .sentinel, .sentinel, .data], laidTests := true, laidLooks := .later }
def FnKeyTextCardSaid : Prop := Claim7.holds Tryz.pinned (.plain (OpenSpec.ofChange fnKeyTextSpec)) fnKeyTextCard

/-- THE TIED CARD OF 'laws.FnKeyAsk'. -/
def fnKeyAskCard : Claim7 := { stood := { row := fnKeyAskRow, standIns := [], harness := (true, "89e5accd468f31873c3a7fbacb592af578027d5d2e0afe3cef6daed6722cc3fd"), looks := true }, kinds := [], alts := [], laidByText := true, laidKinds := [.data, .data, .data, .data, .sentinel, .sentinel, .data, .data, .pinned], laidTests := true, laidLooks := .later }
def FnKeyAskCardSaid : Prop := Claim7.holds Tryz.pinned (.plain (OpenSpec.ofChange fnKeyAskSpec)) fnKeyAskCard

/-- THE TIED CARD OF 'laws.FnKeyApart'. -/
def fnKeyApartCard : Claim7 := { stood := { row := fnKeyApartRow, standIns := [], harness := (true, "89e5accd468f31873c3a7fbacb592af578027d5d2e0afe3cef6daed6722cc3fd"), looks := true }, kinds := [], alts := [], laidByText := true, laidKinds := [.data, .data, .data, .data, .data, .data, .pinned], laidTests := true, laidLooks := .later }
def FnKeyApartCardSaid : Prop := Claim7.holds Tryz.pinned (.plain (OpenSpec.ofChange fnKeyApartSpec)) fnKeyApartCard

/-- THE SECOND FORM's CARD OF 'laws.FnExactSelRead'. -/
def fnExactSelReadUptoCard : Claim7 := { stood := { row := fnExactSelReadUptoRow, standIns := [], harness := (true, "89e5accd468f31873c3a7fbacb592af578027d5d2e0afe3cef6daed6722cc3fd"), looks := true }, kinds := [], alts := [], laidByText := true, laidKinds := [.data, .data, .data, .data, .sentinel, .sentinel, .data, .pinned], laidTests := true, laidLooks := .later }
def FnExactSelReadUptoCardSaid : Prop := Claim7.holds Tryz.pinned (.plain (OpenSpec.upto fnExactSelReadSpec)) fnExactSelReadUptoCard

/-- THE SECOND FORM's CARD OF 'laws.FnSelRead'. -/
def fnSelReadUptoCard : Claim7 := { stood := { row := fnSelReadUptoRow, standIns := [], harness := (true, "89e5accd468f31873c3a7fbacb592af578027d5d2e0afe3cef6daed6722cc3fd"), looks := true }, kinds := [], alts := [], laidByText := true, laidKinds := [.data, .data, .data, .data, .sentinel, .sentinel, .data, .pinned], laidTests := true, laidLooks := .later }
def FnSelReadUptoCardSaid : Prop := Claim7.holds Tryz.pinned (.plain (OpenSpec.upto fnSelReadSpec)) fnSelReadUptoCard

/-- THE SECOND FORM's CARD OF 'laws.FnKeyText'. -/
def fnKeyTextUptoCard : Claim7 := { stood := { row := fnKeyTextUptoRow, standIns := [], harness := (true, "89e5accd468f31873c3a7fbacb592af578027d5d2e0afe3cef6daed6722cc3fd"), looks := true }, kinds := [], alts := [], laidByText := true, laidKinds := [.data, .data, .data, .sentinel, .sentinel, .data], laidTests := true, laidLooks := .later }
def FnKeyTextUptoCardSaid : Prop := Claim7.holds Tryz.pinned (.plain (OpenSpec.upto fnKeyTextSpec)) fnKeyTextUptoCard

/-- THE SECOND FORM's CARD OF 'laws.FnKeyAsk'. -/
def fnKeyAskUptoCard : Claim7 := { stood := { row := fnKeyAskUptoRow, standIns := [], harness := (true, "89e5accd468f31873c3a7fbacb592af578027d5d2e0afe3cef6daed6722cc3fd"), looks := true }, kinds := [], alts := [], laidByText := true, laidKinds := [.data, .data, .data, .data, .sentinel, .sentinel, .data, .data, .pinned], laidTests := true, laidLooks := .later }
def FnKeyAskUptoCardSaid : Prop := Claim7.holds Tryz.pinned (.plain (OpenSpec.upto fnKeyAskSpec)) fnKeyAskUptoCard

/-- THE SECOND FORM's CARD OF 'laws.FnKeyApart'. -/
def fnKeyApartUptoCard : Claim7 := { stood := { row := fnKeyApartUptoRow, standIns := [], harness := (true, "89e5accd468f31873c3a7fbacb592af578027d5d2e0afe3cef6daed6722cc3fd"), looks := true }, kinds := [], alts := [], laidByText := true, laidKinds := [.data, .data, .data, .data, .data, .data, .pinned], laidTests := true, laidLooks := .later }
def FnKeyApartUptoCardSaid : Prop := Claim7.holds Tryz.pinned (.plain (OpenSpec.upto fnKeyApartSpec)) fnKeyApartUptoCard
end Rows
end Go.Proofs.YtbhnjnoblkfckabGreatDoor
