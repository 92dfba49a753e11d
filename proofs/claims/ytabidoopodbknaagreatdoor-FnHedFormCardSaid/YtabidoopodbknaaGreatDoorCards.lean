/-
  DERIVED. GIVEN WITH THE SEED: THE CARDS: each row of YtabidoopodbknaaGreatDoorRows.lean that lists a variable, with what it lists TIED to the program's text (the seventh form; the later family's looks); each row that meets fmt, with fmt's text TOLD by the authors' own Lean function (tested against real Go, not proved from fmt's source: count such statements apart). THE CARD IS WHAT COUNTS. Prove the row's statement (the work); the ties are given (YtabidoopodbknaaGreatDoorTie.lean); close each card by the builder's one call (the guide's Derived/Test/ToyasCard.lean, 'card_holds'). Laid BY PROGRAM, IN A SANDBOX (cutbox-door.mjs). By AI agents, Wed Nov 11 2026. No macro, syntax, notation, axiom, sorry.
-/
import Derived.Test.YtabidoopodbknaaGreatDoorRows
import GoSem.ClaimSeven
namespace Go.Proofs.YtabidoopodbknaaGreatDoor
namespace Rows

/-- THE TIED CARD OF 'laws.FnHedForm'. -/
def fnHedFormCard : Claim7 := { stood := { row := fnHedFormRow, standIns := [], harness := (true, "f07dc8ee6271391260478a7ac87e4e890cb20e26fa5c4c2f99c8d77f19d00c40"), looks := true }, kinds := [], alts := [], laidByText := true, laidKinds := [.data, .data, .data, .data, .sentinel, .sentinel, .data, .data, .pinned], laidTests := true, laidLooks := .later }
def FnHedFormCardSaid : Prop := Claim7.holds Tryz.pinned (.plain (OpenSpec.ofChange fnHedFormSpec)) fnHedFormCard

/-- THE SECOND FORM's CARD OF 'laws.FnHedForm'. -/
def fnHedFormUptoCard : Claim7 := { stood := { row := fnHedFormUptoRow, standIns := [], harness := (true, "f07dc8ee6271391260478a7ac87e4e890cb20e26fa5c4c2f99c8d77f19d00c40"), looks := true }, kinds := [], alts := [], laidByText := true, laidKinds := [.data, .data, .data, .data, .sentinel, .sentinel, .data, .data, .pinned], laidTests := true, laidLooks := .later }
def FnHedFormUptoCardSaid : Prop := Claim7.holds Tryz.pinned (.plain (OpenSpec.upto fnHedFormSpec)) fnHedFormUptoCard
end Rows
end Go.Proofs.YtabidoopodbknaaGreatDoor
