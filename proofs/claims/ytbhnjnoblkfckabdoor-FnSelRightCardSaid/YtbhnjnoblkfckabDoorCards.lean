/-
  DERIVED. GIVEN WITH THE SEED: THE CARDS: each row of YtbhnjnoblkfckabDoorRows.lean that lists a variable, with what it lists TIED to the program's text (the seventh form; the later family's looks); each row that meets fmt, with fmt's text TOLD by the authors' own Lean function (tested against real Go, not proved from fmt's source: count such statements apart). THE CARD IS WHAT COUNTS. Prove the row's statement (the work); the ties are given (YtbhnjnoblkfckabDoorTie.lean); close each card by the builder's one call (the guide's Derived/Test/ToyasCard.lean, 'card_holds'). Laid BY PROGRAM, IN A SANDBOX (cutbox-door.mjs). By AI agents, Wed Nov 11 2026. No macro, syntax, notation, axiom, sorry.
-/
import Derived.Test.YtbhnjnoblkfckabDoorRows
import GoSem.ClaimSeven
namespace Go.Proofs.YtbhnjnoblkfckabDoor
namespace Rows

/-- THE TIED CARD OF 'laws.FnSelOf'. -/
def fnSelOfCard : Claim7 := { stood := { row := fnSelOfRow, standIns := [], harness := (true, "4bf4e84433c762f56c51ef526bcb4d17be3558eb921c98aed55d9e8a66664c4f"), looks := false }, kinds := [], alts := [], laidByText := true, laidKinds := [.data], laidTests := true, laidLooks := .later }
def FnSelOfCardSaid : Prop := Claim7.holds Tryd.pinned (.plain (OpenSpec.ofChange fnSelOfSpec)) fnSelOfCard

/-- THE TIED CARD OF 'laws.FnSelRight'. -/
def fnSelRightCard : Claim7 := { stood := { row := fnSelRightRow, standIns := [], harness := (true, "4bf4e84433c762f56c51ef526bcb4d17be3558eb921c98aed55d9e8a66664c4f"), looks := false }, kinds := [], alts := [], laidByText := true, laidKinds := [.data], laidTests := true, laidLooks := .later }
def FnSelRightCardSaid : Prop := Claim7.holds Tryd.pinned (.plain (OpenSpec.ofChange fnSelRightSpec)) fnSelRightCard

/-- THE SECOND FORM's CARD OF 'laws.FnSelOf'. -/
def fnSelOfUptoCard : Claim7 := { stood := { row := fnSelOfUptoRow, standIns := [], harness := (true, "4bf4e84433c762f56c51ef526bcb4d17be3558eb921c98aed55d9e8a66664c4f"), looks := false }, kinds := [], alts := [], laidByText := true, laidKinds := [.data], laidTests := true, laidLooks := .later }
def FnSelOfUptoCardSaid : Prop := Claim7.holds Tryd.pinned (.plain (OpenSpec.upto fnSelOfSpec)) fnSelOfUptoCard

/-- THE SECOND FORM's CARD OF 'laws.FnSelRight'. -/
def fnSelRightUptoCard : Claim7 := { stood := { row := fnSelRightUptoRow, standIns := [], harness := (true, "4bf4e84433c762f56c51ef526bcb4d17be3558eb921c98aed55d9e8a66664c4f"), looks := false }, kinds := [], alts := [], laidByText := true, laidKinds := [.data], laidTests := true, laidLooks := .later }
def FnSelRightUptoCardSaid : Prop := Claim7.holds Tryd.pinned (.plain (OpenSpec.upto fnSelRightSpec)) fnSelRightUptoCard
end Rows
end Go.Proofs.YtbhnjnoblkfckabDoor
