/-
  DERIVED. GIVEN WITH THE SEED: THE CARDS: each row of YtlfcamapjeldjaaGreatDoorRows.lean that lists a variable, with what it lists TIED to the program's text (the seventh form; the later family's looks); each row that meets fmt, with fmt's text TOLD by the authors' own Lean function (tested against real Go, not proved from fmt's source: count such statements apart). THE CARD IS WHAT COUNTS. Prove the row's statement (the work); the ties are given (YtlfcamapjeldjaaGreatDoorTie.lean); close each card by the builder's one call (the guide's Derived/Test/ToyasCard.lean, 'card_holds'). Laid BY PROGRAM, IN A SANDBOX (cutbox-door.mjs). By AI agents, Wed Nov 11 2026. No macro, syntax, notation, axiom, sorry.
-/
import Derived.Test.YtlfcamapjeldjaaGreatDoorRows
import GoSem.ClaimSeven
namespace Go.Proofs.YtlfcamapjeldjaaGreatDoor
namespace Rows

/-- THE TIED CARD OF 'laws.FnCodOf'. -/
def fnCodOfCard : Claim7 := { stood := { row := fnCodOfRow, standIns := [], harness := (true, "733031ea205663910dcd149e527c4438bea275b362decaaa6b9d888f544aca01"), looks := true }, kinds := [], alts := [], laidByText := true, laidKinds := [.data, .data, .data, .data, .sentinel, .sentinel, .data, .data, .pinned], laidTests := true, laidLooks := .later }
def FnCodOfCardSaid : Prop := Claim7.holds Tryz.pinned (.plain (OpenSpec.ofChange fnCodOfSpec)) fnCodOfCard

/-- THE TIED CARD OF 'laws.FnExactCodOf'. -/
def fnExactCodOfCard : Claim7 := { stood := { row := fnExactCodOfRow, standIns := [], harness := (true, "733031ea205663910dcd149e527c4438bea275b362decaaa6b9d888f544aca01"), looks := true }, kinds := [], alts := [], laidByText := true, laidKinds := [.data, .data, .data, .data, .sentinel, .sentinel, .data, .data, .pinned], laidTests := true, laidLooks := .later }
def FnExactCodOfCardSaid : Prop := Claim7.holds Tryz.pinned (.plain (OpenSpec.ofChange fnExactCodOfSpec)) fnExactCodOfCard

/-- THE SECOND FORM's CARD OF 'laws.FnCodOf'. -/
def fnCodOfUptoCard : Claim7 := { stood := { row := fnCodOfUptoRow, standIns := [], harness := (true, "733031ea205663910dcd149e527c4438bea275b362decaaa6b9d888f544aca01"), looks := true }, kinds := [], alts := [], laidByText := true, laidKinds := [.data, .data, .data, .data, .sentinel, .sentinel, .data, .data, .pinned], laidTests := true, laidLooks := .later }
def FnCodOfUptoCardSaid : Prop := Claim7.holds Tryz.pinned (.plain (OpenSpec.upto fnCodOfSpec)) fnCodOfUptoCard

/-- THE SECOND FORM's CARD OF 'laws.FnExactCodOf'. -/
def fnExactCodOfUptoCard : Claim7 := { stood := { row := fnExactCodOfUptoRow, standIns := [], harness := (true, "733031ea205663910dcd149e527c4438bea275b362decaaa6b9d888f544aca01"), looks := true }, kinds := [], alts := [], laidByText := true, laidKinds := [.data, .data, .data, .data, .sentinel, .sentinel, .data, .data, .pinned], laidTests := true, laidLooks := .later }
def FnExactCodOfUptoCardSaid : Prop := Claim7.holds Tryz.pinned (.plain (OpenSpec.upto fnExactCodOfSpec)) fnExactCodOfUptoCard
end Rows
end Go.Proofs.YtlfcamapjeldjaaGreatDoor
