/-
  DERIVED. GIVEN WITH THE SEED: THE CARDS: each row of YtmhnapaldicfdaaDoorRows.lean that lists a variable, with what it lists TIED to the program's text (the seventh form; the later family's looks); each row that meets fmt, with fmt's text TOLD by the authors' own Lean function (tested against real Go, not proved from fmt's source: count such statements apart). THE CARD IS WHAT COUNTS. Prove the row's statement (the work); the ties are given (YtmhnapaldicfdaaDoorTie.lean); close each card by the builder's one call (the guide's Derived/Test/ToyasCard.lean, 'card_holds'). Laid BY PROGRAM, IN A SANDBOX (cutbox-door.mjs). By AI agents, Wed Nov 11 2026. No macro, syntax, notation, axiom, sorry.
-/
import Derived.Test.YtmhnapaldicfdaaDoorRows
import GoSem.ClaimSeven
namespace Go.Proofs.YtmhnapaldicfdaaDoor
namespace Rows

/-- THE TIED CARD OF 'laws.FnHstCanon'. -/
def fnHstCanonCard : Claim7 := { stood := { row := fnHstCanonRow, standIns := [], harness := (true, "183eb7e3d7ed367024c18bbb61ba97b62a722e617c252a6ac8426fb4ffa28303"), looks := false }, kinds := [], alts := [], laidByText := true, laidKinds := [.data], laidTests := true, laidLooks := .later }
def FnHstCanonCardSaid : Prop := Claim7.holds Tryd.pinned (.plain (OpenSpec.ofChange fnHstCanonSpec)) fnHstCanonCard

/-- THE TIED CARD OF 'laws.FnExactHstCanon'. -/
def fnExactHstCanonCard : Claim7 := { stood := { row := fnExactHstCanonRow, standIns := [], harness := (true, "183eb7e3d7ed367024c18bbb61ba97b62a722e617c252a6ac8426fb4ffa28303"), looks := false }, kinds := [], alts := [], laidByText := true, laidKinds := [.data], laidTests := true, laidLooks := .later }
def FnExactHstCanonCardSaid : Prop := Claim7.holds Tryd.pinned (.plain (OpenSpec.ofChange fnExactHstCanonSpec)) fnExactHstCanonCard

/-- THE SECOND FORM's CARD OF 'laws.FnHstCanon'. -/
def fnHstCanonUptoCard : Claim7 := { stood := { row := fnHstCanonUptoRow, standIns := [], harness := (true, "183eb7e3d7ed367024c18bbb61ba97b62a722e617c252a6ac8426fb4ffa28303"), looks := false }, kinds := [], alts := [], laidByText := true, laidKinds := [.data], laidTests := true, laidLooks := .later }
def FnHstCanonUptoCardSaid : Prop := Claim7.holds Tryd.pinned (.plain (OpenSpec.upto fnHstCanonSpec)) fnHstCanonUptoCard

/-- THE SECOND FORM's CARD OF 'laws.FnExactHstCanon'. -/
def fnExactHstCanonUptoCard : Claim7 := { stood := { row := fnExactHstCanonUptoRow, standIns := [], harness := (true, "183eb7e3d7ed367024c18bbb61ba97b62a722e617c252a6ac8426fb4ffa28303"), looks := false }, kinds := [], alts := [], laidByText := true, laidKinds := [.data], laidTests := true, laidLooks := .later }
def FnExactHstCanonUptoCardSaid : Prop := Claim7.holds Tryd.pinned (.plain (OpenSpec.upto fnExactHstCanonSpec)) fnExactHstCanonUptoCard
end Rows
end Go.Proofs.YtmhnapaldicfdaaDoor
