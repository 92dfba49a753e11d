/-
  DERIVED. GIVEN WITH THE SEED: THE CARDS: each row of YtiepobifbkleaaaDoorRows.lean that lists a variable, with what it lists TIED to the program's text (the seventh form; the later family's looks); each row that meets fmt, with fmt's text TOLD by the authors' own Lean function (tested against real Go, not proved from fmt's source: count such statements apart). THE CARD IS WHAT COUNTS. Prove the row's statement (the work); the ties are given (YtiepobifbkleaaaDoorTie.lean); close each card by the builder's one call (the guide's Derived/Test/ToyasCard.lean, 'card_holds'). Laid BY PROGRAM, IN A SANDBOX (cutbox-door.mjs). By AI agents, Wed Nov 11 2026. No macro, syntax, notation, axiom, sorry.
-/
import Derived.Test.YtiepobifbkleaaaDoorRows
import GoSem.ClaimSeven
namespace Go.Proofs.YtiepobifbkleaaaDoor
namespace Rows

/-- THE TIED CARD OF 'laws.FnExactKeyOk'. -/
def fnExactKeyOkCard : Claim7 := { stood := { row := fnExactKeyOkRow, standIns := [], harness := (true, "cbca759a706a11617a039ae2c7dab88392dadc62b5cc42e861d5ba3dd3c4fff5"), looks := false }, kinds := [], alts := [], laidByText := true, laidKinds := [.data], laidTests := true, laidLooks := .later }
def FnExactKeyOkCardSaid : Prop := Claim7.holds Tryd.pinned (.plain (OpenSpec.ofChange fnExactKeyOkSpec)) fnExactKeyOkCard

/-- THE TIED CARD OF 'laws.FnExactKeyText'. -/
def fnExactKeyTextCard : Claim7 := { stood := { row := fnExactKeyTextRow, standIns := [], harness := (true, "cbca759a706a11617a039ae2c7dab88392dadc62b5cc42e861d5ba3dd3c4fff5"), looks := false }, kinds := [], alts := [], laidByText := true, laidKinds := [.data, .data, .data], laidTests := true, laidLooks := .later }
def FnExactKeyTextCardSaid : Prop := Claim7.holds Tryd.pinned (.plain (OpenSpec.ofChange fnExactKeyTextSpec)) fnExactKeyTextCard

/-- THE TIED CARD OF 'laws.FnExactKeyAsk'. -/
def fnExactKeyAskCard : Claim7 := { stood := { row := fnExactKeyAskRow, standIns := [], harness := (true, "cbca759a706a11617a039ae2c7dab88392dadc62b5cc42e861d5ba3dd3c4fff5"), looks := false }, kinds := [], alts := [], laidByText := true, laidKinds := [.data, .data], laidTests := true, laidLooks := .later }
def FnExactKeyAskCardSaid : Prop := Claim7.holds Tryd.pinned (.plain (OpenSpec.ofChange fnExactKeyAskSpec)) fnExactKeyAskCard

/-- THE SECOND FORM's CARD OF 'laws.FnExactKeyOk'. -/
def fnExactKeyOkUptoCard : Claim7 := { stood := { row := fnExactKeyOkUptoRow, standIns := [], harness := (true, "cbca759a706a11617a039ae2c7dab88392dadc62b5cc42e861d5ba3dd3c4fff5"), looks := false }, kinds := [], alts := [], laidByText := true, laidKinds := [.data], laidTests := true, laidLooks := .later }
def FnExactKeyOkUptoCardSaid : Prop := Claim7.holds Tryd.pinned (.plain (OpenSpec.upto fnExactKeyOkSpec)) fnExactKeyOkUptoCard

/-- THE SECOND FORM's CARD OF 'laws.FnExactKeyText'. -/
def fnExactKeyTextUptoCard : Claim7 := { stood := { row := fnExactKeyTextUptoRow, standIns := [], harness := (true, "cbca759a706a11617a039ae2c7dab88392dadc62b5cc42e861d5ba3dd3c4fff5"), looks := false }, kinds := [], alts := [], laidByText := true, laidKinds := [.data, .data, .data], laidTests := true, laidLooks := .later }
def FnExactKeyTextUptoCardSaid : Prop := Claim7.holds Tryd.pinned (.plain (OpenSpec.upto fnExactKeyTextSpec)) fnExactKeyTextUptoCard

/-- THE SECOND FORM's CARD OF 'laws.FnExactKeyAsk'. -/
def fnExactKeyAskUptoCard : Claim7 := { stood := { row := fnExactKeyAskUptoRow, standIns := [], harness := (true, "cbca759a706a11617a039ae2c7dab88392dadc62b5cc42e861d5ba3dd3c4fff5"), looks := false }, kinds := [], alts := [], laidByText := true, laidKinds := [.data, .data], laidTests := true, laidLooks := .later }
def FnExactKeyAskUptoCardSaid : Prop := Claim7.holds Tryd.pinned (.plain (OpenSpec.upto fnExactKeyAskSpec)) fnExactKeyAskUptoCard
end Rows
end Go.Proofs.YtiepobifbkleaaaDoor
