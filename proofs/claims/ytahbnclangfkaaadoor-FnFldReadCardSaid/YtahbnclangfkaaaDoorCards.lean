/-
  DERIVED. GIVEN WITH THE SEED: THE CARDS: each row of YtahbnclangfkaaaDoorRows.lean that lists a variable, with what it lists TIED to the program's text (the seventh form; the later family's looks); each row that meets fmt, with fmt's text TOLD by the authors' own Lean function (tested against real Go, not proved from fmt's source: count such statements apart). THE CARD IS WHAT COUNTS. Prove the row's statement (the work); the ties are given (YtahbnclangfkaaaDoorTie.lean); close each card by the builder's one call (the guide's Derived/Test/ToyasCard.lean, 'card_holds'). Laid BY PROGRAM, IN A SANDBOX (cutbox-door.mjs). By AI agents, Wed Nov 11 2026. No macro, syntax, notation, axiom, sorry.
-/
import Derived.Test.YtahbnclangfkaaaDoorRows
import GoSem.ClaimSeven
namespace Go.Proofs.YtahbnclangfkaaaDoor
namespace Rows

/-- THE TIED CARD OF 'laws.FnFldText'. -/
def fnFldTextCard : Claim7 := { stood := { row := fnFldTextRow, standIns := [], harness := (true, "e7d8a4c26f2516d7dff4b493187b1a2a69b734a9a694aa6feec08533064c6dc0"), looks := false }, kinds := [], alts := [], laidByText := true, laidKinds := [.data, .data, .pinned], laidTests := true, laidLooks := .later }
def FnFldTextCardSaid : Prop := Claim7.holds Tryd.pinned (.plain (OpenSpec.ofChange fnFldTextSpec)) fnFldTextCard

/-- THE TIED CARD OF 'laws.FnFldRead'. -/
def fnFldReadCard : Claim7 := { stood := { row := fnFldReadRow, standIns := [], harness := (true, "e7d8a4c26f2516d7dff4b493187b1a2a69b734a9a694aa6feec08533064c6dc0"), looks := false }, kinds := [], alts := [], laidByText := true, laidKinds := [.data, .data, .pinned], laidTests := true, laidLooks := .later }
def FnFldReadCardSaid : Prop := Claim7.holds Tryd.pinned (.plain (OpenSpec.ofChange fnFldReadSpec)) fnFldReadCard

/-- THE TIED CARD OF 'laws.FnFldAll'. -/
def fnFldAllCard : Claim7 := { stood := { row := fnFldAllRow, standIns := [], harness := (true, "e7d8a4c26f2516d7dff4b493187b1a2a69b734a9a694aa6feec08533064c6dc0"), looks := false }, kinds := [], alts := [], laidByText := true, laidKinds := [.data], laidTests := true, laidLooks := .later }
def FnFldAllCardSaid : Prop := Claim7.holds Tryd.pinned (.plain (OpenSpec.ofChange fnFldAllSpec)) fnFldAllCard

/-- THE TIED CARD OF 'laws.FnExactFldOk'. -/
def fnExactFldOkCard : Claim7 := { stood := { row := fnExactFldOkRow, standIns := [], harness := (true, "e7d8a4c26f2516d7dff4b493187b1a2a69b734a9a694aa6feec08533064c6dc0"), looks := false }, kinds := [], alts := [], laidByText := true, laidKinds := [.data, .data, .pinned], laidTests := true, laidLooks := .later }
def FnExactFldOkCardSaid : Prop := Claim7.holds Tryd.pinned (.plain (OpenSpec.ofChange fnExactFldOkSpec)) fnExactFldOkCard

/-- THE TIED CARD OF 'laws.FnExactFldText'. -/
def fnExactFldTextCard : Claim7 := { stood := { row := fnExactFldTextRow, standIns := [], harness := (true, "e7d8a4c26f2516d7dff4b493187b1a2a69b734a9a694aa6feec08533064c6dc0"), looks := false }, kinds := [], alts := [], laidByText := true, laidKinds := [.data, .data, .pinned], laidTests := true, laidLooks := .later }
def FnExactFldTextCardSaid : Prop := Claim7.holds Tryd.pinned (.plain (OpenSpec.ofChange fnExactFldTextSpec)) fnExactFldTextCard

/-- THE TIED CARD OF 'laws.FnExactFldRead'. -/
def fnExactFldReadCard : Claim7 := { stood := { row := fnExactFldReadRow, standIns := [], harness := (true, "e7d8a4c26f2516d7dff4b493187b1a2a69b734a9a694aa6feec08533064c6dc0"), looks := false }, kinds := [], alts := [], laidByText := true, laidKinds := [.data, .data, .pinned], laidTests := true, laidLooks := .later }
def FnExactFldReadCardSaid : Prop := Claim7.holds Tryd.pinned (.plain (OpenSpec.ofChange fnExactFldReadSpec)) fnExactFldReadCard

/-- THE SECOND FORM's CARD OF 'laws.FnFldText'. -/
def fnFldTextUptoCard : Claim7 := { stood := { row := fnFldTextUptoRow, standIns := [], harness := (true, "e7d8a4c26f2516d7dff4b493187b1a2a69b734a9a694aa6feec08533064c6dc0"), looks := false }, kinds := [], alts := [], laidByText := true, laidKinds := [.data, .data, .pinned], laidTests := true, laidLooks := .later }
def FnFldTextUptoCardSaid : Prop := Claim7.holds Tryd.pinned (.plain (OpenSpec.upto fnFldTextSpec)) fnFldTextUptoCard

/-- THE SECOND FORM's CARD OF 'laws.FnFldRead'. -/
def fnFldReadUptoCard : Claim7 := { stood := { row := fnFldReadUptoRow, standIns := [], harness := (true, "e7d8a4c26f2516d7dff4b493187b1a2a69b734a9a694aa6feec08533064c6dc0"), looks := false }, kinds := [], alts := [], laidByText := true, laidKinds := [.data, .data, .pinned], laidTests := true, laidLooks := .later }
def FnFldReadUptoCardSaid : Prop := Claim7.holds Tryd.pinned (.plain (OpenSpec.upto fnFldReadSpec)) fnFldReadUptoCard

/-- THE SECOND FORM's CARD OF 'laws.FnFldAll'. -/
def fnFldAllUptoCard : Claim7 := { stood := { row := fnFldAllUptoRow, standIns := [], harness := (true, "e7d8a4c26f2516d7dff4b493187b1a2a69b734a9a694aa6feec08533064c6dc0"), looks := false }, kinds := [], alts := [], laidByText := true, laidKinds := [.data], laidTests := true, laidLooks := .later }
def FnFldAllUptoCardSaid : Prop := Claim7.holds Tryd.pinned (.plain (OpenSpec.upto fnFldAllSpec)) fnFldAllUptoCard

/-- THE SECOND FORM's CARD OF 'laws.FnExactFldOk'. -/
def fnExactFldOkUptoCard : Claim7 := { stood := { row := fnExactFldOkUptoRow, standIns := [], harness := (true, "e7d8a4c26f2516d7dff4b493187b1a2a69b734a9a694aa6feec08533064c6dc0"), looks := false }, kinds := [], alts := [], laidByText := true, laidKinds := [.data, .data, .pinned], laidTests := true, laidLooks := .later }
def FnExactFldOkUptoCardSaid : Prop := Claim7.holds Tryd.pinned (.plain (OpenSpec.upto fnExactFldOkSpec)) fnExactFldOkUptoCard

/-- THE SECOND FORM's CARD OF 'laws.FnExactFldText'. -/
def fnExactFldTextUptoCard : Claim7 := { stood := { row := fnExactFldTextUptoRow, standIns := [], harness := (true, "e7d8a4c26f2516d7dff4b493187b1a2a69b734a9a694aa6feec08533064c6dc0"), looks := false }, kinds := [], alts := [], laidByText := true, laidKinds := [.data, .data, .pinned], laidTests := true, laidLooks := .later }
def FnExactFldTextUptoCardSaid : Prop := Claim7.holds Tryd.pinned (.plain (OpenSpec.upto fnExactFldTextSpec)) fnExactFldTextUptoCard

/-- THE SECOND FORM's CARD OF 'laws.FnExactFldRead'. -/
def fnExactFldReadUptoCard : Claim7 := { stood := { row := fnExactFldReadUptoRow, standIns := [], harness := (true, "e7d8a4c26f2516d7dff4b493187b1a2a69b734a9a694aa6feec08533064c6dc0"), looks := false }, kinds := [], alts := [], laidByText := true, laidKinds := [.data, .data, .pinned], laidTests := true, laidLooks := .later }
def FnExactFldReadUptoCardSaid : Prop := Claim7.holds Tryd.pinned (.plain (OpenSpec.upto fnExactFldReadSpec)) fnExactFldReadUptoCard
end Rows
end Go.Proofs.YtahbnclangfkaaaDoor
