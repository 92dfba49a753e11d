/-
  DERIVED. GIVEN WITH THE SEED: THE CARDS: each row of YtmeblmoinanciaaDoorRows.lean that lists a variable, with what it lists TIED to the program's text (the seventh form; the later family's looks); each row that meets fmt, with fmt's text TOLD by the authors' own Lean function (tested against real Go, not proved from fmt's source: count such statements apart). THE CARD IS WHAT COUNTS. Prove the row's statement (the work); the ties are given (YtmeblmoinanciaaDoorTie.lean); close each card by the builder's one call (the guide's Derived/Test/ToyasCard.lean, 'card_holds'). Laid BY PROGRAM, IN A SANDBOX (cutbox-door.mjs). By AI agents, Wed Nov 11 2026. No macro, syntax, notation, axiom, sorry.
-/
import Derived.Test.YtmeblmoinanciaaDoorRows
import GoSem.ClaimSeven
namespace Go.Proofs.YtmeblmoinanciaaDoor
namespace Rows

/-- THE TIED CARD OF 'laws.FnTok'. -/
def fnTokCard : Claim7 := { stood := { row := fnTokRow, standIns := [], harness := (true, "7ca920933bd9a63c4f505c1c7fc81b071597b30532449b74977bf96273b274f2"), looks := true }, kinds := [], alts := [], laidByText := true, laidKinds := [.data, .data, .pinned], laidTests := true, laidLooks := .later }
def FnTokCardSaid : Prop := Claim7.holds Tryd.pinned (.plain (OpenSpec.ofChange fnTokSpec)) fnTokCard

/-- THE TIED CARD OF 'laws.FnNumText'. -/
def fnNumTextCard : Claim7 := { stood := { row := fnNumTextRow, standIns := [], harness := (true, "7ca920933bd9a63c4f505c1c7fc81b071597b30532449b74977bf96273b274f2"), looks := true }, kinds := [], alts := [], laidByText := true, laidKinds := [.data, .data, .data, .sentinel, .sentinel, .data], laidTests := true, laidLooks := .later }
def FnNumTextCardSaid : Prop := Claim7.holds Tryd.pinned (.plain (OpenSpec.ofChange fnNumTextSpec)) fnNumTextCard

/-- THE TIED CARD OF 'laws.FnTxtTrim'. -/
def fnTxtTrimCard : Claim7 := { stood := { row := fnTxtTrimRow, standIns := [], harness := (true, "7ca920933bd9a63c4f505c1c7fc81b071597b30532449b74977bf96273b274f2"), looks := true }, kinds := [], alts := [], laidByText := true, laidKinds := [.data, .data, .pinned], laidTests := true, laidLooks := .later }
def FnTxtTrimCardSaid : Prop := Claim7.holds Tryd.pinned (.plain (OpenSpec.ofChange fnTxtTrimSpec)) fnTxtTrimCard

/-- THE TIED CARD OF 'laws.FnTxtLower'. -/
def fnTxtLowerCard : Claim7 := { stood := { row := fnTxtLowerRow, standIns := [], harness := (true, "7ca920933bd9a63c4f505c1c7fc81b071597b30532449b74977bf96273b274f2"), looks := true }, kinds := [], alts := [], laidByText := true, laidKinds := [.data], laidTests := true, laidLooks := .later }
def FnTxtLowerCardSaid : Prop := Claim7.holds Tryd.pinned (.plain (OpenSpec.ofChange fnTxtLowerSpec)) fnTxtLowerCard

/-- THE TIED CARD OF 'laws.FnExactTokOk'. -/
def fnExactTokOkCard : Claim7 := { stood := { row := fnExactTokOkRow, standIns := [], harness := (true, "7ca920933bd9a63c4f505c1c7fc81b071597b30532449b74977bf96273b274f2"), looks := true }, kinds := [], alts := [], laidByText := true, laidKinds := [.data], laidTests := true, laidLooks := .later }
def FnExactTokOkCardSaid : Prop := Claim7.holds Tryd.pinned (.plain (OpenSpec.ofChange fnExactTokOkSpec)) fnExactTokOkCard

/-- THE TIED CARD OF 'laws.FnExactNumText'. -/
def fnExactNumTextCard : Claim7 := { stood := { row := fnExactNumTextRow, standIns := [], harness := (true, "7ca920933bd9a63c4f505c1c7fc81b071597b30532449b74977bf96273b274f2"), looks := true }, kinds := [], alts := [], laidByText := true, laidKinds := [.data, .data, .data], laidTests := true, laidLooks := .later }
def FnExactNumTextCardSaid : Prop := Claim7.holds Tryd.pinned (.plain (OpenSpec.ofChange fnExactNumTextSpec)) fnExactNumTextCard

/-- THE TIED CARD OF 'laws.FnExactNumRead'. -/
def fnExactNumReadCard : Claim7 := { stood := { row := fnExactNumReadRow, standIns := [], harness := (true, "7ca920933bd9a63c4f505c1c7fc81b071597b30532449b74977bf96273b274f2"), looks := true }, kinds := [], alts := [], laidByText := true, laidKinds := [.data, .data, .data, .sentinel, .sentinel], laidTests := true, laidLooks := .later }
def FnExactNumReadCardSaid : Prop := Claim7.holds Tryd.pinned (.plain (OpenSpec.ofChange fnExactNumReadSpec)) fnExactNumReadCard

/-- THE TIED CARD OF 'laws.FnExactTxtLower'. -/
def fnExactTxtLowerCard : Claim7 := { stood := { row := fnExactTxtLowerRow, standIns := [], harness := (true, "7ca920933bd9a63c4f505c1c7fc81b071597b30532449b74977bf96273b274f2"), looks := true }, kinds := [], alts := [], laidByText := true, laidKinds := [.data], laidTests := true, laidLooks := .later }
def FnExactTxtLowerCardSaid : Prop := Claim7.holds Tryd.pinned (.plain (OpenSpec.ofChange fnExactTxtLowerSpec)) fnExactTxtLowerCard

/-- THE TIED CARD OF 'laws.FnExactTxtTrim'. -/
def fnExactTxtTrimCard : Claim7 := { stood := { row := fnExactTxtTrimRow, standIns := [], harness := (true, "7ca920933bd9a63c4f505c1c7fc81b071597b30532449b74977bf96273b274f2"), looks := true }, kinds := [], alts := [], laidByText := true, laidKinds := [.data, .pinned], laidTests := true, laidLooks := .later }
def FnExactTxtTrimCardSaid : Prop := Claim7.holds Tryd.pinned (.plain (OpenSpec.ofChange fnExactTxtTrimSpec)) fnExactTxtTrimCard

/-- THE SECOND FORM's CARD OF 'laws.FnTok'. -/
def fnTokUptoCard : Claim7 := { stood := { row := fnTokUptoRow, standIns := [], harness := (true, "7ca920933bd9a63c4f505c1c7fc81b071597b30532449b74977bf96273b274f2"), looks := true }, kinds := [], alts := [], laidByText := true, laidKinds := [.data, .data, .pinned], laidTests := true, laidLooks := .later }
def FnTokUptoCardSaid : Prop := Claim7.holds Tryd.pinned (.plain (OpenSpec.upto fnTokSpec)) fnTokUptoCard

/-- THE SECOND FORM's CARD OF 'laws.FnNumText'. -/
def fnNumTextUptoCard : Claim7 := { stood := { row := fnNumTextUptoRow, standIns := [], harness := (true, "7ca920933bd9a63c4f505c1c7fc81b071597b30532449b74977bf96273b274f2"), looks := true }, kinds := [], alts := [], laidByText := true, laidKinds := [.data, .data, .data, .sentinel, .sentinel, .data], laidTests := true, laidLooks := .later }
def FnNumTextUptoCardSaid : Prop := Claim7.holds Tryd.pinned (.plain (OpenSpec.upto fnNumTextSpec)) fnNumTextUptoCard

/-- THE SECOND FORM's CARD OF 'laws.FnTxtTrim'. -/
def fnTxtTrimUptoCard : Claim7 := { stood := { row := fnTxtTrimUptoRow, standIns := [], harness := (true, "7ca920933bd9a63c4f505c1c7fc81b071597b30532449b74977bf96273b274f2"), looks := true }, kinds := [], alts := [], laidByText := true, laidKinds := [.data, .data, .pinned], laidTests := true, laidLooks := .later }
def FnTxtTrimUptoCardSaid : Prop := Claim7.holds Tryd.pinned (.plain (OpenSpec.upto fnTxtTrimSpec)) fnTxtTrimUptoCard

/-- THE SECOND FORM's CARD OF 'laws.FnTxtLower'. -/
def fnTxtLowerUptoCard : Claim7 := { stood := { row := fnTxtLowerUptoRow, standIns := [], harness := (true, "7ca920933bd9a63c4f505c1c7fc81b071597b30532449b74977bf96273b274f2"), looks := true }, kinds := [], alts := [], laidByText := true, laidKinds := [.data], laidTests := true, laidLooks := .later }
def FnTxtLowerUptoCardSaid : Prop := Claim7.holds Tryd.pinned (.plain (OpenSpec.upto fnTxtLowerSpec)) fnTxtLowerUptoCard

/-- THE SECOND FORM's CARD OF 'laws.FnExactTokOk'. -/
def fnExactTokOkUptoCard : Claim7 := { stood := { row := fnExactTokOkUptoRow, standIns := [], harness := (true, "7ca920933bd9a63c4f505c1c7fc81b071597b30532449b74977bf96273b274f2"), looks := true }, kinds := [], alts := [], laidByText := true, laidKinds := [.data], laidTests := true, laidLooks := .later }
def FnExactTokOkUptoCardSaid : Prop := Claim7.holds Tryd.pinned (.plain (OpenSpec.upto fnExactTokOkSpec)) fnExactTokOkUptoCard

/-- THE SECOND FORM's CARD OF 'laws.FnExactNumText'. -/
def fnExactNumTextUptoCard : Claim7 := { stood := { row := fnExactNumTextUptoRow, standIns := [], harness := (true, "7ca920933bd9a63c4f505c1c7fc81b071597b30532449b74977bf96273b274f2"), looks := true }, kinds := [], alts := [], laidByText := true, laidKinds := [.data, .data, .data], laidTests := true, laidLooks := .later }
def FnExactNumTextUptoCardSaid : Prop := Claim7.holds Tryd.pinned (.plain (OpenSpec.upto fnExactNumTextSpec)) fnExactNumTextUptoCard

/-- THE SECOND FORM's CARD OF 'laws.FnExactNumRead'. -/
def fnExactNumReadUptoCard : Claim7 := { stood := { row := fnExactNumReadUptoRow, standIns := [], harness := (true, "7ca920933bd9a63c4f505c1c7fc81b071597b30532449b74977bf96273b274f2"), looks := true }, kinds := [], alts := [], laidByText := true, laidKinds := [.data, .data, .data, .sentinel, .sentinel], laidTests := true, laidLooks := .later }
def FnExactNumReadUptoCardSaid : Prop := Claim7.holds Tryd.pinned (.plain (OpenSpec.upto fnExactNumReadSpec)) fnExactNumReadUptoCard

/-- THE SECOND FORM's CARD OF 'laws.FnExactTxtLower'. -/
def fnExactTxtLowerUptoCard : Claim7 := { stood := { row := fnExactTxtLowerUptoRow, standIns := [], harness := (true, "7ca920933bd9a63c4f505c1c7fc81b071597b30532449b74977bf96273b274f2"), looks := true }, kinds := [], alts := [], laidByText := true, laidKinds := [.data], laidTests := true, laidLooks := .later }
def FnExactTxtLowerUptoCardSaid : Prop := Claim7.holds Tryd.pinned (.plain (OpenSpec.upto fnExactTxtLowerSpec)) fnExactTxtLowerUptoCard

/-- THE SECOND FORM's CARD OF 'laws.FnExactTxtTrim'. -/
def fnExactTxtTrimUptoCard : Claim7 := { stood := { row := fnExactTxtTrimUptoRow, standIns := [], harness := (true, "7ca920933bd9a63c4f505c1c7fc81b071597b30532449b74977bf96273b274f2"), looks := true }, kinds := [], alts := [], laidByText := true, laidKinds := [.data, .pinned], laidTests := true, laidLooks := .later }
def FnExactTxtTrimUptoCardSaid : Prop := Claim7.holds Tryd.pinned (.plain (OpenSpec.upto fnExactTxtTrimSpec)) fnExactTxtTrimUptoCard
end Rows
end Go.Proofs.YtmeblmoinanciaaDoor
