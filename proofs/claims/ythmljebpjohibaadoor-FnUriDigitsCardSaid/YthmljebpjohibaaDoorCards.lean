/-
  DERIVED. GIVEN WITH THE SEED: THE CARDS: each row of YthmljebpjohibaaDoorRows.lean that lists a variable, with what it lists TIED to the program's text (the seventh form; the later family's looks); each row that meets fmt, with fmt's text TOLD by the authors' own Lean function (tested against real Go, not proved from fmt's source: count such statements apart). THE CARD IS WHAT COUNTS. Prove the row's statement (the work); the ties are given (YthmljebpjohibaaDoorTie.lean); close each card by the builder's one call (the guide's Derived/Test/ToyasCard.lean, 'card_holds'). Laid BY PROGRAM, IN A SANDBOX (cutbox-door.mjs). By AI agents, Wed Nov 11 2026. No macro, syntax, notation, axiom, sorry.
-/
import Derived.Test.YthmljebpjohibaaDoorRows
import GoSem.ClaimSeven
namespace Go.Proofs.YthmljebpjohibaaDoor
namespace Rows

/-- THE TIED CARD OF 'laws.FnTxtTrim'. -/
def fnTxtTrimCard : Claim7 := { stood := { row := fnTxtTrimRow, standIns := [], harness := (true, "f120a31398302b22b9ca56e46881f30502cfb0fa2cba358d60404ef82658a6db"), looks := false }, kinds := [], alts := [], laidByText := true, laidKinds := [.data, .data, .pinned], laidTests := true, laidLooks := .later }
def FnTxtTrimCardSaid : Prop := Claim7.holds Tryd.pinned (.plain (OpenSpec.ofChange fnTxtTrimSpec)) fnTxtTrimCard

/-- THE TIED CARD OF 'laws.FnUriCanon'. -/
def fnUriCanonCard : Claim7 := { stood := { row := fnUriCanonRow, standIns := [], harness := (true, "f120a31398302b22b9ca56e46881f30502cfb0fa2cba358d60404ef82658a6db"), looks := false }, kinds := [], alts := [], laidByText := true, laidKinds := [.data], laidTests := true, laidLooks := .later }
def FnUriCanonCardSaid : Prop := Claim7.holds Tryd.pinned (.plain (OpenSpec.ofChange fnUriCanonSpec)) fnUriCanonCard

/-- THE TIED CARD OF 'laws.FnUriSame'. -/
def fnUriSameCard : Claim7 := { stood := { row := fnUriSameRow, standIns := [], harness := (true, "f120a31398302b22b9ca56e46881f30502cfb0fa2cba358d60404ef82658a6db"), looks := false }, kinds := [], alts := [], laidByText := true, laidKinds := [.data], laidTests := true, laidLooks := .later }
def FnUriSameCardSaid : Prop := Claim7.holds Tryd.pinned (.plain (OpenSpec.ofChange fnUriSameSpec)) fnUriSameCard

/-- THE TIED CARD OF 'laws.FnUriUnder'. -/
def fnUriUnderCard : Claim7 := { stood := { row := fnUriUnderRow, standIns := [], harness := (true, "f120a31398302b22b9ca56e46881f30502cfb0fa2cba358d60404ef82658a6db"), looks := false }, kinds := [], alts := [], laidByText := true, laidKinds := [.data], laidTests := true, laidLooks := .later }
def FnUriUnderCardSaid : Prop := Claim7.holds Tryd.pinned (.plain (OpenSpec.ofChange fnUriUnderSpec)) fnUriUnderCard

/-- THE TIED CARD OF 'laws.FnUriPath'. -/
def fnUriPathCard : Claim7 := { stood := { row := fnUriPathRow, standIns := [], harness := (true, "f120a31398302b22b9ca56e46881f30502cfb0fa2cba358d60404ef82658a6db"), looks := false }, kinds := [], alts := [], laidByText := true, laidKinds := [.data], laidTests := true, laidLooks := .later }
def FnUriPathCardSaid : Prop := Claim7.holds Tryd.pinned (.plain (OpenSpec.ofChange fnUriPathSpec)) fnUriPathCard

/-- THE TIED CARD OF 'laws.FnUriDigits'. -/
def fnUriDigitsCard : Claim7 := { stood := { row := fnUriDigitsRow, standIns := [], harness := (true, "f120a31398302b22b9ca56e46881f30502cfb0fa2cba358d60404ef82658a6db"), looks := false }, kinds := [], alts := [], laidByText := true, laidKinds := [.data], laidTests := true, laidLooks := .later }
def FnUriDigitsCardSaid : Prop := Claim7.holds Tryd.pinned (.plain (OpenSpec.ofChange fnUriDigitsSpec)) fnUriDigitsCard

/-- THE TIED CARD OF 'laws.FnExactUriCanon'. -/
def fnExactUriCanonCard : Claim7 := { stood := { row := fnExactUriCanonRow, standIns := [], harness := (true, "f120a31398302b22b9ca56e46881f30502cfb0fa2cba358d60404ef82658a6db"), looks := false }, kinds := [], alts := [], laidByText := true, laidKinds := [.data], laidTests := true, laidLooks := .later }
def FnExactUriCanonCardSaid : Prop := Claim7.holds Tryd.pinned (.plain (OpenSpec.ofChange fnExactUriCanonSpec)) fnExactUriCanonCard

/-- THE SECOND FORM's CARD OF 'laws.FnTxtTrim'. -/
def fnTxtTrimUptoCard : Claim7 := { stood := { row := fnTxtTrimUptoRow, standIns := [], harness := (true, "f120a31398302b22b9ca56e46881f30502cfb0fa2cba358d60404ef82658a6db"), looks := false }, kinds := [], alts := [], laidByText := true, laidKinds := [.data, .data, .pinned], laidTests := true, laidLooks := .later }
def FnTxtTrimUptoCardSaid : Prop := Claim7.holds Tryd.pinned (.plain (OpenSpec.upto fnTxtTrimSpec)) fnTxtTrimUptoCard

/-- THE SECOND FORM's CARD OF 'laws.FnUriCanon'. -/
def fnUriCanonUptoCard : Claim7 := { stood := { row := fnUriCanonUptoRow, standIns := [], harness := (true, "f120a31398302b22b9ca56e46881f30502cfb0fa2cba358d60404ef82658a6db"), looks := false }, kinds := [], alts := [], laidByText := true, laidKinds := [.data], laidTests := true, laidLooks := .later }
def FnUriCanonUptoCardSaid : Prop := Claim7.holds Tryd.pinned (.plain (OpenSpec.upto fnUriCanonSpec)) fnUriCanonUptoCard

/-- THE SECOND FORM's CARD OF 'laws.FnUriSame'. -/
def fnUriSameUptoCard : Claim7 := { stood := { row := fnUriSameUptoRow, standIns := [], harness := (true, "f120a31398302b22b9ca56e46881f30502cfb0fa2cba358d60404ef82658a6db"), looks := false }, kinds := [], alts := [], laidByText := true, laidKinds := [.data], laidTests := true, laidLooks := .later }
def FnUriSameUptoCardSaid : Prop := Claim7.holds Tryd.pinned (.plain (OpenSpec.upto fnUriSameSpec)) fnUriSameUptoCard

/-- THE SECOND FORM's CARD OF 'laws.FnUriUnder'. -/
def fnUriUnderUptoCard : Claim7 := { stood := { row := fnUriUnderUptoRow, standIns := [], harness := (true, "f120a31398302b22b9ca56e46881f30502cfb0fa2cba358d60404ef82658a6db"), looks := false }, kinds := [], alts := [], laidByText := true, laidKinds := [.data], laidTests := true, laidLooks := .later }
def FnUriUnderUptoCardSaid : Prop := Claim7.holds Tryd.pinned (.plain (OpenSpec.upto fnUriUnderSpec)) fnUriUnderUptoCard

/-- THE SECOND FORM's CARD OF 'laws.FnUriPath'. -/
def fnUriPathUptoCard : Claim7 := { stood := { row := fnUriPathUptoRow, standIns := [], harness := (true, "f120a31398302b22b9ca56e46881f30502cfb0fa2cba358d60404ef82658a6db"), looks := false }, kinds := [], alts := [], laidByText := true, laidKinds := [.data], laidTests := true, laidLooks := .later }
def FnUriPathUptoCardSaid : Prop := Claim7.holds Tryd.pinned (.plain (OpenSpec.upto fnUriPathSpec)) fnUriPathUptoCard

/-- THE SECOND FORM's CARD OF 'laws.FnUriDigits'. -/
def fnUriDigitsUptoCard : Claim7 := { stood := { row := fnUriDigitsUptoRow, standIns := [], harness := (true, "f120a31398302b22b9ca56e46881f30502cfb0fa2cba358d60404ef82658a6db"), looks := false }, kinds := [], alts := [], laidByText := true, laidKinds := [.data], laidTests := true, laidLooks := .later }
def FnUriDigitsUptoCardSaid : Prop := Claim7.holds Tryd.pinned (.plain (OpenSpec.upto fnUriDigitsSpec)) fnUriDigitsUptoCard

/-- THE SECOND FORM's CARD OF 'laws.FnExactUriCanon'. -/
def fnExactUriCanonUptoCard : Claim7 := { stood := { row := fnExactUriCanonUptoRow, standIns := [], harness := (true, "f120a31398302b22b9ca56e46881f30502cfb0fa2cba358d60404ef82658a6db"), looks := false }, kinds := [], alts := [], laidByText := true, laidKinds := [.data], laidTests := true, laidLooks := .later }
def FnExactUriCanonUptoCardSaid : Prop := Claim7.holds Tryd.pinned (.plain (OpenSpec.upto fnExactUriCanonSpec)) fnExactUriCanonUptoCard
end Rows
end Go.Proofs.YthmljebpjohibaaDoor
