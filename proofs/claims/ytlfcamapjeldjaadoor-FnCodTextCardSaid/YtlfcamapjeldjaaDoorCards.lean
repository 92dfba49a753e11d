/-
  DERIVED. GIVEN WITH THE SEED: THE CARDS: each row of YtlfcamapjeldjaaDoorRows.lean that lists a variable, with what it lists TIED to the program's text (the seventh form; the later family's looks); each row that meets fmt, with fmt's text TOLD by the authors' own Lean function (tested against real Go, not proved from fmt's source: count such statements apart). THE CARD IS WHAT COUNTS. Prove the row's statement (the work); the ties are given (YtlfcamapjeldjaaDoorTie.lean); close each card by the builder's one call (the guide's Derived/Test/ToyasCard.lean, 'card_holds'). Laid BY PROGRAM, IN A SANDBOX (cutbox-door.mjs). By AI agents, Wed Nov 11 2026. No macro, syntax, notation, axiom, sorry.
-/
import Derived.Test.YtlfcamapjeldjaaDoorRows
import GoSem.ClaimSeven
namespace Go.Proofs.YtlfcamapjeldjaaDoor
namespace Rows

/-- THE TIED CARD OF 'laws.FnCodText'. -/
def fnCodTextCard : Claim7 := { stood := { row := fnCodTextRow, standIns := [], harness := (true, "521bbd3aa25c020d118b1b6066c03ddf6de11b633f5ba804f10ae6ed7b0d4ccc"), looks := true }, kinds := [], alts := [], laidByText := true, laidKinds := [.data, .data, .data, .data, .sentinel, .sentinel, .data, .data, .pinned], laidTests := true, laidLooks := .later }
def FnCodTextCardSaid : Prop := Claim7.holds Tryd.pinned (.plain (OpenSpec.ofChange fnCodTextSpec)) fnCodTextCard

/-- THE TIED CARD OF 'laws.FnCodIn'. -/
def fnCodInCard : Claim7 := { stood := { row := fnCodInRow, standIns := [], harness := (true, "521bbd3aa25c020d118b1b6066c03ddf6de11b633f5ba804f10ae6ed7b0d4ccc"), looks := true }, kinds := [], alts := [], laidByText := true, laidKinds := [.data], laidTests := true, laidLooks := .later }
def FnCodInCardSaid : Prop := Claim7.holds Tryd.pinned (.plain (OpenSpec.ofChange fnCodInSpec)) fnCodInCard

/-- THE TIED CARD OF 'laws.FnCodQ'. -/
def fnCodQCard : Claim7 := { stood := { row := fnCodQRow, standIns := [], harness := (true, "521bbd3aa25c020d118b1b6066c03ddf6de11b633f5ba804f10ae6ed7b0d4ccc"), looks := true }, kinds := [], alts := [], laidByText := true, laidKinds := [.data, .data, .data, .sentinel, .sentinel, .data], laidTests := true, laidLooks := .later }
def FnCodQCardSaid : Prop := Claim7.holds Tryd.pinned (.plain (OpenSpec.ofChange fnCodQSpec)) fnCodQCard

/-- THE TIED CARD OF 'laws.FnCodStar'. -/
def fnCodStarCard : Claim7 := { stood := { row := fnCodStarRow, standIns := [], harness := (true, "521bbd3aa25c020d118b1b6066c03ddf6de11b633f5ba804f10ae6ed7b0d4ccc"), looks := true }, kinds := [], alts := [], laidByText := true, laidKinds := [.data, .data, .data, .data, .sentinel, .sentinel, .data, .data, .pinned], laidTests := true, laidLooks := .later }
def FnCodStarCardSaid : Prop := Claim7.holds Tryd.pinned (.plain (OpenSpec.ofChange fnCodStarSpec)) fnCodStarCard

/-- THE TIED CARD OF 'laws.FnExactCodQ'. -/
def fnExactCodQCard : Claim7 := { stood := { row := fnExactCodQRow, standIns := [], harness := (true, "521bbd3aa25c020d118b1b6066c03ddf6de11b633f5ba804f10ae6ed7b0d4ccc"), looks := true }, kinds := [], alts := [], laidByText := true, laidKinds := [.data, .data, .data, .sentinel, .sentinel], laidTests := true, laidLooks := .later }
def FnExactCodQCardSaid : Prop := Claim7.holds Tryd.pinned (.plain (OpenSpec.ofChange fnExactCodQSpec)) fnExactCodQCard

/-- THE TIED CARD OF 'laws.FnExactCodParse'. -/
def fnExactCodParseCard : Claim7 := { stood := { row := fnExactCodParseRow, standIns := [], harness := (true, "521bbd3aa25c020d118b1b6066c03ddf6de11b633f5ba804f10ae6ed7b0d4ccc"), looks := true }, kinds := [], alts := [], laidByText := true, laidKinds := [.data, .data, .data, .data, .sentinel, .sentinel, .data, .data, .pinned], laidTests := true, laidLooks := .later }
def FnExactCodParseCardSaid : Prop := Claim7.holds Tryd.pinned (.plain (OpenSpec.ofChange fnExactCodParseSpec)) fnExactCodParseCard

/-- THE TIED CARD OF 'laws.FnExactCodText'. -/
def fnExactCodTextCard : Claim7 := { stood := { row := fnExactCodTextRow, standIns := [], harness := (true, "521bbd3aa25c020d118b1b6066c03ddf6de11b633f5ba804f10ae6ed7b0d4ccc"), looks := true }, kinds := [], alts := [], laidByText := true, laidKinds := [.data], laidTests := true, laidLooks := .later }
def FnExactCodTextCardSaid : Prop := Claim7.holds Tryd.pinned (.plain (OpenSpec.ofChange fnExactCodTextSpec)) fnExactCodTextCard

/-- THE SECOND FORM's CARD OF 'laws.FnCodText'. -/
def fnCodTextUptoCard : Claim7 := { stood := { row := fnCodTextUptoRow, standIns := [], harness := (true, "521bbd3aa25c020d118b1b6066c03ddf6de11b633f5ba804f10ae6ed7b0d4ccc"), looks := true }, kinds := [], alts := [], laidByText := true, laidKinds := [.data, .data, .data, .data, .sentinel, .sentinel, .data, .data, .pinned], laidTests := true, laidLooks := .later }
def FnCodTextUptoCardSaid : Prop := Claim7.holds Tryd.pinned (.plain (OpenSpec.upto fnCodTextSpec)) fnCodTextUptoCard

/-- THE SECOND FORM's CARD OF 'laws.FnCodIn'. -/
def fnCodInUptoCard : Claim7 := { stood := { row := fnCodInUptoRow, standIns := [], harness := (true, "521bbd3aa25c020d118b1b6066c03ddf6de11b633f5ba804f10ae6ed7b0d4ccc"), looks := true }, kinds := [], alts := [], laidByText := true, laidKinds := [.data], laidTests := true, laidLooks := .later }
def FnCodInUptoCardSaid : Prop := Claim7.holds Tryd.pinned (.plain (OpenSpec.upto fnCodInSpec)) fnCodInUptoCard

/-- THE SECOND FORM's CARD OF 'laws.FnCodQ'. -/
def fnCodQUptoCard : Claim7 := { stood := { row := fnCodQUptoRow, standIns := [], harness := (true, "521bbd3aa25c020d118b1b6066c03ddf6de11b633f5ba804f10ae6ed7b0d4ccc"), looks := true }, kinds := [], alts := [], laidByText := true, laidKinds := [.data, .data, .data, .sentinel, .sentinel, .data], laidTests := true, laidLooks := .later }
def FnCodQUptoCardSaid : Prop := Claim7.holds Tryd.pinned (.plain (OpenSpec.upto fnCodQSpec)) fnCodQUptoCard

/-- THE SECOND FORM's CARD OF 'laws.FnCodStar'. -/
def fnCodStarUptoCard : Claim7 := { stood := { row := fnCodStarUptoRow, standIns := [], harness := (true, "521bbd3aa25c020d118b1b6066c03ddf6de11b633f5ba804f10ae6ed7b0d4ccc"), looks := true }, kinds := [], alts := [], laidByText := true, laidKinds := [.data, .data, .data, .data, .sentinel, .sentinel, .data, .data, .pinned], laidTests := true, laidLooks := .later }
def FnCodStarUptoCardSaid : Prop := Claim7.holds Tryd.pinned (.plain (OpenSpec.upto fnCodStarSpec)) fnCodStarUptoCard

/-- THE SECOND FORM's CARD OF 'laws.FnExactCodQ'. -/
def fnExactCodQUptoCard : Claim7 := { stood := { row := fnExactCodQUptoRow, standIns := [], harness := (true, "521bbd3aa25c020d118b1b6066c03ddf6de11b633f5ba804f10ae6ed7b0d4ccc"), looks := true }, kinds := [], alts := [], laidByText := true, laidKinds := [.data, .data, .data, .sentinel, .sentinel], laidTests := true, laidLooks := .later }
def FnExactCodQUptoCardSaid : Prop := Claim7.holds Tryd.pinned (.plain (OpenSpec.upto fnExactCodQSpec)) fnExactCodQUptoCard

/-- THE SECOND FORM's CARD OF 'laws.FnExactCodParse'. -/
def fnExactCodParseUptoCard : Claim7 := { stood := { row := fnExactCodParseUptoRow, standIns := [], harness := (true, "521bbd3aa25c020d118b1b6066c03ddf6de11b633f5ba804f10ae6ed7b0d4ccc"), looks := true }, kinds := [], alts := [], laidByText := true, laidKinds := [.data, .data, .data, .data, .sentinel, .sentinel, .data, .data, .pinned], laidTests := true, laidLooks := .later }
def FnExactCodParseUptoCardSaid : Prop := Claim7.holds Tryd.pinned (.plain (OpenSpec.upto fnExactCodParseSpec)) fnExactCodParseUptoCard

/-- THE SECOND FORM's CARD OF 'laws.FnExactCodText'. -/
def fnExactCodTextUptoCard : Claim7 := { stood := { row := fnExactCodTextUptoRow, standIns := [], harness := (true, "521bbd3aa25c020d118b1b6066c03ddf6de11b633f5ba804f10ae6ed7b0d4ccc"), looks := true }, kinds := [], alts := [], laidByText := true, laidKinds := [.data], laidTests := true, laidLooks := .later }
def FnExactCodTextUptoCardSaid : Prop := Claim7.holds Tryd.pinned (.plain (OpenSpec.upto fnExactCodTextSpec)) fnExactCodTextUptoCard
end Rows
end Go.Proofs.YtlfcamapjeldjaaDoor
