/-
  DERIVED. GIVEN WITH THE SEED: THE CARDS: each row of YtjhgibmeokghmaaDoorRows.lean that lists a variable, with what it lists TIED to the program's text (the seventh form; the later family's looks); each row that meets fmt, with fmt's text TOLD by the authors' own Lean function (tested against real Go, not proved from fmt's source: count such statements apart). THE CARD IS WHAT COUNTS. Prove the row's statement (the work); the ties are given (YtjhgibmeokghmaaDoorTie.lean); close each card by the builder's one call (the guide's Derived/Test/ToyasCard.lean, 'card_holds'). Laid BY PROGRAM, IN A SANDBOX (cutbox-door.mjs). By AI agents, Wed Nov 11 2026. No macro, syntax, notation, axiom, sorry.
-/
import Derived.Test.YtjhgibmeokghmaaDoorRows
import GoSem.ClaimSeven
namespace Go.Proofs.YtjhgibmeokghmaaDoor
namespace Rows

/-- THE TIED CARD OF 'laws.FnFrsFresh'. -/
def fnFrsFreshCard : Claim7 := { stood := { row := fnFrsFreshRow, standIns := [], harness := (true, "9df93b3d51551da085bf3e3370e0db6acc9b4b82cb8e3047822a20a5f59de1af"), looks := true }, kinds := [], alts := [], laidByText := true, laidKinds := [.data], laidTests := true, laidLooks := .later }
def FnFrsFreshCardSaid : Prop := Claim7.holds Tryd.pinned (.plain (OpenSpec.ofChange fnFrsFreshSpec)) fnFrsFreshCard

/-- THE TIED CARD OF 'laws.FnFrsAge'. -/
def fnFrsAgeCard : Claim7 := { stood := { row := fnFrsAgeRow, standIns := [], harness := (true, "9df93b3d51551da085bf3e3370e0db6acc9b4b82cb8e3047822a20a5f59de1af"), looks := true }, kinds := [], alts := [], laidByText := true, laidKinds := [.data], laidTests := true, laidLooks := .later }
def FnFrsAgeCardSaid : Prop := Claim7.holds Tryd.pinned (.plain (OpenSpec.ofChange fnFrsAgeSpec)) fnFrsAgeCard

/-- THE TIED CARD OF 'laws.FnFrsKeep'. -/
def fnFrsKeepCard : Claim7 := { stood := { row := fnFrsKeepRow, standIns := [], harness := (true, "9df93b3d51551da085bf3e3370e0db6acc9b4b82cb8e3047822a20a5f59de1af"), looks := true }, kinds := [], alts := [], laidByText := true, laidKinds := [.data], laidTests := true, laidLooks := .later }
def FnFrsKeepCardSaid : Prop := Claim7.holds Tryd.pinned (.plain (OpenSpec.ofChange fnFrsKeepSpec)) fnFrsKeepCard

/-- THE TIED CARD OF 'laws.FnFrsMerge'. -/
def fnFrsMergeCard : Claim7 := { stood := { row := fnFrsMergeRow, standIns := [], harness := (true, "9df93b3d51551da085bf3e3370e0db6acc9b4b82cb8e3047822a20a5f59de1af"), looks := true }, kinds := [], alts := [], laidByText := true, laidKinds := [.data], laidTests := true, laidLooks := .later }
def FnFrsMergeCardSaid : Prop := Claim7.holds Tryd.pinned (.plain (OpenSpec.ofChange fnFrsMergeSpec)) fnFrsMergeCard

/-- THE TIED CARD OF 'laws.FnRspText'. -/
def fnRspTextCard : Claim7 := { stood := { row := fnRspTextRow, standIns := [], harness := (true, "9df93b3d51551da085bf3e3370e0db6acc9b4b82cb8e3047822a20a5f59de1af"), looks := true }, kinds := [], alts := [], laidByText := true, laidKinds := [.data, .data, .data, .data, .data], laidTests := true, laidLooks := .later }
def FnRspTextCardSaid : Prop := Claim7.holds Tryd.pinned (.plain (OpenSpec.ofChange fnRspTextSpec)) fnRspTextCard

/-- THE TIED CARD OF 'laws.FnFrsEver'. -/
def fnFrsEverCard : Claim7 := { stood := { row := fnFrsEverRow, standIns := [], harness := (true, "9df93b3d51551da085bf3e3370e0db6acc9b4b82cb8e3047822a20a5f59de1af"), looks := true }, kinds := [], alts := [], laidByText := true, laidKinds := [.data], laidTests := true, laidLooks := .later }
def FnFrsEverCardSaid : Prop := Claim7.holds Tryd.pinned (.plain (OpenSpec.ofChange fnFrsEverSpec)) fnFrsEverCard

/-- THE TIED CARD OF 'laws.FnExactRspOk'. -/
def fnExactRspOkCard : Claim7 := { stood := { row := fnExactRspOkRow, standIns := [], harness := (true, "9df93b3d51551da085bf3e3370e0db6acc9b4b82cb8e3047822a20a5f59de1af"), looks := true }, kinds := [], alts := [], laidByText := true, laidKinds := [.data], laidTests := true, laidLooks := .later }
def FnExactRspOkCardSaid : Prop := Claim7.holds Tryd.pinned (.plain (OpenSpec.ofChange fnExactRspOkSpec)) fnExactRspOkCard

/-- THE TIED CARD OF 'laws.FnExactFrsKeep'. -/
def fnExactFrsKeepCard : Claim7 := { stood := { row := fnExactFrsKeepRow, standIns := [], harness := (true, "9df93b3d51551da085bf3e3370e0db6acc9b4b82cb8e3047822a20a5f59de1af"), looks := true }, kinds := [], alts := [], laidByText := true, laidKinds := [.data], laidTests := true, laidLooks := .later }
def FnExactFrsKeepCardSaid : Prop := Claim7.holds Tryd.pinned (.plain (OpenSpec.ofChange fnExactFrsKeepSpec)) fnExactFrsKeepCard

/-- THE TIED CARD OF 'laws.FnExactFrsFresh'. -/
def fnExactFrsFreshCard : Claim7 := { stood := { row := fnExactFrsFreshRow, standIns := [], harness := (true, "9df93b3d51551da085bf3e3370e0db6acc9b4b82cb8e3047822a20a5f59de1af"), looks := true }, kinds := [], alts := [], laidByText := true, laidKinds := [.data], laidTests := true, laidLooks := .later }
def FnExactFrsFreshCardSaid : Prop := Claim7.holds Tryd.pinned (.plain (OpenSpec.ofChange fnExactFrsFreshSpec)) fnExactFrsFreshCard

/-- THE TIED CARD OF 'laws.FnExactFrsMerge'. -/
def fnExactFrsMergeCard : Claim7 := { stood := { row := fnExactFrsMergeRow, standIns := [], harness := (true, "9df93b3d51551da085bf3e3370e0db6acc9b4b82cb8e3047822a20a5f59de1af"), looks := true }, kinds := [], alts := [], laidByText := true, laidKinds := [.data], laidTests := true, laidLooks := .later }
def FnExactFrsMergeCardSaid : Prop := Claim7.holds Tryd.pinned (.plain (OpenSpec.ofChange fnExactFrsMergeSpec)) fnExactFrsMergeCard

/-- THE TIED CARD OF 'laws.FnExactRspText'. -/
def fnExactRspTextCard : Claim7 := { stood := { row := fnExactRspTextRow, standIns := [], harness := (true, "9df93b3d51551da085bf3e3370e0db6acc9b4b82cb8e3047822a20a5f59de1af"), looks := true }, kinds := [], alts := [], laidByText := true, laidKinds := [.data, .data, .data, .data, .data], laidTests := true, laidLooks := .later }
def FnExactRspTextCardSaid : Prop := Claim7.holds Tryd.pinned (.plain (OpenSpec.ofChange fnExactRspTextSpec)) fnExactRspTextCard

/-- THE SECOND FORM's CARD OF 'laws.FnFrsFresh'. -/
def fnFrsFreshUptoCard : Claim7 := { stood := { row := fnFrsFreshUptoRow, standIns := [], harness := (true, "9df93b3d51551da085bf3e3370e0db6acc9b4b82cb8e3047822a20a5f59de1af"), looks := true }, kinds := [], alts := [], laidByText := true, laidKinds := [.data], laidTests := true, laidLooks := .later }
def FnFrsFreshUptoCardSaid : Prop := Claim7.holds Tryd.pinned (.plain (OpenSpec.upto fnFrsFreshSpec)) fnFrsFreshUptoCard

/-- THE SECOND FORM's CARD OF 'laws.FnFrsAge'. -/
def fnFrsAgeUptoCard : Claim7 := { stood := { row := fnFrsAgeUptoRow, standIns := [], harness := (true, "9df93b3d51551da085bf3e3370e0db6acc9b4b82cb8e3047822a20a5f59de1af"), looks := true }, kinds := [], alts := [], laidByText := true, laidKinds := [.data], laidTests := true, laidLooks := .later }
def FnFrsAgeUptoCardSaid : Prop := Claim7.holds Tryd.pinned (.plain (OpenSpec.upto fnFrsAgeSpec)) fnFrsAgeUptoCard

/-- THE SECOND FORM's CARD OF 'laws.FnFrsKeep'. -/
def fnFrsKeepUptoCard : Claim7 := { stood := { row := fnFrsKeepUptoRow, standIns := [], harness := (true, "9df93b3d51551da085bf3e3370e0db6acc9b4b82cb8e3047822a20a5f59de1af"), looks := true }, kinds := [], alts := [], laidByText := true, laidKinds := [.data], laidTests := true, laidLooks := .later }
def FnFrsKeepUptoCardSaid : Prop := Claim7.holds Tryd.pinned (.plain (OpenSpec.upto fnFrsKeepSpec)) fnFrsKeepUptoCard

/-- THE SECOND FORM's CARD OF 'laws.FnFrsMerge'. -/
def fnFrsMergeUptoCard : Claim7 := { stood := { row := fnFrsMergeUptoRow, standIns := [], harness := (true, "9df93b3d51551da085bf3e3370e0db6acc9b4b82cb8e3047822a20a5f59de1af"), looks := true }, kinds := [], alts := [], laidByText := true, laidKinds := [.data], laidTests := true, laidLooks := .later }
def FnFrsMergeUptoCardSaid : Prop := Claim7.holds Tryd.pinned (.plain (OpenSpec.upto fnFrsMergeSpec)) fnFrsMergeUptoCard

/-- THE SECOND FORM's CARD OF 'laws.FnRspText'. -/
def fnRspTextUptoCard : Claim7 := { stood := { row := fnRspTextUptoRow, standIns := [], harness := (true, "9df93b3d51551da085bf3e3370e0db6acc9b4b82cb8e3047822a20a5f59de1af"), looks := true }, kinds := [], alts := [], laidByText := true, laidKinds := [.data, .data, .data, .data, .data], laidTests := true, laidLooks := .later }
def FnRspTextUptoCardSaid : Prop := Claim7.holds Tryd.pinned (.plain (OpenSpec.upto fnRspTextSpec)) fnRspTextUptoCard

/-- THE SECOND FORM's CARD OF 'laws.FnFrsEver'. -/
def fnFrsEverUptoCard : Claim7 := { stood := { row := fnFrsEverUptoRow, standIns := [], harness := (true, "9df93b3d51551da085bf3e3370e0db6acc9b4b82cb8e3047822a20a5f59de1af"), looks := true }, kinds := [], alts := [], laidByText := true, laidKinds := [.data], laidTests := true, laidLooks := .later }
def FnFrsEverUptoCardSaid : Prop := Claim7.holds Tryd.pinned (.plain (OpenSpec.upto fnFrsEverSpec)) fnFrsEverUptoCard

/-- THE SECOND FORM's CARD OF 'laws.FnExactRspOk'. -/
def fnExactRspOkUptoCard : Claim7 := { stood := { row := fnExactRspOkUptoRow, standIns := [], harness := (true, "9df93b3d51551da085bf3e3370e0db6acc9b4b82cb8e3047822a20a5f59de1af"), looks := true }, kinds := [], alts := [], laidByText := true, laidKinds := [.data], laidTests := true, laidLooks := .later }
def FnExactRspOkUptoCardSaid : Prop := Claim7.holds Tryd.pinned (.plain (OpenSpec.upto fnExactRspOkSpec)) fnExactRspOkUptoCard

/-- THE SECOND FORM's CARD OF 'laws.FnExactFrsKeep'. -/
def fnExactFrsKeepUptoCard : Claim7 := { stood := { row := fnExactFrsKeepUptoRow, standIns := [], harness := (true, "9df93b3d51551da085bf3e3370e0db6acc9b4b82cb8e3047822a20a5f59de1af"), looks := true }, kinds := [], alts := [], laidByText := true, laidKinds := [.data], laidTests := true, laidLooks := .later }
def FnExactFrsKeepUptoCardSaid : Prop := Claim7.holds Tryd.pinned (.plain (OpenSpec.upto fnExactFrsKeepSpec)) fnExactFrsKeepUptoCard

/-- THE SECOND FORM's CARD OF 'laws.FnExactFrsFresh'. -/
def fnExactFrsFreshUptoCard : Claim7 := { stood := { row := fnExactFrsFreshUptoRow, standIns := [], harness := (true, "9df93b3d51551da085bf3e3370e0db6acc9b4b82cb8e3047822a20a5f59de1af"), looks := true }, kinds := [], alts := [], laidByText := true, laidKinds := [.data], laidTests := true, laidLooks := .later }
def FnExactFrsFreshUptoCardSaid : Prop := Claim7.holds Tryd.pinned (.plain (OpenSpec.upto fnExactFrsFreshSpec)) fnExactFrsFreshUptoCard

/-- THE SECOND FORM's CARD OF 'laws.FnExactFrsMerge'. -/
def fnExactFrsMergeUptoCard : Claim7 := { stood := { row := fnExactFrsMergeUptoRow, standIns := [], harness := (true, "9df93b3d51551da085bf3e3370e0db6acc9b4b82cb8e3047822a20a5f59de1af"), looks := true }, kinds := [], alts := [], laidByText := true, laidKinds := [.data], laidTests := true, laidLooks := .later }
def FnExactFrsMergeUptoCardSaid : Prop := Claim7.holds Tryd.pinned (.plain (OpenSpec.upto fnExactFrsMergeSpec)) fnExactFrsMergeUptoCard

/-- THE SECOND FORM's CARD OF 'laws.FnExactRspText'. -/
def fnExactRspTextUptoCard : Claim7 := { stood := { row := fnExactRspTextUptoRow, standIns := [], harness := (true, "9df93b3d51551da085bf3e3370e0db6acc9b4b82cb8e3047822a20a5f59de1af"), looks := true }, kinds := [], alts := [], laidByText := true, laidKinds := [.data, .data, .data, .data, .data], laidTests := true, laidLooks := .later }
def FnExactRspTextUptoCardSaid : Prop := Claim7.holds Tryd.pinned (.plain (OpenSpec.upto fnExactRspTextSpec)) fnExactRspTextUptoCard
end Rows
end Go.Proofs.YtjhgibmeokghmaaDoor
