/-
  DERIVED. GIVEN WITH THE SEED: THE CARDS: each row of YtojmfcpkmknleaaDoorRows.lean that lists a variable, with what it lists TIED to the program's text (the seventh form; the later family's looks); each row that meets fmt, with fmt's text TOLD by the authors' own Lean function (tested against real Go, not proved from fmt's source: count such statements apart). THE CARD IS WHAT COUNTS. Prove the row's statement (the work); the ties are given (YtojmfcpkmknleaaDoorTie.lean); close each card by the builder's one call (the guide's Derived/Test/ToyasCard.lean, 'card_holds'). Laid BY PROGRAM, IN A SANDBOX (cutbox-door.mjs). By AI agents, Wed Nov 11 2026. No macro, syntax, notation, axiom, sorry.
-/
import Derived.Test.YtojmfcpkmknleaaDoorRows
import GoSem.ClaimSeven
namespace Go.Proofs.YtojmfcpkmknleaaDoor
namespace Rows

/-- THE TIED CARD OF 'laws.FnCfgRoute'. -/
def fnCfgRouteCard : Claim7 := { stood := { row := fnCfgRouteRow, standIns := [], harness := (true, "bcf9a51e373e7c7401b53210842274b215cc3cf918d2e90e6b68009f701c7719"), looks := false }, kinds := [], alts := [], laidByText := true, laidKinds := [.data], laidTests := true, laidLooks := .later }
def FnCfgRouteCardSaid : Prop := Claim7.holds Tryd.pinned (.plain (OpenSpec.ofChange fnCfgRouteSpec)) fnCfgRouteCard

/-- THE TIED CARD OF 'laws.FnCfgAlone'. -/
def fnCfgAloneCard : Claim7 := { stood := { row := fnCfgAloneRow, standIns := [], harness := (true, "bcf9a51e373e7c7401b53210842274b215cc3cf918d2e90e6b68009f701c7719"), looks := false }, kinds := [], alts := [], laidByText := true, laidKinds := [.data], laidTests := true, laidLooks := .later }
def FnCfgAloneCardSaid : Prop := Claim7.holds Tryd.pinned (.plain (OpenSpec.ofChange fnCfgAloneSpec)) fnCfgAloneCard

/-- THE TIED CARD OF 'laws.FnCfgLess'. -/
def fnCfgLessCard : Claim7 := { stood := { row := fnCfgLessRow, standIns := [], harness := (true, "bcf9a51e373e7c7401b53210842274b215cc3cf918d2e90e6b68009f701c7719"), looks := false }, kinds := [], alts := [], laidByText := true, laidKinds := [.data], laidTests := true, laidLooks := .later }
def FnCfgLessCardSaid : Prop := Claim7.holds Tryd.pinned (.plain (OpenSpec.ofChange fnCfgLessSpec)) fnCfgLessCard

/-- THE TIED CARD OF 'laws.FnExactCfgOk'. -/
def fnExactCfgOkCard : Claim7 := { stood := { row := fnExactCfgOkRow, standIns := [], harness := (true, "bcf9a51e373e7c7401b53210842274b215cc3cf918d2e90e6b68009f701c7719"), looks := false }, kinds := [], alts := [], laidByText := true, laidKinds := [.data], laidTests := true, laidLooks := .later }
def FnExactCfgOkCardSaid : Prop := Claim7.holds Tryd.pinned (.plain (OpenSpec.ofChange fnExactCfgOkSpec)) fnExactCfgOkCard

/-- THE TIED CARD OF 'laws.FnExactCfgRoute'. -/
def fnExactCfgRouteCard : Claim7 := { stood := { row := fnExactCfgRouteRow, standIns := [], harness := (true, "bcf9a51e373e7c7401b53210842274b215cc3cf918d2e90e6b68009f701c7719"), looks := false }, kinds := [], alts := [], laidByText := true, laidKinds := [.data], laidTests := true, laidLooks := .later }
def FnExactCfgRouteCardSaid : Prop := Claim7.holds Tryd.pinned (.plain (OpenSpec.ofChange fnExactCfgRouteSpec)) fnExactCfgRouteCard

/-- THE TIED CARD OF 'laws.FnExactCfgAlone'. -/
def fnExactCfgAloneCard : Claim7 := { stood := { row := fnExactCfgAloneRow, standIns := [], harness := (true, "bcf9a51e373e7c7401b53210842274b215cc3cf918d2e90e6b68009f701c7719"), looks := false }, kinds := [], alts := [], laidByText := true, laidKinds := [.data], laidTests := true, laidLooks := .later }
def FnExactCfgAloneCardSaid : Prop := Claim7.holds Tryd.pinned (.plain (OpenSpec.ofChange fnExactCfgAloneSpec)) fnExactCfgAloneCard

/-- THE SECOND FORM's CARD OF 'laws.FnCfgRoute'. -/
def fnCfgRouteUptoCard : Claim7 := { stood := { row := fnCfgRouteUptoRow, standIns := [], harness := (true, "bcf9a51e373e7c7401b53210842274b215cc3cf918d2e90e6b68009f701c7719"), looks := false }, kinds := [], alts := [], laidByText := true, laidKinds := [.data], laidTests := true, laidLooks := .later }
def FnCfgRouteUptoCardSaid : Prop := Claim7.holds Tryd.pinned (.plain (OpenSpec.upto fnCfgRouteSpec)) fnCfgRouteUptoCard

/-- THE SECOND FORM's CARD OF 'laws.FnCfgAlone'. -/
def fnCfgAloneUptoCard : Claim7 := { stood := { row := fnCfgAloneUptoRow, standIns := [], harness := (true, "bcf9a51e373e7c7401b53210842274b215cc3cf918d2e90e6b68009f701c7719"), looks := false }, kinds := [], alts := [], laidByText := true, laidKinds := [.data], laidTests := true, laidLooks := .later }
def FnCfgAloneUptoCardSaid : Prop := Claim7.holds Tryd.pinned (.plain (OpenSpec.upto fnCfgAloneSpec)) fnCfgAloneUptoCard

/-- THE SECOND FORM's CARD OF 'laws.FnCfgLess'. -/
def fnCfgLessUptoCard : Claim7 := { stood := { row := fnCfgLessUptoRow, standIns := [], harness := (true, "bcf9a51e373e7c7401b53210842274b215cc3cf918d2e90e6b68009f701c7719"), looks := false }, kinds := [], alts := [], laidByText := true, laidKinds := [.data], laidTests := true, laidLooks := .later }
def FnCfgLessUptoCardSaid : Prop := Claim7.holds Tryd.pinned (.plain (OpenSpec.upto fnCfgLessSpec)) fnCfgLessUptoCard

/-- THE SECOND FORM's CARD OF 'laws.FnExactCfgOk'. -/
def fnExactCfgOkUptoCard : Claim7 := { stood := { row := fnExactCfgOkUptoRow, standIns := [], harness := (true, "bcf9a51e373e7c7401b53210842274b215cc3cf918d2e90e6b68009f701c7719"), looks := false }, kinds := [], alts := [], laidByText := true, laidKinds := [.data], laidTests := true, laidLooks := .later }
def FnExactCfgOkUptoCardSaid : Prop := Claim7.holds Tryd.pinned (.plain (OpenSpec.upto fnExactCfgOkSpec)) fnExactCfgOkUptoCard

/-- THE SECOND FORM's CARD OF 'laws.FnExactCfgRoute'. -/
def fnExactCfgRouteUptoCard : Claim7 := { stood := { row := fnExactCfgRouteUptoRow, standIns := [], harness := (true, "bcf9a51e373e7c7401b53210842274b215cc3cf918d2e90e6b68009f701c7719"), looks := false }, kinds := [], alts := [], laidByText := true, laidKinds := [.data], laidTests := true, laidLooks := .later }
def FnExactCfgRouteUptoCardSaid : Prop := Claim7.holds Tryd.pinned (.plain (OpenSpec.upto fnExactCfgRouteSpec)) fnExactCfgRouteUptoCard

/-- THE SECOND FORM's CARD OF 'laws.FnExactCfgAlone'. -/
def fnExactCfgAloneUptoCard : Claim7 := { stood := { row := fnExactCfgAloneUptoRow, standIns := [], harness := (true, "bcf9a51e373e7c7401b53210842274b215cc3cf918d2e90e6b68009f701c7719"), looks := false }, kinds := [], alts := [], laidByText := true, laidKinds := [.data], laidTests := true, laidLooks := .later }
def FnExactCfgAloneUptoCardSaid : Prop := Claim7.holds Tryd.pinned (.plain (OpenSpec.upto fnExactCfgAloneSpec)) fnExactCfgAloneUptoCard
end Rows
end Go.Proofs.YtojmfcpkmknleaaDoor
