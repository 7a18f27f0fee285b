/-
  DERIVED. GIVEN WITH THE SEED: THE CARDS: each row of YtfpgbicikpkkiaaDoorRows.lean that lists a variable, with what it lists TIED to the program's text (the seventh form; the later family's looks); each row that meets fmt, with fmt's text TOLD by the authors' own Lean function (tested against real Go, not proved from fmt's source: count such statements apart). THE CARD IS WHAT COUNTS. Prove the row's statement (the work); the ties are given (YtfpgbicikpkkiaaDoorTie.lean); close each card by the builder's one call (the guide's Derived/Test/ToyasCard.lean, 'card_holds'). Laid BY PROGRAM, IN A SANDBOX (cutbox-door.mjs). By AI agents, Wed Nov 11 2026. No macro, syntax, notation, axiom, sorry.
-/
import Derived.Test.YtfpgbicikpkkiaaDoorRows
import GoSem.ClaimSeven
namespace Go.Proofs.YtfpgbicikpkkiaaDoor
namespace Rows

/-- THE TIED CARD OF 'allotmentlaw16.RightsMay'. -/
def rightsMayCard : Claim7 := { stood := { row := rightsMayRow, standIns := [], harness := (true, "9f632e33977c7fc9bdb9a759bc4ee11a205c8e414178c02041536719b49438b1"), looks := false }, kinds := [], alts := [], laidByText := true, laidKinds := [.data], laidTests := true, laidLooks := .later }
def RightsMayCardSaid : Prop := Claim7.holds Tryd.pinned (.plain (OpenSpec.ofChange rightsMaySpec)) rightsMayCard

/-- THE TIED CARD OF 'allotmentlaw16.RightsHas'. -/
def rightsHasCard : Claim7 := { stood := { row := rightsHasRow, standIns := [], harness := (true, "9f632e33977c7fc9bdb9a759bc4ee11a205c8e414178c02041536719b49438b1"), looks := false }, kinds := [], alts := [], laidByText := true, laidKinds := [.data], laidTests := true, laidLooks := .later }
def RightsHasCardSaid : Prop := Claim7.holds Tryd.pinned (.plain (OpenSpec.ofChange rightsHasSpec)) rightsHasCard

/-- THE TIED CARD OF 'allotmentlaw16.RightsNeeds'. -/
def rightsNeedsCard : Claim7 := { stood := { row := rightsNeedsRow, standIns := [], harness := (true, "9f632e33977c7fc9bdb9a759bc4ee11a205c8e414178c02041536719b49438b1"), looks := false }, kinds := [], alts := [], laidByText := true, laidKinds := [.data], laidTests := true, laidLooks := .later }
def RightsNeedsCardSaid : Prop := Claim7.holds Tryd.pinned (.plain (OpenSpec.ofChange rightsNeedsSpec)) rightsNeedsCard

/-- THE TIED CARD OF 'allotmentlaw16.RightsNames'. -/
def rightsNamesCard : Claim7 := { stood := { row := rightsNamesRow, standIns := [], harness := (true, "9f632e33977c7fc9bdb9a759bc4ee11a205c8e414178c02041536719b49438b1"), looks := false }, kinds := [], alts := [], laidByText := true, laidKinds := [.data], laidTests := true, laidLooks := .later }
def RightsNamesCardSaid : Prop := Claim7.holds Tryd.pinned (.plain (OpenSpec.ofChange rightsNamesSpec)) rightsNamesCard

/-- THE TIED CARD OF 'allotmentlaw16.RightsMore'. -/
def rightsMoreCard : Claim7 := { stood := { row := rightsMoreRow, standIns := [], harness := (true, "9f632e33977c7fc9bdb9a759bc4ee11a205c8e414178c02041536719b49438b1"), looks := false }, kinds := [], alts := [], laidByText := true, laidKinds := [.data], laidTests := true, laidLooks := .later }
def RightsMoreCardSaid : Prop := Claim7.holds Tryd.pinned (.plain (OpenSpec.ofChange rightsMoreSpec)) rightsMoreCard

/-- THE SECOND FORM's CARD OF 'allotmentlaw16.RightsMay'. -/
def rightsMayUptoCard : Claim7 := { stood := { row := rightsMayUptoRow, standIns := [], harness := (true, "9f632e33977c7fc9bdb9a759bc4ee11a205c8e414178c02041536719b49438b1"), looks := false }, kinds := [], alts := [], laidByText := true, laidKinds := [.data], laidTests := true, laidLooks := .later }
def RightsMayUptoCardSaid : Prop := Claim7.holds Tryd.pinned (.plain (OpenSpec.upto rightsMaySpec)) rightsMayUptoCard

/-- THE SECOND FORM's CARD OF 'allotmentlaw16.RightsHas'. -/
def rightsHasUptoCard : Claim7 := { stood := { row := rightsHasUptoRow, standIns := [], harness := (true, "9f632e33977c7fc9bdb9a759bc4ee11a205c8e414178c02041536719b49438b1"), looks := false }, kinds := [], alts := [], laidByText := true, laidKinds := [.data], laidTests := true, laidLooks := .later }
def RightsHasUptoCardSaid : Prop := Claim7.holds Tryd.pinned (.plain (OpenSpec.upto rightsHasSpec)) rightsHasUptoCard

/-- THE SECOND FORM's CARD OF 'allotmentlaw16.RightsNeeds'. -/
def rightsNeedsUptoCard : Claim7 := { stood := { row := rightsNeedsUptoRow, standIns := [], harness := (true, "9f632e33977c7fc9bdb9a759bc4ee11a205c8e414178c02041536719b49438b1"), looks := false }, kinds := [], alts := [], laidByText := true, laidKinds := [.data], laidTests := true, laidLooks := .later }
def RightsNeedsUptoCardSaid : Prop := Claim7.holds Tryd.pinned (.plain (OpenSpec.upto rightsNeedsSpec)) rightsNeedsUptoCard

/-- THE SECOND FORM's CARD OF 'allotmentlaw16.RightsNames'. -/
def rightsNamesUptoCard : Claim7 := { stood := { row := rightsNamesUptoRow, standIns := [], harness := (true, "9f632e33977c7fc9bdb9a759bc4ee11a205c8e414178c02041536719b49438b1"), looks := false }, kinds := [], alts := [], laidByText := true, laidKinds := [.data], laidTests := true, laidLooks := .later }
def RightsNamesUptoCardSaid : Prop := Claim7.holds Tryd.pinned (.plain (OpenSpec.upto rightsNamesSpec)) rightsNamesUptoCard

/-- THE SECOND FORM's CARD OF 'allotmentlaw16.RightsMore'. -/
def rightsMoreUptoCard : Claim7 := { stood := { row := rightsMoreUptoRow, standIns := [], harness := (true, "9f632e33977c7fc9bdb9a759bc4ee11a205c8e414178c02041536719b49438b1"), looks := false }, kinds := [], alts := [], laidByText := true, laidKinds := [.data], laidTests := true, laidLooks := .later }
def RightsMoreUptoCardSaid : Prop := Claim7.holds Tryd.pinned (.plain (OpenSpec.upto rightsMoreSpec)) rightsMoreUptoCard
end Rows
end Go.Proofs.YtfpgbicikpkkiaaDoor
