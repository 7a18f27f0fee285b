/-
  DERIVED. GIVEN WITH THE SEED: THE CARDS: each row of YtdafamocnjfmjaaDoorRows.lean that lists a variable, with what it lists TIED to the program's text (the seventh form; the later family's looks); each row that meets fmt, with fmt's text TOLD by the authors' own Lean function (tested against real Go, not proved from fmt's source: count such statements apart). THE CARD IS WHAT COUNTS. Prove the row's statement (the work); the ties are given (YtdafamocnjfmjaaDoorTie.lean); close each card by the builder's one call (the guide's Derived/Test/ToyasCard.lean, 'card_holds'). Laid BY PROGRAM, IN A SANDBOX (cutbox-door.mjs). By AI agents, Wed Nov 11 2026. No macro, syntax, notation, axiom, sorry.
-/
import Derived.Test.YtdafamocnjfmjaaDoorRows
import GoSem.ClaimSeven
namespace Go.Proofs.YtdafamocnjfmjaaDoor
namespace Rows

/-- THE TIED CARD OF 'allotmentlaw18.ReqChecks'. -/
def reqChecksCard : Claim7 := { stood := { row := reqChecksRow, standIns := [], harness := (true, "092f80644eb72128cde2e7d8694dcea2c6b98bf2358855993f637a9c9c5a28ad"), looks := false }, kinds := [], alts := [], laidByText := true, laidKinds := [.data], laidTests := true, laidLooks := .later }
def ReqChecksCardSaid : Prop := Claim7.holds Tryd.pinned (.plain (OpenSpec.ofChange reqChecksSpec)) reqChecksCard

/-- THE TIED CARD OF 'allotmentlaw18.ReqNames'. -/
def reqNamesCard : Claim7 := { stood := { row := reqNamesRow, standIns := [], harness := (true, "092f80644eb72128cde2e7d8694dcea2c6b98bf2358855993f637a9c9c5a28ad"), looks := false }, kinds := [], alts := [], laidByText := true, laidKinds := [.data], laidTests := true, laidLooks := .later }
def ReqNamesCardSaid : Prop := Claim7.holds Tryd.pinned (.plain (OpenSpec.ofChange reqNamesSpec)) reqNamesCard

/-- THE TIED CARD OF 'allotmentlaw18.ReqRound'. -/
def reqRoundCard : Claim7 := { stood := { row := reqRoundRow, standIns := [], harness := (true, "092f80644eb72128cde2e7d8694dcea2c6b98bf2358855993f637a9c9c5a28ad"), looks := false }, kinds := [], alts := [], laidByText := true, laidKinds := [.data], laidTests := true, laidLooks := .later }
def ReqRoundCardSaid : Prop := Claim7.holds Tryd.pinned (.plain (OpenSpec.ofChange reqRoundSpec)) reqRoundCard

/-- THE TIED CARD OF 'allotmentlaw18.ReqReads'. -/
def reqReadsCard : Claim7 := { stood := { row := reqReadsRow, standIns := [], harness := (true, "092f80644eb72128cde2e7d8694dcea2c6b98bf2358855993f637a9c9c5a28ad"), looks := false }, kinds := [], alts := [], laidByText := true, laidKinds := [.data], laidTests := true, laidLooks := .later }
def ReqReadsCardSaid : Prop := Claim7.holds Tryd.pinned (.plain (OpenSpec.ofChange reqReadsSpec)) reqReadsCard

/-- THE TIED CARD OF 'allotmentlaw18.ReqSame'. -/
def reqSameCard : Claim7 := { stood := { row := reqSameRow, standIns := [], harness := (true, "092f80644eb72128cde2e7d8694dcea2c6b98bf2358855993f637a9c9c5a28ad"), looks := false }, kinds := [], alts := [], laidByText := true, laidKinds := [.data], laidTests := true, laidLooks := .later }
def ReqSameCardSaid : Prop := Claim7.holds Tryd.pinned (.plain (OpenSpec.ofChange reqSameSpec)) reqSameCard

/-- THE SECOND FORM's CARD OF 'allotmentlaw18.ReqChecks'. -/
def reqChecksUptoCard : Claim7 := { stood := { row := reqChecksUptoRow, standIns := [], harness := (true, "092f80644eb72128cde2e7d8694dcea2c6b98bf2358855993f637a9c9c5a28ad"), looks := false }, kinds := [], alts := [], laidByText := true, laidKinds := [.data], laidTests := true, laidLooks := .later }
def ReqChecksUptoCardSaid : Prop := Claim7.holds Tryd.pinned (.plain (OpenSpec.upto reqChecksSpec)) reqChecksUptoCard

/-- THE SECOND FORM's CARD OF 'allotmentlaw18.ReqNames'. -/
def reqNamesUptoCard : Claim7 := { stood := { row := reqNamesUptoRow, standIns := [], harness := (true, "092f80644eb72128cde2e7d8694dcea2c6b98bf2358855993f637a9c9c5a28ad"), looks := false }, kinds := [], alts := [], laidByText := true, laidKinds := [.data], laidTests := true, laidLooks := .later }
def ReqNamesUptoCardSaid : Prop := Claim7.holds Tryd.pinned (.plain (OpenSpec.upto reqNamesSpec)) reqNamesUptoCard

/-- THE SECOND FORM's CARD OF 'allotmentlaw18.ReqRound'. -/
def reqRoundUptoCard : Claim7 := { stood := { row := reqRoundUptoRow, standIns := [], harness := (true, "092f80644eb72128cde2e7d8694dcea2c6b98bf2358855993f637a9c9c5a28ad"), looks := false }, kinds := [], alts := [], laidByText := true, laidKinds := [.data], laidTests := true, laidLooks := .later }
def ReqRoundUptoCardSaid : Prop := Claim7.holds Tryd.pinned (.plain (OpenSpec.upto reqRoundSpec)) reqRoundUptoCard

/-- THE SECOND FORM's CARD OF 'allotmentlaw18.ReqReads'. -/
def reqReadsUptoCard : Claim7 := { stood := { row := reqReadsUptoRow, standIns := [], harness := (true, "092f80644eb72128cde2e7d8694dcea2c6b98bf2358855993f637a9c9c5a28ad"), looks := false }, kinds := [], alts := [], laidByText := true, laidKinds := [.data], laidTests := true, laidLooks := .later }
def ReqReadsUptoCardSaid : Prop := Claim7.holds Tryd.pinned (.plain (OpenSpec.upto reqReadsSpec)) reqReadsUptoCard

/-- THE SECOND FORM's CARD OF 'allotmentlaw18.ReqSame'. -/
def reqSameUptoCard : Claim7 := { stood := { row := reqSameUptoRow, standIns := [], harness := (true, "092f80644eb72128cde2e7d8694dcea2c6b98bf2358855993f637a9c9c5a28ad"), looks := false }, kinds := [], alts := [], laidByText := true, laidKinds := [.data], laidTests := true, laidLooks := .later }
def ReqSameUptoCardSaid : Prop := Claim7.holds Tryd.pinned (.plain (OpenSpec.upto reqSameSpec)) reqSameUptoCard
end Rows
end Go.Proofs.YtdafamocnjfmjaaDoor
