/-
  NARROWER THAN 'FOR EVERY INPUT', by the rows' own cells (each row's printed sentence says how): RightsMay: laid · RightsHas: laid · RightsNeeds: laid · RightsNames: laid · RightsMore: laid.
  DERIVED. THE GIVEN ROWS OF THIS SEAT. 5 by the template 'for every input the law returns true; each argument reads behind the call as it read before'; 0 by the template 'total and deterministic' (their statements: YtfpgbicikpkkiaaDoorTotals.lean).
  GIVEN WITH THE SEED: the statements are not yours to turn. If you find one false, say at which input.
  Laid BY PROGRAM, IN A SANDBOX (cutbox-rows.mjs): the forced cells as the released guide's own fill.sh prints them over the translation dd6679a8f57b94ec… (all of the seat's roots in one cut). By AI agents, Wed Nov 11 2026. No macro, syntax, notation, axiom, sorry.
-/
import Derived.Test.YtfpgbicikpkkiaaDoorChecked
import GoSem.Claim
import GoSem.ClaimJoined
import GoSem.ClaimMapViews
import Derived.JoinedTies
import Derived.KernelRfl
namespace Go.Proofs.YtfpgbicikpkkiaaDoor
/- THE CELL 'sum', in the pinned program and in every row, IS THE sha256 OF THE DUMP (.gsa) THAT YtfpgbicikpkkiaaDoorProg.lean LOADS. Nothing in Lean hashes anything: it is a label: what it is worth is what the hold of that sum in a sandbox is worth. -/
noncomputable def Tryd.pinned : Pinned := { name := "ytfpgbicikpkkiaadoor", sum := "dd6679a8f57b94ec16edf0da19f254a11aa4b4d69a897cb34976dc795b22a382", checked := Tryd.checked }
namespace Rows
def none {H : Type} : Left H := { results := [], args := [] }

/- WHAT THE LISTED PACKAGE-LEVEL VARIABLES READ AS WHEN THE CALL BEGINS. Each datum BY PROGRAM (the guide's laid-datum.mjs) off the statement by which the dump's own 'gosem.cut.vars' lays the variable. In a bare row this is a premise. The card (YtfpgbicikpkkiaaDoorCards.lean) ties it to the program's text. -/
def laid_allotment_rights_words {H : Type} : DataW H := .agg [.lit (.string [115, 101, 101]), .lit (.string [99, 104, 97, 110, 103, 101]), .lit (.string [107, 101, 101, 112]), .lit (.string [103, 105, 118, 101])]

/-- 'allotmentlaw16.RightsMay': WHATEVER THE INPUT: true; the input reads as it did. -/
def rightsMaySpec : ChangeSpec := { name := "rightsMay", fn := fun _ => fun
  | [d] => { results := [.lit (.bool true)], args := [d] }
  | _ => none }
def rightsMayRow : OpenClaim := { program := "ytfpgbicikpkkiaadoor", sum := "dd6679a8f57b94ec16edf0da19f254a11aa4b4d69a897cb34976dc795b22a382", func := "allotment/allotmentlaw16.RightsMay", spec := "rightsMay", named := ["allotment/rights.words"], apart := false, laid := [("allotment/rights.words", laid_allotment_rights_words)] }
def RightsMaySaid : Prop := rightsMayRow.holds Tryd.pinned (OpenSpec.ofChange rightsMaySpec)

/-- ITS FALSE NEIGHBOUR: 'it returns false'. Refute it at one input. -/
def rightsMayWrong : ChangeSpec := { name := "rightsMay", fn := fun _ => fun
  | [d] => { results := [.lit (.bool false)], args := [d] }
  | _ => none }
def RightsMayWrongFalsely : Prop := rightsMayRow.holds Tryd.pinned (OpenSpec.ofChange rightsMayWrong)

/-- 'allotmentlaw16.RightsHas': WHATEVER THE INPUT: true; the input reads as it did. -/
def rightsHasSpec : ChangeSpec := { name := "rightsHas", fn := fun _ => fun
  | [d1, d2, d3] => { results := [.lit (.bool true)], args := [d1, d2, d3] }
  | _ => none }
def rightsHasRow : OpenClaim := { program := "ytfpgbicikpkkiaadoor", sum := "dd6679a8f57b94ec16edf0da19f254a11aa4b4d69a897cb34976dc795b22a382", func := "allotment/allotmentlaw16.RightsHas", spec := "rightsHas", named := ["allotment/rights.words"], apart := false, laid := [("allotment/rights.words", laid_allotment_rights_words)] }
def RightsHasSaid : Prop := rightsHasRow.holds Tryd.pinned (OpenSpec.ofChange rightsHasSpec)

/-- ITS FALSE NEIGHBOUR: 'it returns false'. Refute it at one input. -/
def rightsHasWrong : ChangeSpec := { name := "rightsHas", fn := fun _ => fun
  | [d1, d2, d3] => { results := [.lit (.bool false)], args := [d1, d2, d3] }
  | _ => none }
def RightsHasWrongFalsely : Prop := rightsHasRow.holds Tryd.pinned (OpenSpec.ofChange rightsHasWrong)

/-- 'allotmentlaw16.RightsNeeds': WHATEVER THE INPUT: true; the input reads as it did. -/
def rightsNeedsSpec : ChangeSpec := { name := "rightsNeeds", fn := fun _ => fun
  | [d] => { results := [.lit (.bool true)], args := [d] }
  | _ => none }
def rightsNeedsRow : OpenClaim := { program := "ytfpgbicikpkkiaadoor", sum := "dd6679a8f57b94ec16edf0da19f254a11aa4b4d69a897cb34976dc795b22a382", func := "allotment/allotmentlaw16.RightsNeeds", spec := "rightsNeeds", named := ["allotment/rights.words"], apart := false, laid := [("allotment/rights.words", laid_allotment_rights_words)] }
def RightsNeedsSaid : Prop := rightsNeedsRow.holds Tryd.pinned (OpenSpec.ofChange rightsNeedsSpec)

/-- ITS FALSE NEIGHBOUR: 'it returns false'. Refute it at one input. -/
def rightsNeedsWrong : ChangeSpec := { name := "rightsNeeds", fn := fun _ => fun
  | [d] => { results := [.lit (.bool false)], args := [d] }
  | _ => none }
def RightsNeedsWrongFalsely : Prop := rightsNeedsRow.holds Tryd.pinned (OpenSpec.ofChange rightsNeedsWrong)

/-- 'allotmentlaw16.RightsNames': WHATEVER THE INPUT: true; the input reads as it did. -/
def rightsNamesSpec : ChangeSpec := { name := "rightsNames", fn := fun _ => fun
  | [d1, d2, d3] => { results := [.lit (.bool true)], args := [d1, d2, d3] }
  | _ => none }
def rightsNamesRow : OpenClaim := { program := "ytfpgbicikpkkiaadoor", sum := "dd6679a8f57b94ec16edf0da19f254a11aa4b4d69a897cb34976dc795b22a382", func := "allotment/allotmentlaw16.RightsNames", spec := "rightsNames", named := ["allotment/rights.words"], apart := false, laid := [("allotment/rights.words", laid_allotment_rights_words)] }
def RightsNamesSaid : Prop := rightsNamesRow.holds Tryd.pinned (OpenSpec.ofChange rightsNamesSpec)

/-- ITS FALSE NEIGHBOUR: 'it returns false'. Refute it at one input. -/
def rightsNamesWrong : ChangeSpec := { name := "rightsNames", fn := fun _ => fun
  | [d1, d2, d3] => { results := [.lit (.bool false)], args := [d1, d2, d3] }
  | _ => none }
def RightsNamesWrongFalsely : Prop := rightsNamesRow.holds Tryd.pinned (OpenSpec.ofChange rightsNamesWrong)

/-- 'allotmentlaw16.RightsMore': WHATEVER THE INPUT: true; the input reads as it did. -/
def rightsMoreSpec : ChangeSpec := { name := "rightsMore", fn := fun _ => fun
  | [d1, d2, d3] => { results := [.lit (.bool true)], args := [d1, d2, d3] }
  | _ => none }
def rightsMoreRow : OpenClaim := { program := "ytfpgbicikpkkiaadoor", sum := "dd6679a8f57b94ec16edf0da19f254a11aa4b4d69a897cb34976dc795b22a382", func := "allotment/allotmentlaw16.RightsMore", spec := "rightsMore", named := ["allotment/rights.words"], apart := false, laid := [("allotment/rights.words", laid_allotment_rights_words)] }
def RightsMoreSaid : Prop := rightsMoreRow.holds Tryd.pinned (OpenSpec.ofChange rightsMoreSpec)

/-- ITS FALSE NEIGHBOUR: 'it returns false'. Refute it at one input. -/
def rightsMoreWrong : ChangeSpec := { name := "rightsMore", fn := fun _ => fun
  | [d1, d2, d3] => { results := [.lit (.bool false)], args := [d1, d2, d3] }
  | _ => none }
def RightsMoreWrongFalsely : Prop := rightsMoreRow.holds Tryd.pinned (OpenSpec.ofChange rightsMoreWrong)

/- THE SECOND FORM. 'bulk': how many values and letters a reading holds, each counted each time it is reached (what is shared counts as often as it is met; a slice's spare places count too). A statement '..UptoSaid' is the law's where the arguments, and the package variables that the reading takes, are together of bulk at most 1048576: NARROWER than '..Said'. Prove '..Said' where nothing that the law and all that it calls make is longer than what came in: it says more and counts as full. Else prove '..UptoSaid'. A law counts once. -/
mutual
def uptoBulk {H : Type} : DataW H → Nat
  | .lit (.string bytes) => bytes.length + 1
  | .lit _ => 1
  | .nil => 1
  | .ptr d => uptoBulk d + 1
  | .slice elems spare => uptoBulkAll elems + uptoBulkAll spare + 1
  | .agg parts => uptoBulkAll parts + 1
  | .iface _ d => uptoBulk d + 1
  | .map entries => uptoBulkEntries entries + 1
  | .held _ => 1
def uptoBulkAll {H : Type} : List (DataW H) → Nat
  | [] => 0
  | d :: r => uptoBulk d + uptoBulkAll r
def uptoBulkEntries {H : Type} : List (Lit × DataW H) → Nat
  | [] => 0
  | x :: r => uptoBulkEntry x + uptoBulkEntries r
def uptoBulkEntry {H : Type} : Lit × DataW H → Nat
  | (.string bytes, d) => bytes.length + uptoBulk d + 1
  | (_, d) => uptoBulk d + 1
 end
def uptoSmall : (H : Type) → List (DataW H) → Bool := fun _ ds => decide (uptoBulkAll ds ≤ 1048576)
def OpenSpec.upto (s : _root_.Go.ChangeSpec) : _root_.Go.OpenSpec := { _root_.Go.OpenSpec.ofChange s with cond := some uptoSmall }

/-- 'allotmentlaw16.RightsMay', WHERE WHAT IT READS IS OF BULK AT MOST 1048576: true; the input reads as it did. -/
def rightsMayUptoRow : OpenClaim := { program := "ytfpgbicikpkkiaadoor", sum := "dd6679a8f57b94ec16edf0da19f254a11aa4b4d69a897cb34976dc795b22a382", func := "allotment/allotmentlaw16.RightsMay", spec := "rightsMay", named := ["allotment/rights.words"], apart := false, laid := [("allotment/rights.words", laid_allotment_rights_words)], narrowed := true }
def RightsMayUptoSaid : Prop := rightsMayUptoRow.holds Tryd.pinned (OpenSpec.upto rightsMaySpec)

/-- 'allotmentlaw16.RightsHas', WHERE WHAT IT READS IS OF BULK AT MOST 1048576: true; the input reads as it did. -/
def rightsHasUptoRow : OpenClaim := { program := "ytfpgbicikpkkiaadoor", sum := "dd6679a8f57b94ec16edf0da19f254a11aa4b4d69a897cb34976dc795b22a382", func := "allotment/allotmentlaw16.RightsHas", spec := "rightsHas", named := ["allotment/rights.words"], apart := false, laid := [("allotment/rights.words", laid_allotment_rights_words)], narrowed := true }
def RightsHasUptoSaid : Prop := rightsHasUptoRow.holds Tryd.pinned (OpenSpec.upto rightsHasSpec)

/-- 'allotmentlaw16.RightsNeeds', WHERE WHAT IT READS IS OF BULK AT MOST 1048576: true; the input reads as it did. -/
def rightsNeedsUptoRow : OpenClaim := { program := "ytfpgbicikpkkiaadoor", sum := "dd6679a8f57b94ec16edf0da19f254a11aa4b4d69a897cb34976dc795b22a382", func := "allotment/allotmentlaw16.RightsNeeds", spec := "rightsNeeds", named := ["allotment/rights.words"], apart := false, laid := [("allotment/rights.words", laid_allotment_rights_words)], narrowed := true }
def RightsNeedsUptoSaid : Prop := rightsNeedsUptoRow.holds Tryd.pinned (OpenSpec.upto rightsNeedsSpec)

/-- 'allotmentlaw16.RightsNames', WHERE WHAT IT READS IS OF BULK AT MOST 1048576: true; the input reads as it did. -/
def rightsNamesUptoRow : OpenClaim := { program := "ytfpgbicikpkkiaadoor", sum := "dd6679a8f57b94ec16edf0da19f254a11aa4b4d69a897cb34976dc795b22a382", func := "allotment/allotmentlaw16.RightsNames", spec := "rightsNames", named := ["allotment/rights.words"], apart := false, laid := [("allotment/rights.words", laid_allotment_rights_words)], narrowed := true }
def RightsNamesUptoSaid : Prop := rightsNamesUptoRow.holds Tryd.pinned (OpenSpec.upto rightsNamesSpec)

/-- 'allotmentlaw16.RightsMore', WHERE WHAT IT READS IS OF BULK AT MOST 1048576: true; the input reads as it did. -/
def rightsMoreUptoRow : OpenClaim := { program := "ytfpgbicikpkkiaadoor", sum := "dd6679a8f57b94ec16edf0da19f254a11aa4b4d69a897cb34976dc795b22a382", func := "allotment/allotmentlaw16.RightsMore", spec := "rightsMore", named := ["allotment/rights.words"], apart := false, laid := [("allotment/rights.words", laid_allotment_rights_words)], narrowed := true }
def RightsMoreUptoSaid : Prop := rightsMoreUptoRow.holds Tryd.pinned (OpenSpec.upto rightsMoreSpec)

end Rows
end Go.Proofs.YtfpgbicikpkkiaaDoor
