/-
  No cell of these rows narrows 'for every input' (looked for: loops, veiled, ifaces, maps, wideKeys, modest, calm, conditions, laid).
  DERIVED. THE GIVEN ROWS OF THIS SEAT. 6 by the template 'for every input the law returns true; each argument reads behind the call as it read before'; 0 by the template 'total and deterministic' (their statements: YtabhbeknpchpkaaTotals.lean).
  GIVEN WITH THE SEED: the statements are not yours to turn. If you find one false, say at which input.
  Laid BY PROGRAM, IN A SANDBOX (cutbox-rows.mjs): the forced cells as the released guide's own fill.sh prints them over the translation 4d377c8ff438b971… (all of the seat's roots in one cut). By AI agents, Wed Nov 11 2026. No macro, syntax, notation, axiom, sorry.
-/
import Derived.Test.YtabhbeknpchpkaaChecked
import GoSem.Claim
import GoSem.ClaimJoined
import GoSem.ClaimMapViews
import Derived.JoinedTies
import Derived.KernelRfl
namespace Go.Proofs.Ytabhbeknpchpkaa
/- THE CELL 'sum', in the pinned program and in every row, IS THE sha256 OF THE DUMP (.gsa) THAT YtabhbeknpchpkaaProg.lean LOADS. Nothing in Lean hashes anything: it is a label: what it is worth is what the hold of that sum in a sandbox is worth. -/
noncomputable def Try.pinned : Pinned := { name := "ytabhbeknpchpkaa", sum := "4d377c8ff438b97122935f39e7ddef04deb81d0e3a0c8ace59551dfd380fa57a", checked := Try.checked }
namespace Rows
def none {H : Type} : Left H := { results := [], args := [] }

/-- 'allotmentlaw13.ClockTurns': WHATEVER THE INPUT: true; the input reads as it did. -/
def clockTurnsSpec : ChangeSpec := { name := "clockTurns", fn := fun _ => fun
  | [d1, d2] => { results := [.lit (.bool true)], args := [d1, d2] }
  | _ => none }
def clockTurnsRow : OpenClaim := { program := "ytabhbeknpchpkaa", sum := "4d377c8ff438b97122935f39e7ddef04deb81d0e3a0c8ace59551dfd380fa57a", func := "allotment/allotmentlaw13.ClockTurns", spec := "clockTurns", unfollowed := true, recurses := true, apart := false }
def ClockTurnsSaid : Prop := clockTurnsRow.holds Try.pinned (OpenSpec.ofChange clockTurnsSpec)

/-- ITS FALSE NEIGHBOUR: 'it returns false'. Refute it at one input. -/
def clockTurnsWrong : ChangeSpec := { name := "clockTurns", fn := fun _ => fun
  | [d1, d2] => { results := [.lit (.bool false)], args := [d1, d2] }
  | _ => none }
def ClockTurnsWrongFalsely : Prop := clockTurnsRow.holds Try.pinned (OpenSpec.ofChange clockTurnsWrong)

/-- 'allotmentlaw13.ClockFinds': WHATEVER THE INPUT: true; the input reads as it did. -/
def clockFindsSpec : ChangeSpec := { name := "clockFinds", fn := fun _ => fun
  | [d1, d2] => { results := [.lit (.bool true)], args := [d1, d2] }
  | _ => none }
def clockFindsRow : OpenClaim := { program := "ytabhbeknpchpkaa", sum := "4d377c8ff438b97122935f39e7ddef04deb81d0e3a0c8ace59551dfd380fa57a", func := "allotment/allotmentlaw13.ClockFinds", spec := "clockFinds", unfollowed := true, recurses := true, apart := false }
def ClockFindsSaid : Prop := clockFindsRow.holds Try.pinned (OpenSpec.ofChange clockFindsSpec)

/-- ITS FALSE NEIGHBOUR: 'it returns false'. Refute it at one input. -/
def clockFindsWrong : ChangeSpec := { name := "clockFinds", fn := fun _ => fun
  | [d1, d2] => { results := [.lit (.bool false)], args := [d1, d2] }
  | _ => none }
def ClockFindsWrongFalsely : Prop := clockFindsRow.holds Try.pinned (OpenSpec.ofChange clockFindsWrong)

/-- 'allotmentlaw13.ClockSpares': WHATEVER THE INPUT: true; the input reads as it did. -/
def clockSparesSpec : ChangeSpec := { name := "clockSpares", fn := fun _ => fun
  | [d1, d2] => { results := [.lit (.bool true)], args := [d1, d2] }
  | _ => none }
def clockSparesRow : OpenClaim := { program := "ytabhbeknpchpkaa", sum := "4d377c8ff438b97122935f39e7ddef04deb81d0e3a0c8ace59551dfd380fa57a", func := "allotment/allotmentlaw13.ClockSpares", spec := "clockSpares", unfollowed := true, recurses := true, apart := false }
def ClockSparesSaid : Prop := clockSparesRow.holds Try.pinned (OpenSpec.ofChange clockSparesSpec)

/-- ITS FALSE NEIGHBOUR: 'it returns false'. Refute it at one input. -/
def clockSparesWrong : ChangeSpec := { name := "clockSpares", fn := fun _ => fun
  | [d1, d2] => { results := [.lit (.bool false)], args := [d1, d2] }
  | _ => none }
def ClockSparesWrongFalsely : Prop := clockSparesRow.holds Try.pinned (OpenSpec.ofChange clockSparesWrong)

/-- 'allotmentlaw13.ClockTouches': WHATEVER THE INPUT: true; the input reads as it did. -/
def clockTouchesSpec : ChangeSpec := { name := "clockTouches", fn := fun _ => fun
  | [d1, d2] => { results := [.lit (.bool true)], args := [d1, d2] }
  | _ => none }
def clockTouchesRow : OpenClaim := { program := "ytabhbeknpchpkaa", sum := "4d377c8ff438b97122935f39e7ddef04deb81d0e3a0c8ace59551dfd380fa57a", func := "allotment/allotmentlaw13.ClockTouches", spec := "clockTouches", unfollowed := true, recurses := true, apart := false }
def ClockTouchesSaid : Prop := clockTouchesRow.holds Try.pinned (OpenSpec.ofChange clockTouchesSpec)

/-- ITS FALSE NEIGHBOUR: 'it returns false'. Refute it at one input. -/
def clockTouchesWrong : ChangeSpec := { name := "clockTouches", fn := fun _ => fun
  | [d1, d2] => { results := [.lit (.bool false)], args := [d1, d2] }
  | _ => none }
def ClockTouchesWrongFalsely : Prop := clockTouchesRow.holds Try.pinned (OpenSpec.ofChange clockTouchesWrong)

/-- 'allotmentlaw13.ClockRounds': WHATEVER THE INPUT: true; the input reads as it did. -/
def clockRoundsSpec : ChangeSpec := { name := "clockRounds", fn := fun _ => fun
  | [d1, d2] => { results := [.lit (.bool true)], args := [d1, d2] }
  | _ => none }
def clockRoundsRow : OpenClaim := { program := "ytabhbeknpchpkaa", sum := "4d377c8ff438b97122935f39e7ddef04deb81d0e3a0c8ace59551dfd380fa57a", func := "allotment/allotmentlaw13.ClockRounds", spec := "clockRounds", unfollowed := true, recurses := true, apart := false }
def ClockRoundsSaid : Prop := clockRoundsRow.holds Try.pinned (OpenSpec.ofChange clockRoundsSpec)

/-- ITS FALSE NEIGHBOUR: 'it returns false'. Refute it at one input. -/
def clockRoundsWrong : ChangeSpec := { name := "clockRounds", fn := fun _ => fun
  | [d1, d2] => { results := [.lit (.bool false)], args := [d1, d2] }
  | _ => none }
def ClockRoundsWrongFalsely : Prop := clockRoundsRow.holds Try.pinned (OpenSpec.ofChange clockRoundsWrong)

/-- 'allotmentlaw13.ClockSecond': WHATEVER THE INPUT: true; the input reads as it did. -/
def clockSecondSpec : ChangeSpec := { name := "clockSecond", fn := fun _ => fun
  | [d1, d2] => { results := [.lit (.bool true)], args := [d1, d2] }
  | _ => none }
def clockSecondRow : OpenClaim := { program := "ytabhbeknpchpkaa", sum := "4d377c8ff438b97122935f39e7ddef04deb81d0e3a0c8ace59551dfd380fa57a", func := "allotment/allotmentlaw13.ClockSecond", spec := "clockSecond", unfollowed := true, recurses := true, apart := false }
def ClockSecondSaid : Prop := clockSecondRow.holds Try.pinned (OpenSpec.ofChange clockSecondSpec)

/-- ITS FALSE NEIGHBOUR: 'it returns false'. Refute it at one input. -/
def clockSecondWrong : ChangeSpec := { name := "clockSecond", fn := fun _ => fun
  | [d1, d2] => { results := [.lit (.bool false)], args := [d1, d2] }
  | _ => none }
def ClockSecondWrongFalsely : Prop := clockSecondRow.holds Try.pinned (OpenSpec.ofChange clockSecondWrong)

/- THE SECOND FORM. 'bulk': how many values and letters a reading holds, each counted each time it is reached (what is shared counts as often as it is met; a slice's spare places count too). A statement '..UptoSaid' is the law's where the arguments, and the package variables that the reading takes, are together of bulk at most 1048576: NARROWER than '..Said'. Prove '..Said' where nothing that the law and all that it calls make is longer than what came in: it says more and counts as full. Else prove '..UptoSaid'. A law counts once. -/
mutual
def uptoBulk {H : Type} : DataW H → Nat
  | .lit (.string bytes) => bytes.length + 1
  | .lit _ => 1
  | .nil => 1
  | .ptr d => uptoBulk d + 1
  | .slice elems spare => uptoBulkAll elems + uptoBulkAll spare + 1
  | .agg parts => uptoBulkAll parts + 1
  | .iface _ d => uptoBulk d + 1
  | .map entries => uptoBulkEntries entries + 1
  | .held _ => 1
def uptoBulkAll {H : Type} : List (DataW H) → Nat
  | [] => 0
  | d :: r => uptoBulk d + uptoBulkAll r
def uptoBulkEntries {H : Type} : List (Lit × DataW H) → Nat
  | [] => 0
  | x :: r => uptoBulkEntry x + uptoBulkEntries r
def uptoBulkEntry {H : Type} : Lit × DataW H → Nat
  | (.string bytes, d) => bytes.length + uptoBulk d + 1
  | (_, d) => uptoBulk d + 1
 end
def uptoSmall : (H : Type) → List (DataW H) → Bool := fun _ ds => decide (uptoBulkAll ds ≤ 1048576)
def OpenSpec.upto (s : _root_.Go.ChangeSpec) : _root_.Go.OpenSpec := { _root_.Go.OpenSpec.ofChange s with cond := some uptoSmall }

/-- 'allotmentlaw13.ClockTurns', WHERE WHAT IT READS IS OF BULK AT MOST 1048576: true; the input reads as it did. -/
def clockTurnsUptoRow : OpenClaim := { program := "ytabhbeknpchpkaa", sum := "4d377c8ff438b97122935f39e7ddef04deb81d0e3a0c8ace59551dfd380fa57a", func := "allotment/allotmentlaw13.ClockTurns", spec := "clockTurns", unfollowed := true, recurses := true, apart := false, narrowed := true }
def ClockTurnsUptoSaid : Prop := clockTurnsUptoRow.holds Try.pinned (OpenSpec.upto clockTurnsSpec)

/-- 'allotmentlaw13.ClockFinds', WHERE WHAT IT READS IS OF BULK AT MOST 1048576: true; the input reads as it did. -/
def clockFindsUptoRow : OpenClaim := { program := "ytabhbeknpchpkaa", sum := "4d377c8ff438b97122935f39e7ddef04deb81d0e3a0c8ace59551dfd380fa57a", func := "allotment/allotmentlaw13.ClockFinds", spec := "clockFinds", unfollowed := true, recurses := true, apart := false, narrowed := true }
def ClockFindsUptoSaid : Prop := clockFindsUptoRow.holds Try.pinned (OpenSpec.upto clockFindsSpec)

/-- 'allotmentlaw13.ClockSpares', WHERE WHAT IT READS IS OF BULK AT MOST 1048576: true; the input reads as it did. -/
def clockSparesUptoRow : OpenClaim := { program := "ytabhbeknpchpkaa", sum := "4d377c8ff438b97122935f39e7ddef04deb81d0e3a0c8ace59551dfd380fa57a", func := "allotment/allotmentlaw13.ClockSpares", spec := "clockSpares", unfollowed := true, recurses := true, apart := false, narrowed := true }
def ClockSparesUptoSaid : Prop := clockSparesUptoRow.holds Try.pinned (OpenSpec.upto clockSparesSpec)

/-- 'allotmentlaw13.ClockTouches', WHERE WHAT IT READS IS OF BULK AT MOST 1048576: true; the input reads as it did. -/
def clockTouchesUptoRow : OpenClaim := { program := "ytabhbeknpchpkaa", sum := "4d377c8ff438b97122935f39e7ddef04deb81d0e3a0c8ace59551dfd380fa57a", func := "allotment/allotmentlaw13.ClockTouches", spec := "clockTouches", unfollowed := true, recurses := true, apart := false, narrowed := true }
def ClockTouchesUptoSaid : Prop := clockTouchesUptoRow.holds Try.pinned (OpenSpec.upto clockTouchesSpec)

/-- 'allotmentlaw13.ClockRounds', WHERE WHAT IT READS IS OF BULK AT MOST 1048576: true; the input reads as it did. -/
def clockRoundsUptoRow : OpenClaim := { program := "ytabhbeknpchpkaa", sum := "4d377c8ff438b97122935f39e7ddef04deb81d0e3a0c8ace59551dfd380fa57a", func := "allotment/allotmentlaw13.ClockRounds", spec := "clockRounds", unfollowed := true, recurses := true, apart := false, narrowed := true }
def ClockRoundsUptoSaid : Prop := clockRoundsUptoRow.holds Try.pinned (OpenSpec.upto clockRoundsSpec)

/-- 'allotmentlaw13.ClockSecond', WHERE WHAT IT READS IS OF BULK AT MOST 1048576: true; the input reads as it did. -/
def clockSecondUptoRow : OpenClaim := { program := "ytabhbeknpchpkaa", sum := "4d377c8ff438b97122935f39e7ddef04deb81d0e3a0c8ace59551dfd380fa57a", func := "allotment/allotmentlaw13.ClockSecond", spec := "clockSecond", unfollowed := true, recurses := true, apart := false, narrowed := true }
def ClockSecondUptoSaid : Prop := clockSecondUptoRow.holds Try.pinned (OpenSpec.upto clockSecondSpec)

end Rows
end Go.Proofs.Ytabhbeknpchpkaa
