/-
  No cell of these rows narrows 'for every input' (looked for: loops, veiled, ifaces, maps, wideKeys, modest, calm, conditions, laid).
  DERIVED. THE GIVEN ROWS OF THIS SEAT. 5 by the template 'for every input the law returns true; each argument reads behind the call as it read before'; 0 by the template 'total and deterministic' (their statements: YtlcphhlimcnnaaaTotals.lean).
  GIVEN WITH THE SEED: the statements are not yours to turn. If you find one false, say at which input.
  Laid BY PROGRAM, IN A SANDBOX (cutbox-rows.mjs): the forced cells as the released guide's own fill.sh prints them over the translation 6ef44df982199633… (all of the seat's roots in one cut). By AI agents, Wed Nov 11 2026. No macro, syntax, notation, axiom, sorry.
-/
import Derived.Test.YtlcphhlimcnnaaaChecked
import GoSem.Claim
import GoSem.ClaimJoined
import GoSem.ClaimMapViews
import Derived.JoinedTies
import Derived.KernelRfl
namespace Go.Proofs.Ytlcphhlimcnnaaa
/- THE CELL 'sum', in the pinned program and in every row, IS THE sha256 OF THE DUMP (.gsa) THAT YtlcphhlimcnnaaaProg.lean LOADS. Nothing in Lean hashes anything: it is a label: what it is worth is what the hold of that sum in a sandbox is worth. -/
noncomputable def Try.pinned : Pinned := { name := "ytlcphhlimcnnaaa", sum := "6ef44df98219963387d5a2da1d5fc3c9a8f0feb9ca701e4fc716d3bd193ab408", checked := Try.checked }
namespace Rows
def none {H : Type} : Left H := { results := [], args := [] }

/-- 'allotmentlaw06.SuperMay': WHATEVER THE INPUT: true; the input reads as it did. -/
def superMaySpec : ChangeSpec := { name := "superMay", fn := fun _ => fun
  | [d1, d2] => { results := [.lit (.bool true)], args := [d1, d2] }
  | _ => none }
def superMayRow : OpenClaim := { program := "ytlcphhlimcnnaaa", sum := "6ef44df98219963387d5a2da1d5fc3c9a8f0feb9ca701e4fc716d3bd193ab408", func := "allotment/allotmentlaw06.SuperMay", spec := "superMay", apart := false }
def SuperMaySaid : Prop := superMayRow.holds Try.pinned (OpenSpec.ofChange superMaySpec)

/-- ITS FALSE NEIGHBOUR: 'it returns false'. Refute it at one input. -/
def superMayWrong : ChangeSpec := { name := "superMay", fn := fun _ => fun
  | [d1, d2] => { results := [.lit (.bool false)], args := [d1, d2] }
  | _ => none }
def SuperMayWrongFalsely : Prop := superMayRow.holds Try.pinned (OpenSpec.ofChange superMayWrong)

/-- 'allotmentlaw06.SuperRound': WHATEVER THE INPUT: true; the input reads as it did. -/
def superRoundSpec : ChangeSpec := { name := "superRound", fn := fun _ => fun
  | [d1, d2, d3, d4] => { results := [.lit (.bool true)], args := [d1, d2, d3, d4] }
  | _ => none }
def superRoundRow : OpenClaim := { program := "ytlcphhlimcnnaaa", sum := "6ef44df98219963387d5a2da1d5fc3c9a8f0feb9ca701e4fc716d3bd193ab408", func := "allotment/allotmentlaw06.SuperRound", spec := "superRound", apart := false }
def SuperRoundSaid : Prop := superRoundRow.holds Try.pinned (OpenSpec.ofChange superRoundSpec)

/-- ITS FALSE NEIGHBOUR: 'it returns false'. Refute it at one input. -/
def superRoundWrong : ChangeSpec := { name := "superRound", fn := fun _ => fun
  | [d1, d2, d3, d4] => { results := [.lit (.bool false)], args := [d1, d2, d3, d4] }
  | _ => none }
def SuperRoundWrongFalsely : Prop := superRoundRow.holds Try.pinned (OpenSpec.ofChange superRoundWrong)

/-- 'allotmentlaw06.SuperNext': WHATEVER THE INPUT: true; the input reads as it did. -/
def superNextSpec : ChangeSpec := { name := "superNext", fn := fun _ => fun
  | [d1, d2] => { results := [.lit (.bool true)], args := [d1, d2] }
  | _ => none }
def superNextRow : OpenClaim := { program := "ytlcphhlimcnnaaa", sum := "6ef44df98219963387d5a2da1d5fc3c9a8f0feb9ca701e4fc716d3bd193ab408", func := "allotment/allotmentlaw06.SuperNext", spec := "superNext", apart := false }
def SuperNextSaid : Prop := superNextRow.holds Try.pinned (OpenSpec.ofChange superNextSpec)

/-- ITS FALSE NEIGHBOUR: 'it returns false'. Refute it at one input. -/
def superNextWrong : ChangeSpec := { name := "superNext", fn := fun _ => fun
  | [d1, d2] => { results := [.lit (.bool false)], args := [d1, d2] }
  | _ => none }
def SuperNextWrongFalsely : Prop := superNextRow.holds Try.pinned (OpenSpec.ofChange superNextWrong)

/-- 'allotmentlaw06.SuperSame': WHATEVER THE INPUT: true; the input reads as it did. -/
def superSameSpec : ChangeSpec := { name := "superSame", fn := fun _ => fun
  | [d1, d2, d3, d4] => { results := [.lit (.bool true)], args := [d1, d2, d3, d4] }
  | _ => none }
def superSameRow : OpenClaim := { program := "ytlcphhlimcnnaaa", sum := "6ef44df98219963387d5a2da1d5fc3c9a8f0feb9ca701e4fc716d3bd193ab408", func := "allotment/allotmentlaw06.SuperSame", spec := "superSame", apart := false }
def SuperSameSaid : Prop := superSameRow.holds Try.pinned (OpenSpec.ofChange superSameSpec)

/-- ITS FALSE NEIGHBOUR: 'it returns false'. Refute it at one input. -/
def superSameWrong : ChangeSpec := { name := "superSame", fn := fun _ => fun
  | [d1, d2, d3, d4] => { results := [.lit (.bool false)], args := [d1, d2, d3, d4] }
  | _ => none }
def SuperSameWrongFalsely : Prop := superSameRow.holds Try.pinned (OpenSpec.ofChange superSameWrong)

/-- 'allotmentlaw06.SuperSizes': WHATEVER THE INPUT: true; the input reads as it did. -/
def superSizesSpec : ChangeSpec := { name := "superSizes", fn := fun _ => fun
  | [d1, d2] => { results := [.lit (.bool true)], args := [d1, d2] }
  | _ => none }
def superSizesRow : OpenClaim := { program := "ytlcphhlimcnnaaa", sum := "6ef44df98219963387d5a2da1d5fc3c9a8f0feb9ca701e4fc716d3bd193ab408", func := "allotment/allotmentlaw06.SuperSizes", spec := "superSizes", apart := false }
def SuperSizesSaid : Prop := superSizesRow.holds Try.pinned (OpenSpec.ofChange superSizesSpec)

/-- ITS FALSE NEIGHBOUR: 'it returns false'. Refute it at one input. -/
def superSizesWrong : ChangeSpec := { name := "superSizes", fn := fun _ => fun
  | [d1, d2] => { results := [.lit (.bool false)], args := [d1, d2] }
  | _ => none }
def SuperSizesWrongFalsely : Prop := superSizesRow.holds Try.pinned (OpenSpec.ofChange superSizesWrong)

/- THE SECOND FORM. 'bulk': how many values and letters a reading holds, each counted each time it is reached (what is shared counts as often as it is met; a slice's spare places count too). A statement '..UptoSaid' is the law's where the arguments, and the package variables that the reading takes, are together of bulk at most 1048576: NARROWER than '..Said'. Prove '..Said' where nothing that the law and all that it calls make is longer than what came in: it says more and counts as full. Else prove '..UptoSaid'. A law counts once. -/
mutual
def uptoBulk {H : Type} : DataW H → Nat
  | .lit (.string bytes) => bytes.length + 1
  | .lit _ => 1
  | .nil => 1
  | .ptr d => uptoBulk d + 1
  | .slice elems spare => uptoBulkAll elems + uptoBulkAll spare + 1
  | .agg parts => uptoBulkAll parts + 1
  | .iface _ d => uptoBulk d + 1
  | .map entries => uptoBulkEntries entries + 1
  | .held _ => 1
def uptoBulkAll {H : Type} : List (DataW H) → Nat
  | [] => 0
  | d :: r => uptoBulk d + uptoBulkAll r
def uptoBulkEntries {H : Type} : List (Lit × DataW H) → Nat
  | [] => 0
  | x :: r => uptoBulkEntry x + uptoBulkEntries r
def uptoBulkEntry {H : Type} : Lit × DataW H → Nat
  | (.string bytes, d) => bytes.length + uptoBulk d + 1
  | (_, d) => uptoBulk d + 1
 end
def uptoSmall : (H : Type) → List (DataW H) → Bool := fun _ ds => decide (uptoBulkAll ds ≤ 1048576)
def OpenSpec.upto (s : _root_.Go.ChangeSpec) : _root_.Go.OpenSpec := { _root_.Go.OpenSpec.ofChange s with cond := some uptoSmall }

/-- 'allotmentlaw06.SuperMay', WHERE WHAT IT READS IS OF BULK AT MOST 1048576: true; the input reads as it did. -/
def superMayUptoRow : OpenClaim := { program := "ytlcphhlimcnnaaa", sum := "6ef44df98219963387d5a2da1d5fc3c9a8f0feb9ca701e4fc716d3bd193ab408", func := "allotment/allotmentlaw06.SuperMay", spec := "superMay", apart := false, narrowed := true }
def SuperMayUptoSaid : Prop := superMayUptoRow.holds Try.pinned (OpenSpec.upto superMaySpec)

/-- 'allotmentlaw06.SuperRound', WHERE WHAT IT READS IS OF BULK AT MOST 1048576: true; the input reads as it did. -/
def superRoundUptoRow : OpenClaim := { program := "ytlcphhlimcnnaaa", sum := "6ef44df98219963387d5a2da1d5fc3c9a8f0feb9ca701e4fc716d3bd193ab408", func := "allotment/allotmentlaw06.SuperRound", spec := "superRound", apart := false, narrowed := true }
def SuperRoundUptoSaid : Prop := superRoundUptoRow.holds Try.pinned (OpenSpec.upto superRoundSpec)

/-- 'allotmentlaw06.SuperNext', WHERE WHAT IT READS IS OF BULK AT MOST 1048576: true; the input reads as it did. -/
def superNextUptoRow : OpenClaim := { program := "ytlcphhlimcnnaaa", sum := "6ef44df98219963387d5a2da1d5fc3c9a8f0feb9ca701e4fc716d3bd193ab408", func := "allotment/allotmentlaw06.SuperNext", spec := "superNext", apart := false, narrowed := true }
def SuperNextUptoSaid : Prop := superNextUptoRow.holds Try.pinned (OpenSpec.upto superNextSpec)

/-- 'allotmentlaw06.SuperSame', WHERE WHAT IT READS IS OF BULK AT MOST 1048576: true; the input reads as it did. -/
def superSameUptoRow : OpenClaim := { program := "ytlcphhlimcnnaaa", sum := "6ef44df98219963387d5a2da1d5fc3c9a8f0feb9ca701e4fc716d3bd193ab408", func := "allotment/allotmentlaw06.SuperSame", spec := "superSame", apart := false, narrowed := true }
def SuperSameUptoSaid : Prop := superSameUptoRow.holds Try.pinned (OpenSpec.upto superSameSpec)

/-- 'allotmentlaw06.SuperSizes', WHERE WHAT IT READS IS OF BULK AT MOST 1048576: true; the input reads as it did. -/
def superSizesUptoRow : OpenClaim := { program := "ytlcphhlimcnnaaa", sum := "6ef44df98219963387d5a2da1d5fc3c9a8f0feb9ca701e4fc716d3bd193ab408", func := "allotment/allotmentlaw06.SuperSizes", spec := "superSizes", apart := false, narrowed := true }
def SuperSizesUptoSaid : Prop := superSizesUptoRow.holds Try.pinned (OpenSpec.upto superSizesSpec)

end Rows
end Go.Proofs.Ytlcphhlimcnnaaa
