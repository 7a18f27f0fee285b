/-
  No cell of these rows narrows 'for every input' (looked for: loops, veiled, ifaces, maps, wideKeys, modest, calm, conditions, laid).
  DERIVED. THE GIVEN ROWS OF THIS SEAT. 6 by the template 'for every input the law returns true; each argument reads behind the call as it read before'; 0 by the template 'total and deterministic' (their statements: YthdhfojogckflaaTotals.lean).
  GIVEN WITH THE SEED: the statements are not yours to turn. If you find one false, say at which input.
  Laid BY PROGRAM, IN A SANDBOX (cutbox-rows.mjs): the forced cells as the released guide's own fill.sh prints them over the translation fda2838b7e7cb7c1… (all of the seat's roots in one cut). By AI agents, Wed Nov 11 2026. No macro, syntax, notation, axiom, sorry.
-/
import Derived.Test.YthdhfojogckflaaChecked
import GoSem.Claim
import GoSem.ClaimJoined
import GoSem.ClaimMapViews
import Derived.JoinedTies
import Derived.KernelRfl
namespace Go.Proofs.Ythdhfojogckflaa
/- THE CELL 'sum', in the pinned program and in every row, IS THE sha256 OF THE DUMP (.gsa) THAT YthdhfojogckflaaProg.lean LOADS. Nothing in Lean hashes anything: it is a label: what it is worth is what the hold of that sum in a sandbox is worth. -/
noncomputable def Try.pinned : Pinned := { name := "ythdhfojogckflaa", sum := "fda2838b7e7cb7c1b9e64ff31bfb9b23b6b606a18a9cc8b22ba3b2e8688fdeb7", checked := Try.checked }
namespace Rows
def none {H : Type} : Left H := { results := [], args := [] }

/-- 'allotmentlaw14.PartPlays': WHATEVER THE INPUT: true; the input reads as it did. -/
def partPlaysSpec : ChangeSpec := { name := "partPlays", fn := fun _ => fun
  | [d1, d2] => { results := [.lit (.bool true)], args := [d1, d2] }
  | _ => none }
def partPlaysRow : OpenClaim := { program := "ythdhfojogckflaa", sum := "fda2838b7e7cb7c1b9e64ff31bfb9b23b6b606a18a9cc8b22ba3b2e8688fdeb7", func := "allotment/allotmentlaw14.PartPlays", spec := "partPlays", unfollowed := true, recurses := true, apart := false }
def PartPlaysSaid : Prop := partPlaysRow.holds Try.pinned (OpenSpec.ofChange partPlaysSpec)

/-- ITS FALSE NEIGHBOUR: 'it returns false'. Refute it at one input. -/
def partPlaysWrong : ChangeSpec := { name := "partPlays", fn := fun _ => fun
  | [d1, d2] => { results := [.lit (.bool false)], args := [d1, d2] }
  | _ => none }
def PartPlaysWrongFalsely : Prop := partPlaysRow.holds Try.pinned (OpenSpec.ofChange partPlaysWrong)

/-- 'allotmentlaw14.PartFinds': WHATEVER THE INPUT: true; the input reads as it did. -/
def partFindsSpec : ChangeSpec := { name := "partFinds", fn := fun _ => fun
  | [d1, d2, d3] => { results := [.lit (.bool true)], args := [d1, d2, d3] }
  | _ => none }
def partFindsRow : OpenClaim := { program := "ythdhfojogckflaa", sum := "fda2838b7e7cb7c1b9e64ff31bfb9b23b6b606a18a9cc8b22ba3b2e8688fdeb7", func := "allotment/allotmentlaw14.PartFinds", spec := "partFinds", unfollowed := true, recurses := true, apart := false }
def PartFindsSaid : Prop := partFindsRow.holds Try.pinned (OpenSpec.ofChange partFindsSpec)

/-- ITS FALSE NEIGHBOUR: 'it returns false'. Refute it at one input. -/
def partFindsWrong : ChangeSpec := { name := "partFinds", fn := fun _ => fun
  | [d1, d2, d3] => { results := [.lit (.bool false)], args := [d1, d2, d3] }
  | _ => none }
def PartFindsWrongFalsely : Prop := partFindsRow.holds Try.pinned (OpenSpec.ofChange partFindsWrong)

/-- 'allotmentlaw14.PartNews': WHATEVER THE INPUT: true; the input reads as it did. -/
def partNewsSpec : ChangeSpec := { name := "partNews", fn := fun _ => fun
  | [d] => { results := [.lit (.bool true)], args := [d] }
  | _ => none }
def partNewsRow : OpenClaim := { program := "ythdhfojogckflaa", sum := "fda2838b7e7cb7c1b9e64ff31bfb9b23b6b606a18a9cc8b22ba3b2e8688fdeb7", func := "allotment/allotmentlaw14.PartNews", spec := "partNews", unfollowed := true, recurses := true, apart := false }
def PartNewsSaid : Prop := partNewsRow.holds Try.pinned (OpenSpec.ofChange partNewsSpec)

/-- ITS FALSE NEIGHBOUR: 'it returns false'. Refute it at one input. -/
def partNewsWrong : ChangeSpec := { name := "partNews", fn := fun _ => fun
  | [d] => { results := [.lit (.bool false)], args := [d] }
  | _ => none }
def PartNewsWrongFalsely : Prop := partNewsRow.holds Try.pinned (OpenSpec.ofChange partNewsWrong)

/-- 'allotmentlaw14.PartClears': WHATEVER THE INPUT: true; the input reads as it did. -/
def partClearsSpec : ChangeSpec := { name := "partClears", fn := fun _ => fun
  | [d1, d2, d3] => { results := [.lit (.bool true)], args := [d1, d2, d3] }
  | _ => none }
def partClearsRow : OpenClaim := { program := "ythdhfojogckflaa", sum := "fda2838b7e7cb7c1b9e64ff31bfb9b23b6b606a18a9cc8b22ba3b2e8688fdeb7", func := "allotment/allotmentlaw14.PartClears", spec := "partClears", unfollowed := true, recurses := true, apart := false }
def PartClearsSaid : Prop := partClearsRow.holds Try.pinned (OpenSpec.ofChange partClearsSpec)

/-- ITS FALSE NEIGHBOUR: 'it returns false'. Refute it at one input. -/
def partClearsWrong : ChangeSpec := { name := "partClears", fn := fun _ => fun
  | [d1, d2, d3] => { results := [.lit (.bool false)], args := [d1, d2, d3] }
  | _ => none }
def PartClearsWrongFalsely : Prop := partClearsRow.holds Try.pinned (OpenSpec.ofChange partClearsWrong)

/-- 'allotmentlaw14.PartKeeps': WHATEVER THE INPUT: true; the input reads as it did. -/
def partKeepsSpec : ChangeSpec := { name := "partKeeps", fn := fun _ => fun
  | [d1, d2, d3] => { results := [.lit (.bool true)], args := [d1, d2, d3] }
  | _ => none }
def partKeepsRow : OpenClaim := { program := "ythdhfojogckflaa", sum := "fda2838b7e7cb7c1b9e64ff31bfb9b23b6b606a18a9cc8b22ba3b2e8688fdeb7", func := "allotment/allotmentlaw14.PartKeeps", spec := "partKeeps", unfollowed := true, recurses := true, apart := false }
def PartKeepsSaid : Prop := partKeepsRow.holds Try.pinned (OpenSpec.ofChange partKeepsSpec)

/-- ITS FALSE NEIGHBOUR: 'it returns false'. Refute it at one input. -/
def partKeepsWrong : ChangeSpec := { name := "partKeeps", fn := fun _ => fun
  | [d1, d2, d3] => { results := [.lit (.bool false)], args := [d1, d2, d3] }
  | _ => none }
def PartKeepsWrongFalsely : Prop := partKeepsRow.holds Try.pinned (OpenSpec.ofChange partKeepsWrong)

/-- 'allotmentlaw14.PartRounds': WHATEVER THE INPUT: true; the input reads as it did. -/
def partRoundsSpec : ChangeSpec := { name := "partRounds", fn := fun _ => fun
  | [d1, d2] => { results := [.lit (.bool true)], args := [d1, d2] }
  | _ => none }
def partRoundsRow : OpenClaim := { program := "ythdhfojogckflaa", sum := "fda2838b7e7cb7c1b9e64ff31bfb9b23b6b606a18a9cc8b22ba3b2e8688fdeb7", func := "allotment/allotmentlaw14.PartRounds", spec := "partRounds", unfollowed := true, recurses := true, apart := false }
def PartRoundsSaid : Prop := partRoundsRow.holds Try.pinned (OpenSpec.ofChange partRoundsSpec)

/-- ITS FALSE NEIGHBOUR: 'it returns false'. Refute it at one input. -/
def partRoundsWrong : ChangeSpec := { name := "partRounds", fn := fun _ => fun
  | [d1, d2] => { results := [.lit (.bool false)], args := [d1, d2] }
  | _ => none }
def PartRoundsWrongFalsely : Prop := partRoundsRow.holds Try.pinned (OpenSpec.ofChange partRoundsWrong)

/- THE SECOND FORM. 'bulk': how many values and letters a reading holds, each counted each time it is reached (what is shared counts as often as it is met; a slice's spare places count too). A statement '..UptoSaid' is the law's where the arguments, and the package variables that the reading takes, are together of bulk at most 1048576: NARROWER than '..Said'. Prove '..Said' where nothing that the law and all that it calls make is longer than what came in: it says more and counts as full. Else prove '..UptoSaid'. A law counts once. -/
mutual
def uptoBulk {H : Type} : DataW H → Nat
  | .lit (.string bytes) => bytes.length + 1
  | .lit _ => 1
  | .nil => 1
  | .ptr d => uptoBulk d + 1
  | .slice elems spare => uptoBulkAll elems + uptoBulkAll spare + 1
  | .agg parts => uptoBulkAll parts + 1
  | .iface _ d => uptoBulk d + 1
  | .map entries => uptoBulkEntries entries + 1
  | .held _ => 1
def uptoBulkAll {H : Type} : List (DataW H) → Nat
  | [] => 0
  | d :: r => uptoBulk d + uptoBulkAll r
def uptoBulkEntries {H : Type} : List (Lit × DataW H) → Nat
  | [] => 0
  | x :: r => uptoBulkEntry x + uptoBulkEntries r
def uptoBulkEntry {H : Type} : Lit × DataW H → Nat
  | (.string bytes, d) => bytes.length + uptoBulk d + 1
  | (_, d) => uptoBulk d + 1
 end
def uptoSmall : (H : Type) → List (DataW H) → Bool := fun _ ds => decide (uptoBulkAll ds ≤ 1048576)
def OpenSpec.upto (s : _root_.Go.ChangeSpec) : _root_.Go.OpenSpec := { _root_.Go.OpenSpec.ofChange s with cond := some uptoSmall }

/-- 'allotmentlaw14.PartPlays', WHERE WHAT IT READS IS OF BULK AT MOST 1048576: true; the input reads as it did. -/
def partPlaysUptoRow : OpenClaim := { program := "ythdhfojogckflaa", sum := "fda2838b7e7cb7c1b9e64ff31bfb9b23b6b606a18a9cc8b22ba3b2e8688fdeb7", func := "allotment/allotmentlaw14.PartPlays", spec := "partPlays", unfollowed := true, recurses := true, apart := false, narrowed := true }
def PartPlaysUptoSaid : Prop := partPlaysUptoRow.holds Try.pinned (OpenSpec.upto partPlaysSpec)

/-- 'allotmentlaw14.PartFinds', WHERE WHAT IT READS IS OF BULK AT MOST 1048576: true; the input reads as it did. -/
def partFindsUptoRow : OpenClaim := { program := "ythdhfojogckflaa", sum := "fda2838b7e7cb7c1b9e64ff31bfb9b23b6b606a18a9cc8b22ba3b2e8688fdeb7", func := "allotment/allotmentlaw14.PartFinds", spec := "partFinds", unfollowed := true, recurses := true, apart := false, narrowed := true }
def PartFindsUptoSaid : Prop := partFindsUptoRow.holds Try.pinned (OpenSpec.upto partFindsSpec)

/-- 'allotmentlaw14.PartNews', WHERE WHAT IT READS IS OF BULK AT MOST 1048576: true; the input reads as it did. -/
def partNewsUptoRow : OpenClaim := { program := "ythdhfojogckflaa", sum := "fda2838b7e7cb7c1b9e64ff31bfb9b23b6b606a18a9cc8b22ba3b2e8688fdeb7", func := "allotment/allotmentlaw14.PartNews", spec := "partNews", unfollowed := true, recurses := true, apart := false, narrowed := true }
def PartNewsUptoSaid : Prop := partNewsUptoRow.holds Try.pinned (OpenSpec.upto partNewsSpec)

/-- 'allotmentlaw14.PartClears', WHERE WHAT IT READS IS OF BULK AT MOST 1048576: true; the input reads as it did. -/
def partClearsUptoRow : OpenClaim := { program := "ythdhfojogckflaa", sum := "fda2838b7e7cb7c1b9e64ff31bfb9b23b6b606a18a9cc8b22ba3b2e8688fdeb7", func := "allotment/allotmentlaw14.PartClears", spec := "partClears", unfollowed := true, recurses := true, apart := false, narrowed := true }
def PartClearsUptoSaid : Prop := partClearsUptoRow.holds Try.pinned (OpenSpec.upto partClearsSpec)

/-- 'allotmentlaw14.PartKeeps', WHERE WHAT IT READS IS OF BULK AT MOST 1048576: true; the input reads as it did. -/
def partKeepsUptoRow : OpenClaim := { program := "ythdhfojogckflaa", sum := "fda2838b7e7cb7c1b9e64ff31bfb9b23b6b606a18a9cc8b22ba3b2e8688fdeb7", func := "allotment/allotmentlaw14.PartKeeps", spec := "partKeeps", unfollowed := true, recurses := true, apart := false, narrowed := true }
def PartKeepsUptoSaid : Prop := partKeepsUptoRow.holds Try.pinned (OpenSpec.upto partKeepsSpec)

/-- 'allotmentlaw14.PartRounds', WHERE WHAT IT READS IS OF BULK AT MOST 1048576: true; the input reads as it did. -/
def partRoundsUptoRow : OpenClaim := { program := "ythdhfojogckflaa", sum := "fda2838b7e7cb7c1b9e64ff31bfb9b23b6b606a18a9cc8b22ba3b2e8688fdeb7", func := "allotment/allotmentlaw14.PartRounds", spec := "partRounds", unfollowed := true, recurses := true, apart := false, narrowed := true }
def PartRoundsUptoSaid : Prop := partRoundsUptoRow.holds Try.pinned (OpenSpec.upto partRoundsSpec)

end Rows
end Go.Proofs.Ythdhfojogckflaa
