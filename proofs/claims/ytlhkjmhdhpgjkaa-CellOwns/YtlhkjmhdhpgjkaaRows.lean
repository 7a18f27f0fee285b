/-
  No cell of these rows narrows 'for every input' (looked for: loops, veiled, ifaces, maps, wideKeys, modest, calm, conditions, laid).
  DERIVED. THE GIVEN ROWS OF THIS SEAT. 6 by the template 'for every input the law returns true; each argument reads behind the call as it read before'; 0 by the template 'total and deterministic' (their statements: YtlhkjmhdhpgjkaaTotals.lean).
  GIVEN WITH THE SEED: the statements are not yours to turn. If you find one false, say at which input.
  Laid BY PROGRAM, IN A SANDBOX (cutbox-rows.mjs): the forced cells as the released guide's own fill.sh prints them over the translation 82696578c8ab86a8… (all of the seat's roots in one cut). By AI agents, Wed Nov 11 2026. No macro, syntax, notation, axiom, sorry.
-/
import Derived.Test.YtlhkjmhdhpgjkaaChecked
import GoSem.Claim
import GoSem.ClaimJoined
import GoSem.ClaimMapViews
import Derived.JoinedTies
import Derived.KernelRfl
namespace Go.Proofs.Ytlhkjmhdhpgjkaa
/- THE CELL 'sum', in the pinned program and in every row, IS THE sha256 OF THE DUMP (.gsa) THAT YtlhkjmhdhpgjkaaProg.lean LOADS. Nothing in Lean hashes anything: it is a label: what it is worth is what the hold of that sum in a sandbox is worth. -/
noncomputable def Try.pinned : Pinned := { name := "ytlhkjmhdhpgjkaa", sum := "82696578c8ab86a85831d3e4511637a95b5c70b7e6088a3252d7baa98cabf615", checked := Try.checked }
namespace Rows
def none {H : Type} : Left H := { results := [], args := [] }

/-- 'allotmentlaw08.CellSeals': WHATEVER THE INPUT: true; the input reads as it did. -/
def cellSealsSpec : ChangeSpec := { name := "cellSeals", fn := fun _ => fun
  | [d] => { results := [.lit (.bool true)], args := [d] }
  | _ => none }
def cellSealsRow : OpenClaim := { program := "ytlhkjmhdhpgjkaa", sum := "82696578c8ab86a85831d3e4511637a95b5c70b7e6088a3252d7baa98cabf615", func := "allotment/allotmentlaw08.CellSeals", spec := "cellSeals", apart := false }
def CellSealsSaid : Prop := cellSealsRow.holds Try.pinned (OpenSpec.ofChange cellSealsSpec)

/-- ITS FALSE NEIGHBOUR: 'it returns false'. Refute it at one input. -/
def cellSealsWrong : ChangeSpec := { name := "cellSeals", fn := fun _ => fun
  | [d] => { results := [.lit (.bool false)], args := [d] }
  | _ => none }
def CellSealsWrongFalsely : Prop := cellSealsRow.holds Try.pinned (OpenSpec.ofChange cellSealsWrong)

/-- 'allotmentlaw08.CellOpens': WHATEVER THE INPUT: true; the input reads as it did. -/
def cellOpensSpec : ChangeSpec := { name := "cellOpens", fn := fun _ => fun
  | [d1, d2, d3] => { results := [.lit (.bool true)], args := [d1, d2, d3] }
  | _ => none }
def cellOpensRow : OpenClaim := { program := "ytlhkjmhdhpgjkaa", sum := "82696578c8ab86a85831d3e4511637a95b5c70b7e6088a3252d7baa98cabf615", func := "allotment/allotmentlaw08.CellOpens", spec := "cellOpens", apart := false }
def CellOpensSaid : Prop := cellOpensRow.holds Try.pinned (OpenSpec.ofChange cellOpensSpec)

/-- ITS FALSE NEIGHBOUR: 'it returns false'. Refute it at one input. -/
def cellOpensWrong : ChangeSpec := { name := "cellOpens", fn := fun _ => fun
  | [d1, d2, d3] => { results := [.lit (.bool false)], args := [d1, d2, d3] }
  | _ => none }
def CellOpensWrongFalsely : Prop := cellOpensRow.holds Try.pinned (OpenSpec.ofChange cellOpensWrong)

/-- 'allotmentlaw08.CellPages': WHATEVER THE INPUT: true; the input reads as it did. -/
def cellPagesSpec : ChangeSpec := { name := "cellPages", fn := fun _ => fun
  | [d1, d2] => { results := [.lit (.bool true)], args := [d1, d2] }
  | _ => none }
def cellPagesRow : OpenClaim := { program := "ytlhkjmhdhpgjkaa", sum := "82696578c8ab86a85831d3e4511637a95b5c70b7e6088a3252d7baa98cabf615", func := "allotment/allotmentlaw08.CellPages", spec := "cellPages", apart := false }
def CellPagesSaid : Prop := cellPagesRow.holds Try.pinned (OpenSpec.ofChange cellPagesSpec)

/-- ITS FALSE NEIGHBOUR: 'it returns false'. Refute it at one input. -/
def cellPagesWrong : ChangeSpec := { name := "cellPages", fn := fun _ => fun
  | [d1, d2] => { results := [.lit (.bool false)], args := [d1, d2] }
  | _ => none }
def CellPagesWrongFalsely : Prop := cellPagesRow.holds Try.pinned (OpenSpec.ofChange cellPagesWrong)

/-- 'allotmentlaw08.CellBytes': WHATEVER THE INPUT: true; the input reads as it did. -/
def cellBytesSpec : ChangeSpec := { name := "cellBytes", fn := fun _ => fun
  | [d1, d2, d3, d4] => { results := [.lit (.bool true)], args := [d1, d2, d3, d4] }
  | _ => none }
def cellBytesRow : OpenClaim := { program := "ytlhkjmhdhpgjkaa", sum := "82696578c8ab86a85831d3e4511637a95b5c70b7e6088a3252d7baa98cabf615", func := "allotment/allotmentlaw08.CellBytes", spec := "cellBytes", apart := false }
def CellBytesSaid : Prop := cellBytesRow.holds Try.pinned (OpenSpec.ofChange cellBytesSpec)

/-- ITS FALSE NEIGHBOUR: 'it returns false'. Refute it at one input. -/
def cellBytesWrong : ChangeSpec := { name := "cellBytes", fn := fun _ => fun
  | [d1, d2, d3, d4] => { results := [.lit (.bool false)], args := [d1, d2, d3, d4] }
  | _ => none }
def CellBytesWrongFalsely : Prop := cellBytesRow.holds Try.pinned (OpenSpec.ofChange cellBytesWrong)

/-- 'allotmentlaw08.CellPuts': WHATEVER THE INPUT: true; the input reads as it did. -/
def cellPutsSpec : ChangeSpec := { name := "cellPuts", fn := fun _ => fun
  | [d1, d2, d3] => { results := [.lit (.bool true)], args := [d1, d2, d3] }
  | _ => none }
def cellPutsRow : OpenClaim := { program := "ytlhkjmhdhpgjkaa", sum := "82696578c8ab86a85831d3e4511637a95b5c70b7e6088a3252d7baa98cabf615", func := "allotment/allotmentlaw08.CellPuts", spec := "cellPuts", apart := false }
def CellPutsSaid : Prop := cellPutsRow.holds Try.pinned (OpenSpec.ofChange cellPutsSpec)

/-- ITS FALSE NEIGHBOUR: 'it returns false'. Refute it at one input. -/
def cellPutsWrong : ChangeSpec := { name := "cellPuts", fn := fun _ => fun
  | [d1, d2, d3] => { results := [.lit (.bool false)], args := [d1, d2, d3] }
  | _ => none }
def CellPutsWrongFalsely : Prop := cellPutsRow.holds Try.pinned (OpenSpec.ofChange cellPutsWrong)

/-- 'allotmentlaw08.CellOwns': WHATEVER THE INPUT: true; the input reads as it did. -/
def cellOwnsSpec : ChangeSpec := { name := "cellOwns", fn := fun _ => fun
  | [d1, d2] => { results := [.lit (.bool true)], args := [d1, d2] }
  | _ => none }
def cellOwnsRow : OpenClaim := { program := "ytlhkjmhdhpgjkaa", sum := "82696578c8ab86a85831d3e4511637a95b5c70b7e6088a3252d7baa98cabf615", func := "allotment/allotmentlaw08.CellOwns", spec := "cellOwns", apart := false }
def CellOwnsSaid : Prop := cellOwnsRow.holds Try.pinned (OpenSpec.ofChange cellOwnsSpec)

/-- ITS FALSE NEIGHBOUR: 'it returns false'. Refute it at one input. -/
def cellOwnsWrong : ChangeSpec := { name := "cellOwns", fn := fun _ => fun
  | [d1, d2] => { results := [.lit (.bool false)], args := [d1, d2] }
  | _ => none }
def CellOwnsWrongFalsely : Prop := cellOwnsRow.holds Try.pinned (OpenSpec.ofChange cellOwnsWrong)

/- THE SECOND FORM. 'bulk': how many values and letters a reading holds, each counted each time it is reached (what is shared counts as often as it is met; a slice's spare places count too). A statement '..UptoSaid' is the law's where the arguments, and the package variables that the reading takes, are together of bulk at most 1048576: NARROWER than '..Said'. Prove '..Said' where nothing that the law and all that it calls make is longer than what came in: it says more and counts as full. Else prove '..UptoSaid'. A law counts once. -/
mutual
def uptoBulk {H : Type} : DataW H → Nat
  | .lit (.string bytes) => bytes.length + 1
  | .lit _ => 1
  | .nil => 1
  | .ptr d => uptoBulk d + 1
  | .slice elems spare => uptoBulkAll elems + uptoBulkAll spare + 1
  | .agg parts => uptoBulkAll parts + 1
  | .iface _ d => uptoBulk d + 1
  | .map entries => uptoBulkEntries entries + 1
  | .held _ => 1
def uptoBulkAll {H : Type} : List (DataW H) → Nat
  | [] => 0
  | d :: r => uptoBulk d + uptoBulkAll r
def uptoBulkEntries {H : Type} : List (Lit × DataW H) → Nat
  | [] => 0
  | x :: r => uptoBulkEntry x + uptoBulkEntries r
def uptoBulkEntry {H : Type} : Lit × DataW H → Nat
  | (.string bytes, d) => bytes.length + uptoBulk d + 1
  | (_, d) => uptoBulk d + 1
 end
def uptoSmall : (H : Type) → List (DataW H) → Bool := fun _ ds => decide (uptoBulkAll ds ≤ 1048576)
def OpenSpec.upto (s : _root_.Go.ChangeSpec) : _root_.Go.OpenSpec := { _root_.Go.OpenSpec.ofChange s with cond := some uptoSmall }

/-- 'allotmentlaw08.CellSeals', WHERE WHAT IT READS IS OF BULK AT MOST 1048576: true; the input reads as it did. -/
def cellSealsUptoRow : OpenClaim := { program := "ytlhkjmhdhpgjkaa", sum := "82696578c8ab86a85831d3e4511637a95b5c70b7e6088a3252d7baa98cabf615", func := "allotment/allotmentlaw08.CellSeals", spec := "cellSeals", apart := false, narrowed := true }
def CellSealsUptoSaid : Prop := cellSealsUptoRow.holds Try.pinned (OpenSpec.upto cellSealsSpec)

/-- 'allotmentlaw08.CellOpens', WHERE WHAT IT READS IS OF BULK AT MOST 1048576: true; the input reads as it did. -/
def cellOpensUptoRow : OpenClaim := { program := "ytlhkjmhdhpgjkaa", sum := "82696578c8ab86a85831d3e4511637a95b5c70b7e6088a3252d7baa98cabf615", func := "allotment/allotmentlaw08.CellOpens", spec := "cellOpens", apart := false, narrowed := true }
def CellOpensUptoSaid : Prop := cellOpensUptoRow.holds Try.pinned (OpenSpec.upto cellOpensSpec)

/-- 'allotmentlaw08.CellPages', WHERE WHAT IT READS IS OF BULK AT MOST 1048576: true; the input reads as it did. -/
def cellPagesUptoRow : OpenClaim := { program := "ytlhkjmhdhpgjkaa", sum := "82696578c8ab86a85831d3e4511637a95b5c70b7e6088a3252d7baa98cabf615", func := "allotment/allotmentlaw08.CellPages", spec := "cellPages", apart := false, narrowed := true }
def CellPagesUptoSaid : Prop := cellPagesUptoRow.holds Try.pinned (OpenSpec.upto cellPagesSpec)

/-- 'allotmentlaw08.CellBytes', WHERE WHAT IT READS IS OF BULK AT MOST 1048576: true; the input reads as it did. -/
def cellBytesUptoRow : OpenClaim := { program := "ytlhkjmhdhpgjkaa", sum := "82696578c8ab86a85831d3e4511637a95b5c70b7e6088a3252d7baa98cabf615", func := "allotment/allotmentlaw08.CellBytes", spec := "cellBytes", apart := false, narrowed := true }
def CellBytesUptoSaid : Prop := cellBytesUptoRow.holds Try.pinned (OpenSpec.upto cellBytesSpec)

/-- 'allotmentlaw08.CellPuts', WHERE WHAT IT READS IS OF BULK AT MOST 1048576: true; the input reads as it did. -/
def cellPutsUptoRow : OpenClaim := { program := "ytlhkjmhdhpgjkaa", sum := "82696578c8ab86a85831d3e4511637a95b5c70b7e6088a3252d7baa98cabf615", func := "allotment/allotmentlaw08.CellPuts", spec := "cellPuts", apart := false, narrowed := true }
def CellPutsUptoSaid : Prop := cellPutsUptoRow.holds Try.pinned (OpenSpec.upto cellPutsSpec)

/-- 'allotmentlaw08.CellOwns', WHERE WHAT IT READS IS OF BULK AT MOST 1048576: true; the input reads as it did. -/
def cellOwnsUptoRow : OpenClaim := { program := "ytlhkjmhdhpgjkaa", sum := "82696578c8ab86a85831d3e4511637a95b5c70b7e6088a3252d7baa98cabf615", func := "allotment/allotmentlaw08.CellOwns", spec := "cellOwns", apart := false, narrowed := true }
def CellOwnsUptoSaid : Prop := cellOwnsUptoRow.holds Try.pinned (OpenSpec.upto cellOwnsSpec)

end Rows
end Go.Proofs.Ytlhkjmhdhpgjkaa
