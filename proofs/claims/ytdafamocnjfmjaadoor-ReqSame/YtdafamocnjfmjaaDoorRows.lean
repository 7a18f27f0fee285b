/-
  NARROWER THAN 'FOR EVERY INPUT', by the rows' own cells (each row's printed sentence says how): ReqChecks: laid · ReqNames: laid · ReqRound: laid · ReqReads: laid · ReqSame: laid.
  DERIVED. THE GIVEN ROWS OF THIS SEAT. 5 by the template 'for every input the law returns true; each argument reads behind the call as it read before'; 0 by the template 'total and deterministic' (their statements: YtdafamocnjfmjaaDoorTotals.lean).
  GIVEN WITH THE SEED: the statements are not yours to turn. If you find one false, say at which input.
  Laid BY PROGRAM, IN A SANDBOX (cutbox-rows.mjs): the forced cells as the released guide's own fill.sh prints them over the translation c2741730f4f694fe… (all of the seat's roots in one cut). By AI agents, Wed Nov 11 2026. No macro, syntax, notation, axiom, sorry.
-/
import Derived.Test.YtdafamocnjfmjaaDoorChecked
import GoSem.Claim
import GoSem.ClaimJoined
import GoSem.ClaimMapViews
import Derived.JoinedTies
import Derived.KernelRfl
namespace Go.Proofs.YtdafamocnjfmjaaDoor
/- THE CELL 'sum', in the pinned program and in every row, IS THE sha256 OF THE DUMP (.gsa) THAT YtdafamocnjfmjaaDoorProg.lean LOADS. Nothing in Lean hashes anything: it is a label: what it is worth is what the hold of that sum in a sandbox is worth. -/
noncomputable def Tryd.pinned : Pinned := { name := "ytdafamocnjfmjaadoor", sum := "c2741730f4f694fe9c239f70f26a7e3f8b00fb7cfa289f94ea20bdf637b7fe13", checked := Tryd.checked }
namespace Rows
def none {H : Type} : Left H := { results := [], args := [] }

/- WHAT THE LISTED PACKAGE-LEVEL VARIABLES READ AS WHEN THE CALL BEGINS. Each datum BY PROGRAM (the guide's laid-datum.mjs) off the statement by which the dump's own 'gosem.cut.vars' lays the variable. In a bare row this is a premise. The card (YtdafamocnjfmjaaDoorCards.lean) ties it to the program's text. -/
def laid_allotment_req_words {H : Type} : DataW H := .agg [.lit (.string []), .lit (.string [102, 101, 116, 99, 104]), .lit (.string [114, 101, 97, 100]), .lit (.string [119, 114, 105, 116, 101]), .lit (.string [117, 110, 112, 105, 110]), .lit (.string [102, 108, 117, 115, 104]), .lit (.string [102, 108, 117, 115, 104, 97, 108, 108]), .lit (.string [100, 105, 115, 99, 97, 114, 100]), .lit (.string [115, 116, 97, 116, 115])]

/-- 'allotmentlaw18.ReqChecks': WHATEVER THE INPUT: true; the input reads as it did. -/
def reqChecksSpec : ChangeSpec := { name := "reqChecks", fn := fun _ => fun
  | [d1, d2, d3] => { results := [.lit (.bool true)], args := [d1, d2, d3] }
  | _ => none }
def reqChecksRow : OpenClaim := { program := "ytdafamocnjfmjaadoor", sum := "c2741730f4f694fe9c239f70f26a7e3f8b00fb7cfa289f94ea20bdf637b7fe13", func := "allotment/allotmentlaw18.ReqChecks", spec := "reqChecks", unfollowed := true, recurses := true, named := ["allotment/req.words"], apart := false, laid := [("allotment/req.words", laid_allotment_req_words)] }
def ReqChecksSaid : Prop := reqChecksRow.holds Tryd.pinned (OpenSpec.ofChange reqChecksSpec)

/-- ITS FALSE NEIGHBOUR: 'it returns false'. Refute it at one input. -/
def reqChecksWrong : ChangeSpec := { name := "reqChecks", fn := fun _ => fun
  | [d1, d2, d3] => { results := [.lit (.bool false)], args := [d1, d2, d3] }
  | _ => none }
def ReqChecksWrongFalsely : Prop := reqChecksRow.holds Tryd.pinned (OpenSpec.ofChange reqChecksWrong)

/-- 'allotmentlaw18.ReqNames': WHATEVER THE INPUT: true; the input reads as it did. -/
def reqNamesSpec : ChangeSpec := { name := "reqNames", fn := fun _ => fun
  | [d] => { results := [.lit (.bool true)], args := [d] }
  | _ => none }
def reqNamesRow : OpenClaim := { program := "ytdafamocnjfmjaadoor", sum := "c2741730f4f694fe9c239f70f26a7e3f8b00fb7cfa289f94ea20bdf637b7fe13", func := "allotment/allotmentlaw18.ReqNames", spec := "reqNames", unfollowed := true, recurses := true, named := ["allotment/req.words"], apart := false, laid := [("allotment/req.words", laid_allotment_req_words)] }
def ReqNamesSaid : Prop := reqNamesRow.holds Tryd.pinned (OpenSpec.ofChange reqNamesSpec)

/-- ITS FALSE NEIGHBOUR: 'it returns false'. Refute it at one input. -/
def reqNamesWrong : ChangeSpec := { name := "reqNames", fn := fun _ => fun
  | [d] => { results := [.lit (.bool false)], args := [d] }
  | _ => none }
def ReqNamesWrongFalsely : Prop := reqNamesRow.holds Tryd.pinned (OpenSpec.ofChange reqNamesWrong)

/-- 'allotmentlaw18.ReqRound': WHATEVER THE INPUT: true; the input reads as it did. -/
def reqRoundSpec : ChangeSpec := { name := "reqRound", fn := fun _ => fun
  | [d1, d2] => { results := [.lit (.bool true)], args := [d1, d2] }
  | _ => none }
def reqRoundRow : OpenClaim := { program := "ytdafamocnjfmjaadoor", sum := "c2741730f4f694fe9c239f70f26a7e3f8b00fb7cfa289f94ea20bdf637b7fe13", func := "allotment/allotmentlaw18.ReqRound", spec := "reqRound", unfollowed := true, recurses := true, named := ["allotment/req.words"], apart := false, laid := [("allotment/req.words", laid_allotment_req_words)] }
def ReqRoundSaid : Prop := reqRoundRow.holds Tryd.pinned (OpenSpec.ofChange reqRoundSpec)

/-- ITS FALSE NEIGHBOUR: 'it returns false'. Refute it at one input. -/
def reqRoundWrong : ChangeSpec := { name := "reqRound", fn := fun _ => fun
  | [d1, d2] => { results := [.lit (.bool false)], args := [d1, d2] }
  | _ => none }
def ReqRoundWrongFalsely : Prop := reqRoundRow.holds Tryd.pinned (OpenSpec.ofChange reqRoundWrong)

/-- 'allotmentlaw18.ReqReads': WHATEVER THE INPUT: true; the input reads as it did. -/
def reqReadsSpec : ChangeSpec := { name := "reqReads", fn := fun _ => fun
  | [d1, d2, d3, d4, d5] => { results := [.lit (.bool true)], args := [d1, d2, d3, d4, d5] }
  | _ => none }
def reqReadsRow : OpenClaim := { program := "ytdafamocnjfmjaadoor", sum := "c2741730f4f694fe9c239f70f26a7e3f8b00fb7cfa289f94ea20bdf637b7fe13", func := "allotment/allotmentlaw18.ReqReads", spec := "reqReads", unfollowed := true, recurses := true, named := ["allotment/req.words"], apart := false, laid := [("allotment/req.words", laid_allotment_req_words)] }
def ReqReadsSaid : Prop := reqReadsRow.holds Tryd.pinned (OpenSpec.ofChange reqReadsSpec)

/-- ITS FALSE NEIGHBOUR: 'it returns false'. Refute it at one input. -/
def reqReadsWrong : ChangeSpec := { name := "reqReads", fn := fun _ => fun
  | [d1, d2, d3, d4, d5] => { results := [.lit (.bool false)], args := [d1, d2, d3, d4, d5] }
  | _ => none }
def ReqReadsWrongFalsely : Prop := reqReadsRow.holds Tryd.pinned (OpenSpec.ofChange reqReadsWrong)

/-- 'allotmentlaw18.ReqSame': WHATEVER THE INPUT: true; the input reads as it did. -/
def reqSameSpec : ChangeSpec := { name := "reqSame", fn := fun _ => fun
  | [d1, d2, d3] => { results := [.lit (.bool true)], args := [d1, d2, d3] }
  | _ => none }
def reqSameRow : OpenClaim := { program := "ytdafamocnjfmjaadoor", sum := "c2741730f4f694fe9c239f70f26a7e3f8b00fb7cfa289f94ea20bdf637b7fe13", func := "allotment/allotmentlaw18.ReqSame", spec := "reqSame", unfollowed := true, recurses := true, named := ["allotment/req.words"], apart := false, laid := [("allotment/req.words", laid_allotment_req_words)] }
def ReqSameSaid : Prop := reqSameRow.holds Tryd.pinned (OpenSpec.ofChange reqSameSpec)

/-- ITS FALSE NEIGHBOUR: 'it returns false'. Refute it at one input. -/
def reqSameWrong : ChangeSpec := { name := "reqSame", fn := fun _ => fun
  | [d1, d2, d3] => { results := [.lit (.bool false)], args := [d1, d2, d3] }
  | _ => none }
def ReqSameWrongFalsely : Prop := reqSameRow.holds Tryd.pinned (OpenSpec.ofChange reqSameWrong)

/- THE SECOND FORM. 'bulk': how many values and letters a reading holds, each counted each time it is reached (what is shared counts as often as it is met; a slice's spare places count too). A statement '..UptoSaid' is the law's where the arguments, and the package variables that the reading takes, are together of bulk at most 1048576: NARROWER than '..Said'. Prove '..Said' where nothing that the law and all that it calls make is longer than what came in: it says more and counts as full. Else prove '..UptoSaid'. A law counts once. -/
mutual
def uptoBulk {H : Type} : DataW H → Nat
  | .lit (.string bytes) => bytes.length + 1
  | .lit _ => 1
  | .nil => 1
  | .ptr d => uptoBulk d + 1
  | .slice elems spare => uptoBulkAll elems + uptoBulkAll spare + 1
  | .agg parts => uptoBulkAll parts + 1
  | .iface _ d => uptoBulk d + 1
  | .map entries => uptoBulkEntries entries + 1
  | .held _ => 1
def uptoBulkAll {H : Type} : List (DataW H) → Nat
  | [] => 0
  | d :: r => uptoBulk d + uptoBulkAll r
def uptoBulkEntries {H : Type} : List (Lit × DataW H) → Nat
  | [] => 0
  | x :: r => uptoBulkEntry x + uptoBulkEntries r
def uptoBulkEntry {H : Type} : Lit × DataW H → Nat
  | (.string bytes, d) => bytes.length + uptoBulk d + 1
  | (_, d) => uptoBulk d + 1
 end
def uptoSmall : (H : Type) → List (DataW H) → Bool := fun _ ds => decide (uptoBulkAll ds ≤ 1048576)
def OpenSpec.upto (s : _root_.Go.ChangeSpec) : _root_.Go.OpenSpec := { _root_.Go.OpenSpec.ofChange s with cond := some uptoSmall }

/-- 'allotmentlaw18.ReqChecks', WHERE WHAT IT READS IS OF BULK AT MOST 1048576: true; the input reads as it did. -/
def reqChecksUptoRow : OpenClaim := { program := "ytdafamocnjfmjaadoor", sum := "c2741730f4f694fe9c239f70f26a7e3f8b00fb7cfa289f94ea20bdf637b7fe13", func := "allotment/allotmentlaw18.ReqChecks", spec := "reqChecks", unfollowed := true, recurses := true, named := ["allotment/req.words"], apart := false, laid := [("allotment/req.words", laid_allotment_req_words)], narrowed := true }
def ReqChecksUptoSaid : Prop := reqChecksUptoRow.holds Tryd.pinned (OpenSpec.upto reqChecksSpec)

/-- 'allotmentlaw18.ReqNames', WHERE WHAT IT READS IS OF BULK AT MOST 1048576: true; the input reads as it did. -/
def reqNamesUptoRow : OpenClaim := { program := "ytdafamocnjfmjaadoor", sum := "c2741730f4f694fe9c239f70f26a7e3f8b00fb7cfa289f94ea20bdf637b7fe13", func := "allotment/allotmentlaw18.ReqNames", spec := "reqNames", unfollowed := true, recurses := true, named := ["allotment/req.words"], apart := false, laid := [("allotment/req.words", laid_allotment_req_words)], narrowed := true }
def ReqNamesUptoSaid : Prop := reqNamesUptoRow.holds Tryd.pinned (OpenSpec.upto reqNamesSpec)

/-- 'allotmentlaw18.ReqRound', WHERE WHAT IT READS IS OF BULK AT MOST 1048576: true; the input reads as it did. -/
def reqRoundUptoRow : OpenClaim := { program := "ytdafamocnjfmjaadoor", sum := "c2741730f4f694fe9c239f70f26a7e3f8b00fb7cfa289f94ea20bdf637b7fe13", func := "allotment/allotmentlaw18.ReqRound", spec := "reqRound", unfollowed := true, recurses := true, named := ["allotment/req.words"], apart := false, laid := [("allotment/req.words", laid_allotment_req_words)], narrowed := true }
def ReqRoundUptoSaid : Prop := reqRoundUptoRow.holds Tryd.pinned (OpenSpec.upto reqRoundSpec)

/-- 'allotmentlaw18.ReqReads', WHERE WHAT IT READS IS OF BULK AT MOST 1048576: true; the input reads as it did. -/
def reqReadsUptoRow : OpenClaim := { program := "ytdafamocnjfmjaadoor", sum := "c2741730f4f694fe9c239f70f26a7e3f8b00fb7cfa289f94ea20bdf637b7fe13", func := "allotment/allotmentlaw18.ReqReads", spec := "reqReads", unfollowed := true, recurses := true, named := ["allotment/req.words"], apart := false, laid := [("allotment/req.words", laid_allotment_req_words)], narrowed := true }
def ReqReadsUptoSaid : Prop := reqReadsUptoRow.holds Tryd.pinned (OpenSpec.upto reqReadsSpec)

/-- 'allotmentlaw18.ReqSame', WHERE WHAT IT READS IS OF BULK AT MOST 1048576: true; the input reads as it did. -/
def reqSameUptoRow : OpenClaim := { program := "ytdafamocnjfmjaadoor", sum := "c2741730f4f694fe9c239f70f26a7e3f8b00fb7cfa289f94ea20bdf637b7fe13", func := "allotment/allotmentlaw18.ReqSame", spec := "reqSame", unfollowed := true, recurses := true, named := ["allotment/req.words"], apart := false, laid := [("allotment/req.words", laid_allotment_req_words)], narrowed := true }
def ReqSameUptoSaid : Prop := reqSameUptoRow.holds Tryd.pinned (OpenSpec.upto reqSameSpec)

end Rows
end Go.Proofs.YtdafamocnjfmjaaDoor
