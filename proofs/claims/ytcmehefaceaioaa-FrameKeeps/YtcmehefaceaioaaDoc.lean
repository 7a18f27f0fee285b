/-
  The walks of the document's own check (More, Put, Good) and of the law's example. Conditions: each theorem's own.
-/
import Derived.Test.YtcmehefaceaioaaByte
namespace Go.Proofs.Ytcmehefaceaioaa
open Go.RowKit
set_option linter.unusedVariables false
set_option linter.unusedSimpArgs false

/-- with their check? -/
def isGood (zs : List Int) : Bool := decide (4 ≤ zs.length ∧ zs.take (zs.length - 4) ++ le 4 (chk 0 (zs.take (zs.length - 4)) : Nat) = zs)

end Go.Proofs.Ytcmehefaceaioaa
