/-
  The walk of crc.halved: eight halvings. Conditions: each theorem's own.
-/
import Derived.Test.YtcmehefaceaioaaMath
import Derived.Test.YtcmehefaceaioaaBase
import Derived.Test.YtcmehefaceaioaaRows
import Derived.WalkKit
import Derived.ProofKit
import Derived.OpenShut
import Derived.Outline
import Derived.Deep.LoopGhost
import Derived.WalkLawsBesides
namespace Go.Proofs.Ytcmehefaceaioaa
open Go.RowKit

theorem and_one (q : Nat) (hq : q < 4294967296) : bits .and .u32 (q : Int) 1 = ((q % 2 : Nat) : Int) := by
  have := u32_and_nat q 1 hq (by omega)
  rw [nat_mask1] at this
  exact this

theorem xor_poly (q : Nat) (hq : q < 4294967296) : bits .xor .u32 ((q : Int) / 2) 3988292384 = ((q / 2 ^^^ 3988292384 : Nat) : Int) := by
  have := u32_xor_nat (q / 2) 3988292384 (by omega) (by omega)
  simpa using this

end Go.Proofs.Ytcmehefaceaioaa
