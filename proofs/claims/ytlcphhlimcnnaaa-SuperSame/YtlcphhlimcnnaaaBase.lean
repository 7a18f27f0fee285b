/-
  The walk of the document's Few, and small facts. Conditions: each theorem's own.
-/
import Derived.Test.YtlcphhlimcnnaaaLib
import Derived.Test.YtlcphhlimcnnaaaAround
import Derived.Test.YtlcphhlimcnnaaaRows
import Derived.WalkKit
import Derived.ProofKit
import Derived.OpenShut
import Derived.Outline
import Derived.Deep.LoopGhost
import Derived.WalkLawsBesides
namespace Go.Proofs.Ytlcphhlimcnnaaa
open Go.RowKit
set_option linter.unusedVariables false
set_option linter.unusedSimpArgs false

theorem Try.info5 : (Try.prog.info? 5).map (fun i => (i.zero, i.size, i.bytes)) = some (some (.int .u8 0), 1, 1) := by kernel_rfl

theorem rd_new (k : IntKind) (n : Int) (e : TypeId) (w : World) : Rd k (w.heap.size + 1) (w.alloc (.cells #[.int k n] e)) (.slice (some ⟨w.heap.size, 0, none⟩) 1 1) [n] := by
  refine ⟨_, 1, rfl, by simp, by simp [maxLen], fun i hi => ⟨w.heap.size, 0, rfl, by omega, ?_⟩⟩
  obtain rfl : i = 0 := by simp at hi; omega
  refine (World.cell?_alloc_new w _ _ _).trans ?_
  simp
end Go.Proofs.Ytlcphhlimcnnaaa
