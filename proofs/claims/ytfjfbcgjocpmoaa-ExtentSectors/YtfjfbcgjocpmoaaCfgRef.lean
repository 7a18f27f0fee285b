/-
  The walk of the document's Check. Conditions: the theorem's own.
-/
import Derived.Test.YtfjfbcgjocpmoaaCfgCheck
namespace Go.Proofs.Ytfjfbcgjocpmoaa
open Go.RowKit
set_option linter.unusedVariables false
set_option linter.unusedSimpArgs false

theorem at_zero {se : Int} {ps : List Pt} {j : Nat} {d : Pt} (hj : j < ps.length) (hd : ps.getD j Pt.zero = d) (hb : ∀ i, i < j → faultAt se ps i = 0) (ho : ownF d se = 0) (h : ∀ s' : Nat, (s' : Int) < se → ∀ k, k < j → ¬ (hasB d s' = true ∧ hasB (ps.getD k Pt.zero) s' = true)) : faultAt se ps j = 0 := by
  subst hd
  refine faultAt_no ho hj (fun k hk => ?_)
  have hx := ownF_zero (faultAt_zero (by omega) (hb k hk)).1
  have hy := ownF_zero ho
  exact not_meet (se := se) (by omega) (by omega) (fun s hs hh => h s hs k hk ⟨hh.2, hh.1⟩)

end Go.Proofs.Ytfjfbcgjocpmoaa
