/-
  The walks of Check, May and the law's example. Conditions: each theorem's own.
-/
import Derived.Test.YtfjfbcgjocpmoaaCfgPart
namespace Go.Proofs.Ytfjfbcgjocpmoaa
open Go.RowKit
set_option linter.unusedVariables false
set_option linter.unusedSimpArgs false

theorem quota_all {se : Int} {ps : List Pt} (h : (pf se ps).1 = 0) : ∀ x ∈ ps, 0 ≤ x.q ∧ x.q ≤ 64 := by
  intro x hx
  obtain ⟨i, hi, e⟩ := mem_getD hx
  have := ownF_zero (faultAt_zero hi (pf_all h i hi)).1
  rw [e] at this
  omega

theorem wh_empty (k : Nat) : (wh k).toList.isEmpty = decide (k = 0) := by
  by_cases h : k = 0
  · subst h; rw [wh_none]; rfl
  · rw [wh_some h]; simp [h]

end Go.Proofs.Ytfjfbcgjocpmoaa
