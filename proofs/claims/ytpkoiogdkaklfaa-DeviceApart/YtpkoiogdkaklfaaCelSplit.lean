/-
  The walk of cell's Split. Conditions: each theorem's own.
-/
import Derived.Test.YtpkoiogdkaklfaaCel
namespace Go.Proofs.Ytpkoiogdkaklfaa
open Go.RowKit
set_option linter.unusedVariables false
set_option linter.unusedSimpArgs false

theorem Try.infoS : (Try.prog.info? 29).map (fun i => (i.zero, i.size, i.bytes)) = some (some (.slice none 0 0), 1, 24) := by kernel_rfl

/-- the block of a row that is not empty -/
theorem OwnV.block {α : Type} {f : α → Value} {d : α} {p : Nat → Prop} {w : World} {v : Value} {zs : List α} (h : OwnV f d p w v zs) (hz : 0 < zs.length) : ∃ g, OwnV f d (fun i => i = g) w v zs ∧ p g ∧ g < w.heap.size := by
  rcases h with ⟨rfl, _⟩ | ⟨g, o, c, rfl, hb, h0, hnc, hcm, hc, ht⟩
  · exact absurd hz (Nat.not_lt_zero _)
  · exact ⟨g, .inr ⟨g, o, c, rfl, rfl, h0, hnc, hcm, hc, ht⟩, hb, lt_of_some (ht 0 h0).1⟩

abbrev sl0 : Option Addr × Nat × Nat := (none, 0, 0)

end Go.Proofs.Ytpkoiogdkaklfaa
