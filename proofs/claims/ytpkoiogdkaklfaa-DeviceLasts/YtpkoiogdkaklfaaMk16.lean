/-
  A new row of noughts in a region that draws its order; the bytes of a cell are opened. Conditions: each theorem's own.
-/
import Derived.Test.YtpkoiogdkaklfaaCelMath
namespace Go.Proofs.Ytpkoiogdkaklfaa
open Go.RowKit
set_option linter.unusedVariables false
set_option linter.unusedSimpArgs false

theorem repl_getD (n j : Nat) (h : j < n) : (List.replicate n (0 : Int)).getD j 0 = 0 := by simp [List.getD, List.getElem?_replicate, h]

theorem make16 (w : World) : ∃ v' w', (Instr.makeSlice 29 (.int .i64 16) (.int .i64 16)).run Try.prog w = .ok v' w' ∧ Own .u8 w.heap.size w' v' (List.replicate 16 0) ∧ Grow w w' := by
  obtain ⟨i0, hi, hz0, hz1, hz2⟩ := info_parts Try.info5
  have hrun := run_make (P := Try.prog) w 29 5 i0 (.int .u8 0) Try.underlying29 hi hz0 .i64 .i64 16 16 (by omega) (by omega) (by rw [hz2]; omega) (by omega)
  refine ⟨_, _, hrun, ?_, (Grow.refl w).alloc _⟩
  have hcell : ∀ j, j < 16 → (w.alloc (.cells (madeCells (Value.int .u8 0).cells (16 * i0.size)) 5)).cell? ⟨w.heap.size, j, none⟩ = some (.int .u8 0) := fun j hj => by
    refine (World.cell?_alloc_new w _ _ j).trans ?_
    rw [Array.getElem?_eq_getElem (by rw [size_madeCells, hz1]; omega)]
    simp [madeCells, Value.cells, Nat.mod_one]
  refine .inr ⟨w.heap.size, 0, 16, rfl, Nat.le_refl _, by simp, by simp only [maxLen]; omega, fun j hj => ?_, fun j hj => ⟨?_, ?_⟩⟩
  · rw [List.length_replicate] at hj
    rw [Nat.zero_add]
    refine (hcell j hj).trans ?_
    rw [repl_getD 16 j hj]
  · rw [Nat.zero_add]
    exact (congrArg Option.isSome (hcell j hj)).trans rfl
  · exact World.frozen?_alloc_new w _ _ _

/-- the bytes of a cell: they are opened -/
theorem opened_sealed (os : List Int) (hl : os.length = 16) : opened (os ++ le 4 (chk 0 os : Nat)) = (os, 0) := by
  unfold opened
  rw [if_pos (by rw [List.length_append, le_length, hl]), taken_append _ _ (le_length _ _), if_pos rfl]

end Go.Proofs.Ytpkoiogdkaklfaa
