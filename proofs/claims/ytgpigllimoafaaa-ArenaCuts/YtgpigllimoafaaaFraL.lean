/-
  The walks of the law's 'as' and of its example, and of the document's Empty. Conditions: each theorem's own.
-/
import Derived.Test.YtgpigllimoafaaaFraC
import Derived.Test.YtgpigllimoafaaaSched
import Derived.Test.YtgpigllimoafaaaLast
import Derived.Test.YtgpigllimoafaaaEnds
import Derived.Lib.SlBytesConst
namespace Go.Proofs.Ytgpigllimoafaaa
open Go.RowKit
set_option linter.unusedVariables false
set_option linter.unusedSimpArgs false

theorem zeroF_lit : (#[.bool false, .bool false, .bool false, .int .i64 0, .int .i64 0, .int .u8 0, .int .u8 0, .int .u8 0, .int .u8 0, .int .u8 0, .int .u8 0, .int .u8 0, .int .u8 0, .int .u8 0, .int .u8 0, .int .u8 0, .int .u8 0, .int .u8 0, .int .u8 0, .int .u8 0, .int .u8 0, .int .u8 0, .int .u8 0, .int .u8 0, .int .u8 0, .int .u8 0, .int .u8 0, .int .u8 0, .int .u8 0, .int .u8 0, .int .u8 0, .int .u8 0, .int .u8 0, .int .u8 0, .int .u8 0, .int .u8 0, .int .u8 0] : Array Value) = zeroF := rfl

theorem VarAt.six {w : World} {b : Nat} {x0 x1 x2 x3 x4 x5 : Value} (h : VarAt w b [x0, x1, x2, x3, x4, x5]) :
    (w.cell? ⟨b, 0, none⟩ = some x0 ∧ w.cell? ⟨b, 1, none⟩ = some x1 ∧ w.cell? ⟨b, 2, none⟩ = some x2 ∧ w.cell? ⟨b, 3, none⟩ = some x3 ∧ w.cell? ⟨b, 4, none⟩ = some x4 ∧ w.cell? ⟨b, 5, none⟩ = some x5) ∧
    (w.frozen? ⟨b, 0, none⟩ = false ∧ w.frozen? ⟨b, 1, none⟩ = false ∧ w.frozen? ⟨b, 2, none⟩ = false ∧ w.frozen? ⟨b, 3, none⟩ = false ∧ w.frozen? ⟨b, 4, none⟩ = false ∧ w.frozen? ⟨b, 5, none⟩ = false) :=
  ⟨⟨(h.2 0 (by simp)).1, (h.2 1 (by simp)).1, (h.2 2 (by simp)).1, (h.2 3 (by simp)).1, (h.2 4 (by simp)).1, (h.2 5 (by simp)).1⟩, (h.2 0 (by simp)).2, (h.2 1 (by simp)).2, (h.2 2 (by simp)).2, (h.2 3 (by simp)).2, (h.2 4 (by simp)).2, (h.2 5 (by simp)).2⟩
/-- a world whose variable b of six cells was written anew -/
def put6 (w : World) (b : Nat) (x0 x1 x2 x3 x4 x5 : Value) : World := (((((w.setCell ⟨b, 0, none⟩ x0).setCell ⟨b, 1, none⟩ x1).setCell ⟨b, 2, none⟩ x2).setCell ⟨b, 3, none⟩ x3).setCell ⟨b, 4, none⟩ x4).setCell ⟨b, 5, none⟩ x5
theorem put6_eq (w : World) (b : Nat) (x0 x1 x2 x3 x4 x5 : Value) : (((((w.setCell ⟨b, 0, none⟩ x0).setCell ⟨b, 1, none⟩ x1).setCell ⟨b, 2, none⟩ x2).setCell ⟨b, 3, none⟩ x3).setCell ⟨b, 4, none⟩ x4).setCell ⟨b, 5, none⟩ x5 = put6 w b x0 x1 x2 x3 x4 x5 := rfl
theorem VarAt.put6 {w : World} {b : Nat} {y0 y1 y2 y3 y4 y5 : Value} (h : VarAt w b [y0, y1, y2, y3, y4, y5]) (x0 x1 x2 x3 x4 x5 : Value) : VarAt (put6 w b x0 x1 x2 x3 x4 x5) b [x0, x1, x2, x3, x4, x5] :=
  (((((h.set 0 x0).set 1 x1).set 2 x2).set 3 x3).set 4 x4).set 5 x5
theorem upd_put6 (w : World) (b : Nat) (x0 x1 x2 x3 x4 x5 : Value) : UpdS (fun k => k = b) w (put6 w b x0 x1 x2 x3 x4 x5) :=
  (((((upd_one w b 0 x0).trans (upd_one _ b 1 x1)).trans (upd_one _ b 2 x2)).trans (upd_one _ b 3 x3)).trans (upd_one _ b 4 x4)).trans (upd_one _ b 5 x5)
theorem load_F (b : Nat) (u d r : Bool) (p q : Int) (s : ByteArray) (w : World) (h : VarAt w b [.bool u, .bool d, .bool r, .int .i64 p, .int .i64 q, .string s]) : (loadVar 55 ⟨b, 0, none⟩).run Try.prog w = .ok (.agg #[.bool u, .bool d, .bool r, .int .i64 p, .int .i64 q, .string s]) w := by
  obtain ⟨⟨h0, h1, h2, h3, h4, h5⟩, -⟩ := h.six
  go_simp
/-- a new one, empty in Go's way -/
theorem newF (w : World) : VarAt (w.alloc (.cells #[.bool false, .bool false, .bool false, .int .i64 0, .int .i64 0, .string ⟨#[]⟩] 55)) w.heap.size [.bool false, .bool false, .bool false, .int .i64 0, .int .i64 0, .string ⟨#[]⟩] := VarAt.new w [.bool false, .bool false, .bool false, .int .i64 0, .int .i64 0, .string ⟨#[]⟩] 55

theorem make32 (w : World) : ∃ v' w', (Instr.makeSlice 42 (.int .i64 32) (.int .i64 32)).run Try.prog w = .ok v' w' ∧ OwnV (Value.int .u8) 0 (fun i => i = w.heap.size) w' v' z32 ∧ Grow w w' := by
  obtain ⟨i0, hi, hz0, hz1, hz2⟩ := info_parts Try.info5
  have hrun := run_make (P := Try.prog) w 42 5 i0 (.int .u8 0) Try.underlying42 hi hz0 .i64 .i64 32 32 (by omega) (by omega) (by rw [hz2]; omega) (by omega)
  refine ⟨_, _, hrun, ?_, (Grow.refl w).alloc _⟩
  have hcell : ∀ j, j < 32 → (w.alloc (.cells (madeCells (Value.int .u8 0).cells (32 * i0.size)) 5)).cell? ⟨w.heap.size, j, none⟩ = some (.int .u8 0) := fun j hj => by
    refine (World.cell?_alloc_new w _ _ j).trans ?_
    rw [Array.getElem?_eq_getElem (by rw [size_madeCells, hz1]; omega)]
    simp [madeCells, Value.cells, Nat.mod_one]
  refine .inr ⟨w.heap.size, 0, 32, by rw [z32_len]; rfl, rfl, by omega, by rw [z32_len]; exact Nat.le_refl _, by simp only [maxLen]; omega, fun j hj => ?_, fun j hj => ⟨?_, ?_⟩⟩
  · rw [z32_len] at hj
    rw [Nat.zero_add]
    refine (hcell j hj).trans ?_
    rw [z32_at hj]
  · rw [Nat.zero_add]
    exact (congrArg Option.isSome (hcell j hj)).trans rfl
  · exact World.frozen?_alloc_new w _ _ _

end Go.Proofs.Ytgpigllimoafaaa
