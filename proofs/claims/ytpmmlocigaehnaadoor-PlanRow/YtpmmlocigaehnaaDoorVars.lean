/-
  Variables of several cells: a second new block, a block that was there, variables of two cells. Conditions: each theorem's own.
-/
import Derived.Test.YtpmmlocigaehnaaDoorLibS
namespace Go.Proofs.YtpmmlocigaehnaaDoor
open Go.RowKit
set_option linter.unusedVariables false
set_option linter.unusedSimpArgs false

/-- a second new block -/
theorem VarAt.new2 (w : World) (o : Obj) (vs : List Value) (t : TypeId) : VarAt ((w.alloc o).alloc (.cells vs.toArray t)) (w.heap.size + 1) vs := by
  have := VarAt.new (w.alloc o) vs t
  rw [World.size_alloc] at this
  exact this
theorem VarAt.new3 (w : World) (o o2 : Obj) (vs : List Value) (t : TypeId) : VarAt (((w.alloc o).alloc o2).alloc (.cells vs.toArray t)) (w.heap.size + 2) vs := by
  have := VarAt.new2 (w.alloc o) o2 vs t
  rw [World.size_alloc] at this
  exact this
theorem VarAt.old {w : World} {b : Nat} {vs : List Value} (h : VarAt w b vs) (o : Obj) : VarAt (w.alloc o) b vs := h.grow ((Grow.refl w).alloc o)
theorem VarAt.two {w : World} {b : Nat} {x y : Value} (h : VarAt w b [x, y]) : (w.cell? ⟨b, 0, none⟩ = some x ∧ w.cell? ⟨b, 1, none⟩ = some y) ∧ w.frozen? ⟨b, 0, none⟩ = false ∧ w.frozen? ⟨b, 1, none⟩ = false :=
  ⟨⟨(h.2 0 (by simp)).1, (h.2 1 (by simp)).1⟩, (h.2 0 (by simp)).2, (h.2 1 (by simp)).2⟩
theorem VarAt.set2 {w : World} {b : Nat} {x0 x1 : Value} (h : VarAt w b [x0, x1]) (x y : Value) : VarAt ((w.setCell ⟨b, 0, none⟩ x).setCell ⟨b, 1, none⟩ y) b [x, y] := (h.set 0 x).set 1 y
theorem upd_pair (w : World) (b : Nat) (x y : Value) : UpdS (fun k => k = b) w ((w.setCell ⟨b, 0, none⟩ x).setCell ⟨b, 1, none⟩ y) := (upd_one w b 0 x).trans (upd_one _ b 1 y)
end Go.Proofs.YtpmmlocigaehnaaDoor
