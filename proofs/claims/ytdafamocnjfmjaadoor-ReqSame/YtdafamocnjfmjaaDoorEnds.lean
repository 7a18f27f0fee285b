/-
  Two results, one of them in a cell; an append inside a region that draws its order; rows of integers laid at once. Conditions: each theorem's own.
-/
import Derived.Test.YtdafamocnjfmjaaDoorArr
namespace Go.Proofs.YtdafamocnjfmjaaDoor
open Go.RowKit
set_option linter.unusedVariables false

theorem results_cell_tmp {P : Program} {fn : Func} {p t : Tmp} {ty : TypeId} (h : fn.results = #[.cell p ty, .tmp t]) (tmps : Array Value) (w : World) (x : Addr) (v : Value) (hp : tmps.getD p undef = .pointer (some x))
    (hl : (loadVar ty x).run P w = .ok v w) : (results fn tmps).run P w = .ok (.tuple #[v, tmps.getD t undef]) w := by
  have hp' : tmps[p]?.getD undef = .pointer (some x) := by simpa using hp
  simp only [results, h]
  simp [hp', asAddr, hl]

theorem exec_app {P : Program} {w w' : World} {o : Oper} {a : Act} {s x : Operand} {t tx : TypeId} {v xv v' : Value} (ho : o.op = .call { callee := .builtin .append, args := #[s, x], argTypes := #[t, tx] }) (hv : a.eval s = v) (hx : a.eval x = xv)
    (hrun : (Builtin.append_ #[t, tx] o.type #[v, xv]).run P w = .ok v' w') : (execOp a.eval o).run P w = .ok (.value v') w' := by
  simp [execOp, ho, resolve, invoke, builtin, hv, hx, hrun, Result.andThen]

theorem below_s {B : Nat} {x y : World} (h : Below B x y) : UpdS (fun i => B ≤ i) x y := ⟨h.os, h.tape, h.output, h.size, fun k hk hn => h.block k (by omega)⟩

/-- integers laid in a new block: a slice of the call's own -/
theorem own_row (k : IntKind) (zs : List Int) (e : TypeId) (w : World) (B : Nat) (hB : B ≤ w.heap.size) (h : zs.length ≤ 1000000) : Own k B (w.alloc (.cells (zs.map (Value.int k)).toArray e)) (.slice (some ⟨w.heap.size, 0, none⟩) zs.length zs.length) zs := by
  have hc : ∀ j, j < zs.length → (w.alloc (.cells (zs.map (Value.int k)).toArray e)).cell? ⟨w.heap.size, 0 + j, none⟩ = some (.int k (zs.getD j 0)) := fun j hj => by
    rw [Nat.zero_add]
    refine (World.cell?_alloc_new w _ _ j).trans ?_
    simp [List.getD, List.getElem?_eq_getElem hj]
  exact .inr ⟨w.heap.size, 0, zs.length, rfl, hB, Nat.le_refl _, by simp only [maxLen]; omega, hc, fun j hj => ⟨by rw [hc j hj]; rfl, World.frozen?_alloc_new w _ _ _⟩⟩
theorem results_cell_tmp2 {P : Program} {fn : Func} {p t u : Tmp} {ty : TypeId} (h : fn.results = #[.cell p ty, .tmp t, .tmp u]) (tmps : Array Value) (w : World) (x : Addr) (v : Value) (hp : tmps.getD p undef = .pointer (some x))
    (hl : (loadVar ty x).run P w = .ok v w) : (results fn tmps).run P w = .ok (.tuple #[v, tmps.getD t undef, tmps.getD u undef]) w := by
  have hp' : tmps[p]?.getD undef = .pointer (some x) := by simpa using hp
  simp only [results, h]
  simp [hp', asAddr, hl]
theorem results_tmp4 {P : Program} {fn : Func} {t u v x : Tmp} (h : fn.results = #[.tmp t, .tmp u, .tmp v, .tmp x]) (tmps : Array Value) (w : World) :
    (results fn tmps).run P w = .ok (.tuple #[tmps.getD t undef, tmps.getD u undef, tmps.getD v undef, tmps.getD x undef]) w := by
  simp [results, h]
end Go.Proofs.YtdafamocnjfmjaaDoor
