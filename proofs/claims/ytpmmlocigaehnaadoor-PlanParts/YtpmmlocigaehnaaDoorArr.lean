/-
  Own laws for the walk: a new array, a new slice of a capacity, a result that lies in a cell. Conditions: each theorem's own.
-/
import Derived.Test.YtpmmlocigaehnaaDoorLib
import Derived.Test.YtpmmlocigaehnaaDoorSched
import Derived.Deep.MidRow
import Derived.OwnWalk
import Derived.Laws.MakeOwn
namespace Go.Proofs.YtpmmlocigaehnaaDoor
open Go.RowKit
set_option linter.unusedVariables false

section
variable {P : Program}

/-- a new array: its noughts -/
theorem wpList_alloc_row {w : World} {ops : Array Oper} {rest : List Oper} {o : Oper} {a : Act} {Q : Exit → Act → World → Prop} (hgd : o.guard = none) (t : TypeId) (ho : o.op = .alloc t)
    (cs : Array Value) (hz : ∀ w, (zeroValue t).run P w = .ok (.agg cs) w)
    (hK : wpList P ops Q rest (a.put o.dst (.pointer (some ⟨w.heap.size, 0, none⟩))) (w.alloc (.cells cs t))) : wpList P ops Q (o :: rest) a w := by
  refine wpList_plain hgd fun K hK' => ?_
  unfold Oper.wp
  have hrun : (Instr.alloc t true (.tuple #[])).run P w = .ok (.pointer (some ⟨w.heap.size, 0, none⟩)) (w.alloc (.cells cs t)) := by
    simp [Instr.alloc, hz, newVar, newRow, Value.cells, Result.andThen]
  simp [execOp, ho, hrun, Result.andThen]
  exact hK' _ _ hK

/-- a new slice, empty, of a capacity -/
theorem wpList_make {w : World} {ops : Array Oper} {rest : List Oper} {o : Oper} {a : Act} {Q : Exit → Act → World → Prop} (hgd : o.guard = none) (l c : Operand) (t : TypeId) (ho : o.op = .makeSlice t l c)
    (k : IntKind) (e : TypeId) (i : TypeInfo) (z : Value) (ht : P.underlying t = some (.slice e)) (hi : P.info? e = some i) (hz : i.zero = some z) (hsize : i.size = 1) (hby : i.bytes = 1)
    (kl kc : IntKind) (C : Int) (n : Nat) (hl : a.eval l = .int kl 0) (hc : a.eval c = .int kc C) (hC : C = (n : Int)) (hn : n ≤ 100000000)
    (hK : ∀ v' w', Own k w.heap.size w' v' [] → Below w.heap.size w w' → wpList P ops Q rest (a.put o.dst v') w') : wpList P ops Q (o :: rest) a w := by
  subst hC
  refine wpList_plain hgd fun K hK' => ?_
  have hrun := run_make (P := P) w t e i z ht hi hz kl kc 0 n (by omega) (by omega) (by rw [hby]; omega) (by omega)
  unfold Oper.wp
  simp [execOp, ho, hl, hc, hrun, Result.andThen]
  refine hK' _ _ (hK _ _ (.inr ⟨w.heap.size, 0, n, rfl, Nat.le_refl _, Nat.zero_le _, by simp only [maxLen]; omega, fun j hj => absurd hj (Nat.not_lt_zero _), fun j hj => ⟨?_, ?_⟩⟩) ((Below.refl _ w).alloc (Nat.le_refl _) _))
  · rw [Nat.zero_add]
    refine (congrArg Option.isSome (World.cell?_alloc_new w _ _ j)).trans ?_
    rw [Array.getElem?_eq_getElem (by rw [size_madeCells, hsize]; omega)]
    rfl
  · exact World.frozen?_alloc_new w _ _ _

/-- one result, which lies in a cell -/
theorem results_cell {fn : Func} {p : Tmp} {ty : TypeId} (h : fn.results = #[.cell p ty]) (tmps : Array Value) (w : World) (x : Addr) (v : Value) (hp : tmps.getD p undef = .pointer (some x))
    (hl : (loadVar ty x).run P w = .ok v w) : (results fn tmps).run P w = .ok v w := by
  have hp' : tmps[p]?.getD undef = .pointer (some x) := by simpa using hp
  simp only [results, h]
  simp [hp', asAddr, hl]
end
/-- a slice of the call's own, one element of it set -/
theorem Own.row {k : IntKind} {B : Nat} {w : World} {v : Value} {zs : List Int} (h : Own k B w v zs) {j : Nat} (hj : j < zs.length) :
    ∃ g o c, v = .slice (some ⟨g, o, none⟩) zs.length c ∧ B ≤ g ∧ zs.length ≤ c ∧ c ≤ maxLen ∧ w.cell? ⟨g, o + j, none⟩ = some (.int k (zs.getD j 0)) ∧ w.frozen? ⟨g, o + j, none⟩ = false ∧
      ∀ y, Own k B (w.setCell ⟨g, o + j, none⟩ (.int k y)) v (zs.set j y) := by
  rcases h with ⟨rfl, _⟩ | ⟨g, o, c, rfl, hb, hnc, hcm, hc, ht⟩
  · exact absurd hj (Nat.not_lt_zero _)
  · refine ⟨g, o, c, rfl, hb, hnc, hcm, hc j hj, (ht j (by omega)).2, fun y => .inr ⟨g, o, c, by rw [List.length_set], hb, by rw [List.length_set]; exact hnc, hcm, fun i hi => ?_, fun i hi => ⟨?_, ?_⟩⟩⟩
    · rw [List.length_set] at hi
      by_cases e : i = j
      · subst e
        rw [World.cell?_setCell_same _ _ _ (hc i hi)]
        simp [List.getD, hi]
      · rw [World.cell?_setCell_other _ _ _ _ (by intro h; injection h with _ h2; omega), hc i hi]
        simp [List.getD, Ne.symm e]
    · obtain ⟨u, hu⟩ := Option.isSome_iff_exists.1 (ht i hi).1
      by_cases e : (⟨g, o + j, none⟩ : Addr) = ⟨g, o + i, none⟩
      · rw [e, World.cell?_setCell_same _ _ _ hu]; rfl
      · rw [World.cell?_setCell_other _ _ _ _ e, hu]; rfl
    · rw [World.frozen?_setCell]; exact (ht i hi).2
end Go.Proofs.YtpmmlocigaehnaaDoor
