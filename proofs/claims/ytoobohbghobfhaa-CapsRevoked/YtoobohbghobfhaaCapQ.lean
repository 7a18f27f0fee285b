/-
  A table and a list while a region draws its order. Conditions: each theorem's own.
-/
import Derived.Test.YtoobohbghobfhaaCapW
import Derived.Test.YtoobohbghobfhaaTree
import Derived.Deep.CutRange
namespace Go.Proofs.Ytoobohbghobfhaa
open Go.RowKit
set_option linter.unusedVariables false
set_option linter.unusedSimpArgs false

/-- the table and the list, whose row lies below N -/
def LwQ (w u : World) (b N : Nat) (S : List Sl) (k n : Int) (v : Value) (L : List Cp) : Prop :=
  TbAt u b S k n ∧ OwnS Cp.cs 2 (fun i => (w.heap.size ≤ i ∧ i ≠ b) ∧ i < N) u v L ∧ Grow w u ∧ w.heap.size ≤ b ∧ b < N ∧ N ≤ u.heap.size
theorem LwM.q {w wr : World} {b : Nat} {S : List Sl} {k n : Int} {v : Value} {L : List Cp} (h : LwM w wr b S k n v L) : LwQ w wr.drew b wr.heap.size S k n v L :=
  ⟨h.1.grow (Grow.refl _).drew, (h.2.1.mono (fun i hl hi => ⟨hi, hl⟩)).grow (Grow.refl _).drew, h.2.2.1.drew, h.2.2.2, h.1.lt, Nat.le_refl _⟩
theorem LwQ.grow {w u u' : World} {b N : Nat} {S : List Sl} {k n : Int} {v : Value} {L : List Cp} (h : LwQ w u b N S k n v L) (g : Grow u u') : LwQ w u' b N S k n v L :=
  ⟨h.1.grow g, h.2.1.grow g, h.2.2.1.trans g, h.2.2.2.1, h.2.2.2.2.1, Nat.le_trans h.2.2.2.2.2 g.size⟩
theorem LwQ.turn {w u u' : World} {b N : Nat} {S S' : List Sl} {k n n' : Int} {v : Value} {L : List Cp} (h : LwQ w u b N S k n v L) (t : TbAt u' b S' k n') (g : UpdS (fun x => x = b) u u') : LwQ w u' b N S' k n' v L :=
  ⟨t, h.2.1.upd g (fun i _ hi => hi.1.2), UpdS.new h.2.2.1 g (fun i hi => by have := h.2.2.2.1; omega), h.2.2.2.1, h.2.2.2.2.1, Nat.le_trans h.2.2.2.2.2 g.size⟩
theorem LwQ.put {w u u' : World} {b N c : Nat} {S : List Sl} {k n : Int} {v : Value} {L : List Cp} (h : LwQ w u b N S k n v L) (hc : N ≤ c) (g : UpdS (fun x => x = c) u u') : LwQ w u' b N S k n v L := by
  have hb := h.2.2.2.2.1
  have hw := h.2.2.2.1
  exact ⟨h.1.upd g (by omega), h.2.1.upd g (fun i _ hi => by have := hi.2; omega), UpdS.new h.2.2.1 g (fun i hi => by omega), hw, hb, Nat.le_trans h.2.2.2.2.2 g.size⟩
theorem LwQ.m {w u : World} {b N : Nat} {S : List Sl} {k n : Int} {v : Value} {L : List Cp} (h : LwQ w u b N S k n v L) : LwM w u b S k n v L :=
  ⟨h.1, h.2.1.mono (fun i _ hi => hi.1), h.2.2.1, h.2.2.2.1⟩
theorem zeroC (w : World) : (zeroValue 33).run Try.prog w = .ok (.agg #[.int .i64 0, .int .i64 0]) w := by go_simp
theorem exec_allocC {P : Program} {w : World} {ev : Operand → Value} {d : Option Tmp} {t ty : TypeId} {p : String} {af : Array Edge} {g : Option (Nat × Bool)} (cs : Array Value) (hz : ∀ w, (zeroValue t).run P w = .ok (.agg cs) w) :
    (execOp ev ⟨d, .alloc t, ty, p, af, g⟩).run P w = .ok (.value (.pointer (some ⟨w.heap.size, 0, none⟩))) (w.alloc (.cells cs t)) := by
  have hrun : (Instr.alloc t true (.tuple #[])).run P w = .ok (.pointer (some ⟨w.heap.size, 0, none⟩)) (w.alloc (.cells cs t)) := by
    simp [Instr.alloc, hz, newVar, newRow, Value.cells, Result.andThen]
  simp [execOp, hrun, Result.andThen]
/-- a number handed in, read in all worlds that leave it -/
theorem arg_cell {w wr w' : World} {b N g o : Nat} {u : Value} (h : wr.cell? ⟨g, o, none⟩ = some u) (hg : g < w.heap.size) (hb : w.heap.size ≤ b) (hN : w.heap.size ≤ N) (hu : UpdS (fun i => i = b ∨ N ≤ i) wr w') : w'.cell? ⟨g, o, none⟩ = some u := by
  have hl := World.block_lt_of_cell? _ _ h
  rw [hu.cell (p := ⟨g, o, none⟩) hl (by show ¬ (g = b ∨ N ≤ g); omega)]
  exact h
end Go.Proofs.Ytoobohbghobfhaa
