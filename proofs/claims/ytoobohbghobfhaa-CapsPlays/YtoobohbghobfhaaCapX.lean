/-
  A table, the document's beside it, and the list of what was given out. Conditions: each theorem's own.
-/
import Derived.Test.YtoobohbghobfhaaCapJ
import Derived.Test.YtoobohbghobfhaaOpenO
import Derived.Deep.CutBlock
namespace Go.Proofs.Ytoobohbghobfhaa
open Go.RowKit
set_option linter.unusedVariables false
set_option linter.unusedSimpArgs false

/-- the table S, the document's S2, the list A -/
def PlIn (p q : Nat → Prop) (w wr : World) (b b8 : Nat) (k : Int) (S : List Sl) (n : Int) (S2 : List Sl) (n2 : Int) (v av : Value) (A : List Cp) : Prop :=
  TbAt wr b S k n ∧ VarAt wr b8 [.int .i64 k, .int .i64 n2, v] ∧ RdL q wr v (allS S2) ∧ OwnS Cp.cs 2 p wr av A ∧ (∀ i, p i → w.heap.size ≤ i ∧ i < wr.heap.size ∧ i ≠ b ∧ i ≠ b8 ∧ ¬ q i) ∧ (∀ i, q i → w.heap.size ≤ i ∧ i < wr.heap.size ∧ i ≠ b ∧ i ≠ b8) ∧ Grow w wr ∧ w.heap.size ≤ b ∧ b < b8
def PlAt (w wr : World) (b b8 : Nat) (k : Int) (S : List Sl) (n : Int) (S2 : List Sl) (n2 : Int) (v av : Value) (A : List Cp) : Prop := ∃ p q, PlIn p q w wr b b8 k S n S2 n2 v av A
section
variable {p q : Nat → Prop} {w wr w2 : World} {b b8 : Nat} {k : Int} {S S' : List Sl} {n n' : Int} {S2 S2' : List Sl} {n2 n2' : Int} {v v' av av' : Value} {A A' : List Cp}
theorem PlIn.at (h : PlIn p q w wr b b8 k S n S2 n2 v av A) : PlAt w wr b b8 k S n S2 n2 v av A := ⟨p, q, h⟩
theorem PlIn.grow (h : PlIn p q w wr b b8 k S n S2 n2 v av A) (g : Grow wr w2) : PlIn p q w w2 b b8 k S n S2 n2 v av A := by
  obtain ⟨h1, h2, h3, h4, h5, h6, h7, h8, h9⟩ := h
  have hs := g.size
  exact ⟨h1.grow g, h2.grow g, h3.grow g, h4.grow g, fun i hi => by have := h5 i hi; exact ⟨this.1, by omega, this.2.2⟩, fun i hi => by have := h6 i hi; exact ⟨this.1, by omega, this.2.2⟩, h7.trans g, h8, h9⟩
theorem PlAt.grow (h : PlAt w wr b b8 k S n S2 n2 v av A) (g : Grow wr w2) : PlAt w w2 b b8 k S n S2 n2 v av A := by
  obtain ⟨p, q, h⟩ := h
  exact ⟨p, q, h.grow g⟩
theorem PlAt.tab (h : PlAt w wr b b8 k S n S2 n2 v av A) (t : TbAt w2 b S' k n') (u : UpdS (fun x => x = b) wr w2) : PlAt w w2 b b8 k S' n' S2 n2 v av A := by
  obtain ⟨p, q, h1, h2, h3, h4, h5, h6, h7, h8, h9⟩ := h
  have hs := u.size
  exact ⟨p, q, t, h2.upd u (by omega), RdS.upd h3 u (fun i _ hi => (h6 i hi).2.2.1), h4.upd u (fun i _ hi => (h5 i hi).2.2.1), fun i hi => by have := h5 i hi; exact ⟨this.1, by omega, this.2.2⟩, fun i hi => by have := h6 i hi; exact ⟨this.1, by omega, this.2.2⟩, UpdS.new h7 u (fun i hi => by omega), h8, h9⟩
/-- the document's table set anew -/
theorem PlIn.doc (h : PlIn p q w wr b b8 k S n S2 n2 v av A) (g : Grow wr w2) (hv : RdL (fun i => q i ∨ wr.heap.size ≤ i) w2 v' (allS S2')) :
    PlAt w (((w2.setCell ⟨b8, 0, none⟩ (.int .i64 k)).setCell ⟨b8, 1, none⟩ (.int .i64 n2')).setCell ⟨b8, 2, none⟩ v') b b8 k S n S2' n2' v' av A ∧ UpdS (fun i => i = b8) w2 (((w2.setCell ⟨b8, 0, none⟩ (.int .i64 k)).setCell ⟨b8, 1, none⟩ (.int .i64 n2')).setCell ⟨b8, 2, none⟩ v') := by
  obtain ⟨h1, h2, h3, h4, h5, h6, h7, h8, h9⟩ := h
  have u := upd_three' w2 b8 (.int .i64 k) (.int .i64 n2') v'
  have hs := g.size
  have hs2 := u.size
  have hb := h1.lt
  have hb8 := h2.lt
  refine ⟨⟨p, fun i => (q i ∨ wr.heap.size ≤ i) ∧ i < w2.heap.size, (h1.grow g).upd u (by omega), (h2.grow g).set3' _ _ _, RdS.upd (RdS.mono hv (fun i hl hi => ⟨hi, hl⟩)) u (fun i _ hi e => ?_), (h4.grow g).upd u (fun i _ hi => (h5 i hi).2.2.2.1), fun i hi => ?_, fun i hi => ?_, UpdS.new (h7.trans g) u (fun i hi => by omega), h8, h9⟩, u⟩
  · rcases hi.1 with x | x
    · exact (h6 i x).2.2.2 e
    · omega
  · have := h5 i hi
    exact ⟨this.1, by omega, this.2.2.1, this.2.2.2.1, fun x => x.1.elim (fun y => this.2.2.2.2 y) (fun y => by omega)⟩
  · rcases hi.1 with x | x
    · have := h6 i x
      exact ⟨this.1, by omega, this.2.2⟩
    · have := h7.size
      exact ⟨by omega, by have := hi.2; omega, by omega, by omega⟩
/-- one more in the list -/
theorem PlIn.app {x y : Int} (h : PlIn p q w wr b b8 k S n S2 n2 v av A) (ho : OwnS Cp.cs 2 (fun i => p i ∨ i = wr.heap.size + 1) w2 av' A') (hu : UpdS p (wr.alloc (.cells #[.int .i64 x, .int .i64 y] 33)) w2) : PlAt w w2 b b8 k S n S2 n2 v av' A' := by
  have hg := (Grow.refl wr).alloc (.cells #[.int .i64 x, .int .i64 y] 33)
  have hz : (wr.alloc (.cells #[.int .i64 x, .int .i64 y] 33)).heap.size = wr.heap.size + 1 := World.size_alloc _ _
  obtain ⟨h1, h2, h3, h4, h5, h6, h7, h8, h9⟩ := h
  have hs := hu.size
  have hb := h1.lt
  have hb8 := h2.lt
  have hw := h7.size
  refine ⟨fun i => (p i ∨ i = wr.heap.size + 1) ∧ i < w2.heap.size, q, (h1.grow hg).upd hu (fun hi => (h5 b hi).2.2.1 rfl), (h2.grow hg).upd hu (fun hi => (h5 b8 hi).2.2.2.1 rfl), RdS.upd (h3.grow hg) hu (fun i _ hi hp => (h5 i hp).2.2.2.2 hi), ho.mono (fun i hl hi => ⟨hi, hl⟩), fun i hi => ?_, fun i hi => ?_, UpdS.new (h7.trans hg) hu (fun i hi => (h5 i hi).1), h8, h9⟩
  · rcases hi.1 with x | x
    · have := h5 i x
      exact ⟨this.1, hi.2, this.2.2⟩
    · exact ⟨by omega, hi.2, by omega, by omega, fun hq => by have := h6 i hq; omega⟩
  · have := h6 i hi
    exact ⟨this.1, by omega, this.2.2⟩
end
theorem five_c {w : World} {b : Nat} {x0 x1 x2 x3 x4 : Value} (h : VarAt w b [x0, x1, x2, x3, x4]) : w.cell? ⟨b, 0, none⟩ = some x0 ∧ w.cell? ⟨b, 1, none⟩ = some x1 ∧ w.cell? ⟨b, 2, none⟩ = some x2 ∧ w.cell? ⟨b, 3, none⟩ = some x3 ∧ w.cell? ⟨b, 4, none⟩ = some x4 :=
  ⟨(h.2 0 (by simp)).1, (h.2 1 (by simp)).1, (h.2 2 (by simp)).1, (h.2 3 (by simp)).1, (h.2 4 (by simp)).1⟩
end Go.Proofs.Ytoobohbghobfhaa
