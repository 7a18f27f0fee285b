/-
  Variables that hold a request, a capability, an array of closures; the closures of what is named. Conditions: each theorem's own.
-/
import Derived.Test.YtdafamocnjfmjaaDoorReqMath
import Derived.Laws.EntriesVeiled
namespace Go.Proofs.YtdafamocnjfmjaaDoor
open Go.RowKit
set_option linter.unusedVariables false
set_option linter.unusedSimpArgs false

theorem VarAt.five {w : World} {b : Nat} {x y z t u : Value} (h : VarAt w b [x, y, z, t, u]) : (w.cell? ⟨b, 0, none⟩ = some x ∧ w.cell? ⟨b, 1, none⟩ = some y ∧ w.cell? ⟨b, 2, none⟩ = some z ∧ w.cell? ⟨b, 3, none⟩ = some t ∧ w.cell? ⟨b, 4, none⟩ = some u) ∧ w.frozen? ⟨b, 0, none⟩ = false ∧ w.frozen? ⟨b, 1, none⟩ = false ∧ w.frozen? ⟨b, 2, none⟩ = false ∧ w.frozen? ⟨b, 3, none⟩ = false ∧ w.frozen? ⟨b, 4, none⟩ = false :=
  ⟨⟨(h.2 0 (by simp)).1, (h.2 1 (by simp)).1, (h.2 2 (by simp)).1, (h.2 3 (by simp)).1, (h.2 4 (by simp)).1⟩, (h.2 0 (by simp)).2, (h.2 1 (by simp)).2, (h.2 2 (by simp)).2, (h.2 3 (by simp)).2, (h.2 4 (by simp)).2⟩
theorem late5 {w u : World} {b : Nat} {x y z t v : Value} (h : VarAt w b [x, y, z, t, v]) (g : Grow w u ∨ Grow w.drew u) : u.cell? ⟨b, 0, none⟩ = some x ∧ u.cell? ⟨b, 1, none⟩ = some y ∧ u.cell? ⟨b, 2, none⟩ = some z ∧ u.cell? ⟨b, 3, none⟩ = some t ∧ u.cell? ⟨b, 4, none⟩ = some v := by
  have g' : Grow w u := g.elim (fun h => h) (fun h => (Grow.refl w).drew.trans h)
  exact (h.grow g').five.1
theorem late2 {w u : World} {b : Nat} {x y : Value} (h : VarAt w b [x, y]) (g : Grow w u ∨ Grow w.drew u) : u.cell? ⟨b, 0, none⟩ = some x ∧ u.cell? ⟨b, 1, none⟩ = some y := by
  have g' : Grow w u := g.elim (fun h => h) (fun h => (Grow.refl w).drew.trans h)
  exact (h.grow g').two.1
theorem VarAt.set5 {w : World} {b : Nat} {x0 x1 x2 x3 x4 : Value} (h : VarAt w b [x0, x1, x2, x3, x4]) (x y z t u : Value) : VarAt (((((w.setCell ⟨b, 0, none⟩ x).setCell ⟨b, 1, none⟩ y).setCell ⟨b, 2, none⟩ z).setCell ⟨b, 3, none⟩ t).setCell ⟨b, 4, none⟩ u) b [x, y, z, t, u] :=
  ((((h.set 0 x).set 1 y).set 2 z).set 3 t).set 4 u
theorem upd_five (w : World) (b : Nat) (x y z t u : Value) : UpdS (fun k => k = b) w (((((w.setCell ⟨b, 0, none⟩ x).setCell ⟨b, 1, none⟩ y).setCell ⟨b, 2, none⟩ z).setCell ⟨b, 3, none⟩ t).setCell ⟨b, 4, none⟩ u) :=
  ((((upd_one w b 0 x).trans (upd_one _ b 1 y)).trans (upd_one _ b 2 z)).trans (upd_one _ b 3 t)).trans (upd_one _ b 4 u)
theorem load_Rq (b : Nat) (x y z t : Int) (v : Value) (w : World) (h : VarAt w b [.int .i64 x, .int .i64 y, .int .i64 z, .int .i64 t, v]) (hv : v.oneCell' = true) : (loadVar 24 ⟨b, 0, none⟩).run Tryd.prog w = .ok (.agg #[.int .i64 x, .int .i64 y, .int .i64 z, .int .i64 t, v]) w := by
  obtain ⟨⟨h0, h1, h2, h3, h4⟩, -⟩ := h.five
  cases v <;> simp [Value.oneCell'] at hv <;> go_simp
theorem load_Cp (b : Nat) (s g : Int) (w : World) (h : VarAt w b [.int .i64 s, .int .i64 g]) : (loadVar 37 ⟨b, 0, none⟩).run Tryd.prog w = .ok (.agg #[.int .i64 s, .int .i64 g]) w := by
  obtain ⟨⟨h0, h1⟩, -⟩ := h.two
  go_simp

/-- a closure that tells of a field whether it is among those; it and its row lie in blocks of p -/
def NamesAt (p : Nat → Prop) (w : World) (b : Nat) (ns : List Int) : Prop := p b ∧ ∃ v, VarAt w b [v] ∧ RdV (Value.int .i64) 0 p w v ns
theorem NamesAt.upd {S p : Nat → Prop} {w w' : World} {b : Nat} {ns : List Int} (h : NamesAt p w b ns) (hu : UpdS S w w') (hS : ∀ i, p i → ¬ S i) : NamesAt p w' b ns := by
  obtain ⟨h0, v, h1, h2⟩ := h
  exact ⟨h0, v, h1.upd hu (hS b h0), h2.upd hu (fun i _ hi => hS i hi)⟩
theorem NamesAt.grow {p : Nat → Prop} {w w' : World} {b : Nat} {ns : List Int} (h : NamesAt p w b ns) (hg : Grow w w') : NamesAt p w' b ns := h.upd (S := fun _ => False) hg.s (fun _ _ f => f)
theorem lit1 (w : World) (t : TypeId) (a : Int) (g : Nat) (p : Nat → Prop) (hg : g = w.heap.size) (hp : p g) : RdV (Value.int .i64) 0 p (w.alloc (.cells #[.int .i64 a] t)) (.slice (some ⟨g, 0, none⟩) 1 1) [a] := by
  subst hg
  exact ⟨_, 1, rfl, Nat.le_refl _, by decide, fun i hi => ⟨w.heap.size, 0, rfl, hp, by
    rw [Nat.zero_add]
    refine (World.cell?_alloc_new w _ _ i).trans ?_
    rcases (show i = 0 by simp at hi; omega) with rfl; rfl⟩⟩
theorem lit3 (w : World) (t : TypeId) (a b c : Int) (g : Nat) (p : Nat → Prop) (hg : g = w.heap.size) (hp : p g) : RdV (Value.int .i64) 0 p (w.alloc (.cells #[.int .i64 a, .int .i64 b, .int .i64 c] t)) (.slice (some ⟨g, 0, none⟩) 3 3) [a, b, c] := by
  subst hg
  exact ⟨_, 3, rfl, Nat.le_refl _, by decide, fun i hi => ⟨w.heap.size, 0, rfl, hp, by
    rw [Nat.zero_add]
    refine (World.cell?_alloc_new w _ _ i).trans ?_
    rcases (show i = 0 ∨ i = 1 ∨ i = 2 by simp at hi; omega) with rfl | rfl | rfl <;> rfl⟩⟩

theorem VarAt.nine {w : World} {b : Nat} {v0 v1 v2 v3 v4 v5 v6 v7 v8 : Value} (h : VarAt w b [v0, v1, v2, v3, v4, v5, v6, v7, v8]) : (w.cell? ⟨b, 0, none⟩ = some v0 ∧ w.cell? ⟨b, 1, none⟩ = some v1 ∧ w.cell? ⟨b, 2, none⟩ = some v2 ∧ w.cell? ⟨b, 3, none⟩ = some v3 ∧ w.cell? ⟨b, 4, none⟩ = some v4 ∧ w.cell? ⟨b, 5, none⟩ = some v5 ∧ w.cell? ⟨b, 6, none⟩ = some v6 ∧ w.cell? ⟨b, 7, none⟩ = some v7 ∧ w.cell? ⟨b, 8, none⟩ = some v8) ∧ ∀ j, j < 9 → w.frozen? ⟨b, j, none⟩ = false :=
  ⟨⟨(h.2 0 (by simp)).1, (h.2 1 (by simp)).1, (h.2 2 (by simp)).1, (h.2 3 (by simp)).1, (h.2 4 (by simp)).1, (h.2 5 (by simp)).1, (h.2 6 (by simp)).1, (h.2 7 (by simp)).1, (h.2 8 (by simp)).1⟩, fun j hj => (h.2 j (by simpa using hj)).2⟩
theorem VarAt.set9 {w : World} {b : Nat} {x0 x1 x2 x3 x4 x5 x6 x7 x8 : Value} (h : VarAt w b [x0, x1, x2, x3, x4, x5, x6, x7, x8]) (v0 v1 v2 v3 v4 v5 v6 v7 v8 : Value) : VarAt (((((((((w.setCell ⟨b, 0, none⟩ v0).setCell ⟨b, 1, none⟩ v1).setCell ⟨b, 2, none⟩ v2).setCell ⟨b, 3, none⟩ v3).setCell ⟨b, 4, none⟩ v4).setCell ⟨b, 5, none⟩ v5).setCell ⟨b, 6, none⟩ v6).setCell ⟨b, 7, none⟩ v7).setCell ⟨b, 8, none⟩ v8) b [v0, v1, v2, v3, v4, v5, v6, v7, v8] :=
  ((((((((h.set 0 v0).set 1 v1).set 2 v2).set 3 v3).set 4 v4).set 5 v5).set 6 v6).set 7 v7).set 8 v8
theorem upd_nine (w : World) (b : Nat) (v0 v1 v2 v3 v4 v5 v6 v7 v8 : Value) : UpdS (fun k => k = b) w (((((((((w.setCell ⟨b, 0, none⟩ v0).setCell ⟨b, 1, none⟩ v1).setCell ⟨b, 2, none⟩ v2).setCell ⟨b, 3, none⟩ v3).setCell ⟨b, 4, none⟩ v4).setCell ⟨b, 5, none⟩ v5).setCell ⟨b, 6, none⟩ v6).setCell ⟨b, 7, none⟩ v7).setCell ⟨b, 8, none⟩ v8) :=
  ((((((((upd_one w b 0 v0).trans (upd_one _ b 1 v1)).trans (upd_one _ b 2 v2)).trans (upd_one _ b 3 v3)).trans (upd_one _ b 4 v4)).trans (upd_one _ b 5 v5)).trans (upd_one _ b 6 v6)).trans (upd_one _ b 7 v7)).trans (upd_one _ b 8 v8)
/-- the closure at a block -/
abbrev clo (b : Nat) : Value := .func (.func 51) #[] #[.pointer (some ⟨b, 0, none⟩)]
theorem load_A9 (b : Nat) (b1 b2 b3 b4 b5 b6 b7 b8 : Nat) (w : World) (h : VarAt w b [.nilFunc, clo b1, clo b2, clo b3, clo b4, clo b5, clo b6, clo b7, clo b8]) : (loadVar 52 ⟨b, 0, none⟩).run Tryd.prog w = .ok (.agg #[.nilFunc, clo b1, clo b2, clo b3, clo b4, clo b5, clo b6, clo b7, clo b8]) w := by
  obtain ⟨⟨h0, h1, h2, h3, h4, h5, h6, h7, h8⟩, -⟩ := h.nine
  unfold clo at *
  go_simp
end Go.Proofs.YtdafamocnjfmjaaDoor
