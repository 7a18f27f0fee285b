/-
  Small words: one element more of a list, ints in their bounds, what Lib says in LibV's words and back. Conditions: each theorem's own.
-/
import Derived.Test.YtdafamocnjfmjaaDoorLibV
namespace Go.Proofs.YtdafamocnjfmjaaDoor
open Go.RowKit
set_option linter.unusedVariables false

theorem take_snoc {α : Type} (l : List α) (d : α) (j : Nat) (h : j < l.length) : l.take (j + 1) = l.take j ++ [l.getD j d] := by
  rw [List.take_succ_eq_append_getElem h]
  simp [List.getD, List.getElem?_eq_getElem h]

theorem wfI {n : Int} (h : -9223372036854775808 ≤ n ∧ n ≤ 9223372036854775807) : (Lit.int .i64 n).wf = true := by
  obtain ⟨h0, h1⟩ := h
  simp [Lit.wf]
  first
    | exact ⟨h0, h1⟩
    | (rw [IntKind.wrap_i64]; omega)

theorem Rd.v {k : IntKind} {B : Nat} {w : World} {v : Value} {zs : List Int} (h : Rd k B w v zs) : RdV (Value.int k) 0 (fun i => i < B) w v zs := h
theorem RdV.i {k : IntKind} {p : Nat → Prop} {w : World} {v : Value} {zs : List Int} (h : RdV (Value.int k) 0 p w v zs) : Rd k w.heap.size w v zs := by
  obtain ⟨a, c, e, h1, h2, h3⟩ := h
  exact ⟨a, c, e, h1, h2, fun i hi => by obtain ⟨b, o, e, _, hc⟩ := h3 i hi; exact ⟨b, o, e, World.block_lt_of_cell? _ _ hc, hc⟩⟩
theorem Own.v {k : IntKind} {B : Nat} {w : World} {v : Value} {zs : List Int} (h : Own k B w v zs) : OwnV (Value.int k) 0 (fun i => B ≤ i) w v zs := by
  rcases h with h | ⟨g, o, c, e, hb, hnc, hcm, hc, ht⟩
  · exact .inl h
  · by_cases h0 : c = 0
    · subst h0
      have : zs = [] := List.eq_nil_of_length_eq_zero (by omega)
      subst this
      exact .inl ⟨rfl, _, e⟩
    · exact .inr ⟨g, o, c, e, hb, by omega, hnc, hcm, hc, ht⟩
theorem OwnV.i {k : IntKind} {p : Nat → Prop} {B : Nat} {w : World} {v : Value} {zs : List Int} (h : OwnV (Value.int k) 0 p w v zs) (hp : ∀ i, p i → B ≤ i) : Own k B w v zs := by
  rcases h with h | ⟨g, o, c, e, hb, h0, hnc, hcm, hc, ht⟩
  · exact .inl h
  · exact .inr ⟨g, o, c, e, hp g hb, hnc, hcm, hc, ht⟩
theorem oneI (k : IntKind) (x : Int) : (Value.int k x).oneCell' = true := rfl
end Go.Proofs.YtdafamocnjfmjaaDoor
