/-
  Opener: what a slice of bools reads as. Conditions: the theorem's own.
-/
import Derived.Test.YtoobohbghobfhaaLibV
import Derived.ProofKit
import Derived.OpenShut
import Derived.Deep.Slices
namespace Go.Proofs.Ytoobohbghobfhaa
open Go.RowKit Go.ChangeShapes Go.WideShapes
set_option linter.unusedVariables false

section
variable {H : Type} {enc : TypeId × Value → H} {P : Program} {w : World} {base : Nat} {spare : Nat → Bool} {held : Bool}

theorem open_bools {t e : TypeId} {fuel : Nat} {a : Option Addr} {len cap : Nat} {x : DataW H × List MemPlace} (ht : P.underlying t = some (.slice e)) (he : P.underlying e = some .bool) (ce : P.cellsOf e = 1)
    (h : DataW.trod enc P w base spare held fuel t [.slice a len cap] = some x) : ∃ zs, RdV Value.bool false (fun i => i < w.heap.size) w (.slice a len cap) zs := by
  rcases Deep.open_slice1 ht ce h with ⟨hcs, _⟩ | ⟨a', len', cap', m, n, V, D, Pl, hcs, _, hl, hm, hmm, _, hx⟩
  · simp at hcs
    obtain ⟨rfl, rfl, rfl⟩ := hcs
    exact ⟨[], RdV.nil _ _ _ _ _ _ (Nat.zero_le _)⟩
  · simp at hcs
    obtain ⟨rfl, rfl, rfl⟩ := hcs
    have hlm : len ≤ m := by rw [hmm]; split <;> omega
    obtain ⟨f, hf⟩ := Deep.choose_lt (α := Bool) (n := len) (p := fun i z => V i = .bool z) (fun i hi => by
      obtain ⟨z, e0, _⟩ := DataW.trod_bool he (hx i (by omega)).2
      simp at e0
      exact ⟨z, e0⟩)
    have hlen : ((List.range len).map f).length = len := by simp
    refine ⟨(List.range len).map f, some a', cap, by rw [hlen], by omega, hm, fun i hi => ?_⟩
    rw [hlen] at hi
    obtain ⟨b, off, spot⟩ := a'
    have hspot : spot = none := by simpa [Addr.add] using World.cell?_spot (hx 0 (by omega)).1
    subst hspot
    have hc := (hx i (by omega)).1
    rw [Addr.add_lit] at hc
    have e1 : ((List.range len).map f).getD i false = f i := by simp [List.getD, hi]
    exact ⟨b, off, rfl, World.block_lt_of_cell? _ _ hc, by rw [hc, hf i hi, e1]⟩
end
end Go.Proofs.Ytoobohbghobfhaa
