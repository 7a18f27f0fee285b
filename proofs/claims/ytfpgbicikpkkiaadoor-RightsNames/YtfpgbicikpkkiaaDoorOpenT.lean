/-
  Opener: what a slice of texts reads as. Conditions: the theorem's own.
-/
import Derived.Test.YtfpgbicikpkkiaaDoorLibV
import Derived.ProofKit
import Derived.OpenShut
import Derived.SliceStrings
namespace Go.Proofs.YtfpgbicikpkkiaaDoor
open Go.RowKit Go.ChangeShapes Go.WideShapes
set_option linter.unusedVariables false

section
variable {H : Type} {enc : TypeId × Value → H} {P : Program} {w : World} {base : Nat} {spare : Nat → Bool} {held : Bool}

theorem open_texts {t e : TypeId} {fuel : Nat} {a : Option Addr} {len cap : Nat} {x : DataW H × List MemPlace} (ht : P.underlying t = some (.slice e)) (he : P.underlying e = some .string) (ce : P.cellsOf e = 1)
    (h : DataW.trod enc P w base spare held fuel t [.slice a len cap] = some x) : ∃ zs, RdV Value.string ⟨#[]⟩ (fun i => i < w.heap.size) w (.slice a len cap) zs ∧ ∀ z ∈ zs, z.size ≤ maxLen := by
  rcases open_strings ht he ce h with ⟨hcs, _⟩ | ⟨a', len', cap', ss, hcs, _, hl, hm, hss, _, hx, hz⟩
  · simp at hcs
    obtain ⟨rfl, rfl, rfl⟩ := hcs
    exact ⟨[], RdV.nil _ _ _ _ _ _ (Nat.zero_le _), fun c hc => by cases hc⟩
  · simp at hcs
    obtain ⟨rfl, rfl, rfl⟩ := hcs
    have hlm : len ≤ ss.length := by rw [hss]; split <;> omega
    have hlen : (ss.take len).length = len := by rw [List.length_take]; omega
    refine ⟨ss.take len, ⟨some a', cap, by rw [hlen], by omega, hm, fun i hi => ?_⟩, fun z hzm => hz z (List.mem_of_mem_take hzm)⟩
    rw [hlen] at hi
    obtain ⟨b, off, spot⟩ := a'
    have hspot : spot = none := by simpa [Addr.add] using World.cell?_spot (hx 0 (by omega))
    subst hspot
    have hc := hx i (by omega)
    rw [Addr.add_lit] at hc
    refine ⟨b, off, rfl, World.block_lt_of_cell? _ _ hc, ?_⟩
    rw [hc]
    simp [List.getD, hi]
    rfl
end
end Go.Proofs.YtfpgbicikpkkiaaDoor
