/-
  How long a slice of one-byte elements is that came in: the reach. Conditions: the theorem's own.
-/
import Derived.Test.YtpkoiogdkaklfaaOpenV
import Derived.SizedLaws
import Derived.Deep.Slices
namespace Go.Proofs.Ytpkoiogdkaklfaa
open Go.RowKit Go.ChangeShapes Go.WideShapes
set_option linter.unusedVariables false

theorem sized_len {H : Type} {enc : TypeId × Value → H} {P : Program} {w : World} {base : Nat} {spare : Nat → Bool} {held : Bool} {t e : TypeId} {a : Option Addr} {len cap : Nat} {d : DataW H} {p : List MemPlace} (ht : P.underlying t = some (.slice e)) (hb : P.bytesOf e = 1)
    (h : DataW.Trod enc P w base spare held t (.slice a len cap) d p) (hs : ∀ elems sp, d = .slice elems sp → (elems.length + sp.length) * P.bytesOf e ≤ reachBytes) : len ≤ reachBytes := by
  obtain ⟨fuel, hf⟩ := h
  have hf' : DataW.trod enc P w base spare held fuel t [.slice a len cap] = some (d, p) := hf
  rcases Deep.open_slice ht hf' with ⟨hcs, _⟩ | ⟨a', len', cap', m, n, D, Pl, hcs, _, hl, hm, hmm, hx, _⟩
  · simp at hcs
    rw [hcs.2.1]; exact Nat.zero_le _
  · simp at hcs
    obtain ⟨rfl, rfl, rfl⟩ := hcs
    injection hx with hd _
    have := hs _ _ hd
    rw [hb, Nat.mul_one, List.length_map, List.length_range] at this
    omega
end Go.Proofs.Ytpkoiogdkaklfaa
