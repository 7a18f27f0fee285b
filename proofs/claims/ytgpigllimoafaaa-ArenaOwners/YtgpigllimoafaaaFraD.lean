/-
  The walks of the document's Pin, Unpin, Load, Get, Put of a frame. Conditions: each theorem's own.
-/
import Derived.Test.YtgpigllimoafaaaFraL
import Derived.Test.YtgpigllimoafaaaCelA
import Derived.Laws.IdiomStrings
import Derived.Deep.CutRange
namespace Go.Proofs.Ytgpigllimoafaaa
open Go.RowKit
set_option linter.unusedVariables false
set_option linter.unusedSimpArgs false

set_option maxRecDepth 8000 in
/-- a text's bytes, in new memory -/
theorem run_bytes (w : World) (bs : List Int) (ho : Oct bs) (hl : bs.length ≤ 1000000) :
    ∃ v' w', (convert 9 42 (.string (strOfNums bs))).run Try.prog w = .ok v' w' ∧ RdV (Value.int .u8) 0 (fun i => i = w.heap.size) w' v' bs ∧ Grow w w' := by
  have hrun := run_bytes_of_string (P := Try.prog) w 9 42 5 (strOfNums bs) Try.underlying9 Try.underlying42 Try.underlying5
  have hge := grownCap_ge w (strOfNums bs).size 0 5
  have hcm := grownCap_le_maxLen w (strOfNums bs).size 0 5 (by rw [strOfNums_size]; simp only [maxLen]; omega)
  generalize grownCap w (strOfNums bs).size 0 5 = C at hrun hge hcm
  refine ⟨_, _, hrun, ⟨some ⟨w.heap.size, 0, none⟩, C, by rw [strOfNums_size], by rw [strOfNums_size] at hge; exact hge, hcm, fun i hi => ⟨w.heap.size, 0, rfl, rfl, ?_⟩⟩, ((Grow.refl w).drew).alloc _⟩
  rw [Nat.zero_add]
  refine (World.cell?_alloc_mark w.drew _ _ _ _).trans ?_
  have hx := ho.getD i
  have hs : (strOfNums bs).data.size = bs.length := by simp [strOfNums]
  unfold bytesRow
  rw [Array.getElem?_append_left (by rw [Array.size_map, hs]; exact hi), Array.getElem?_map]
  have e : (strOfNums bs).data[i]? = some (UInt8.ofNat (bs.getD i 0).toNat) := by
    rw [← Array.getElem?_toList, strOfNums_data, List.getElem?_map, List.getElem?_eq_getElem hi]
    simp [List.getD, List.getElem?_eq_getElem hi]
  rw [e]
  simp only [Option.map_some, UInt8.toNat_ofNat']
  congr 2
  omega

section
variable (u d r : Bool) (p q : Int) (s : ByteArray) (w : World)

end

section
variable (u d r : Bool) (p q : Int) (w : World)

end
end Go.Proofs.Ytgpigllimoafaaa
