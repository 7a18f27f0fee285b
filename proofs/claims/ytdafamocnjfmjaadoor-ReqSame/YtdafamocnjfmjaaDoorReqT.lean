/-
  What the listed table gives: the nine names lie in their variable; and the start that meets it. Conditions: each theorem's own.
-/
import Derived.Test.YtdafamocnjfmjaaDoorReqNm
import Derived.LaidMore
import Derived.OpenShut
import Derived.ProofKit
import Derived.Stop.Joined
namespace Go.Proofs.YtdafamocnjfmjaaDoor
open Go.ChangeShapes Go.WideShapes Go.ChangeAt Go.RowKit
set_option linter.unusedVariables false

def laidW : List (String × DataW Unit) := [("allotment/req.words", Rows.laid_allotment_req_words)]
theorem gWords : Tryd.prog.globalNamed "allotment/req.words" = some 0 := by kernel_rfl
theorem tWords : (Tryd.prog.globals[0]?).map (·.type) = some 58 := by kernel_rfl

/-- The door's own heap meets the condition. -/
theorem door_met (os : Os) (args : Array Value) : laidMetH Tryd.prog laidW ((World.doorLaid Tryd.prog 14 os).forCall (fun _ _ => 0) ⟨#[], args, []⟩).memory :=
  laidMetH_of_parts3 (fuel := 8) (laidMet_of_run' 8 (by kernel_rfl) (by kernel_rfl)) (by kernel_rfl) (by kernel_rfl)

/-- What the condition gives the walks. -/
theorem of_laid {W : World} (h : laidMetH Tryd.prog laidW W) : WT W := by
  rw [MakeChecks.laidMetH_plain _ _ _ (by kernel_rfl)] at h
  obtain ⟨ps, ⟨g0, t0, cs0, f0, p0, q0, hg0, ht0, hv0, hd0, _, _⟩, _, _⟩ := h
  obtain rfl := Option.some.inj (gWords.symm.trans hg0)
  obtain rfl := Option.some.inj (tWords.symm.trans ht0)
  obtain ⟨xs, m1, rfl, hx1, hlen, hn, hel⟩ := DataW.trod_array Tryd.underlying58 hd0
  have c9 : Tryd.prog.cellsOf 9 = 1 := by kernel_rfl
  have hxs := congrArg Prod.fst hx1
  simp only [Rows.laid_allotment_req_words, DataW.agg.injEq] at hxs
  intro i hi
  have h1 := hel i hi
  obtain ⟨x, hx⟩ : ∃ x, xs[i]? = some x := ⟨_, List.getElem?_eq_getElem (by omega)⟩
  rw [hx, c9, Nat.mul_one] at h1
  obtain ⟨s, hs, rfl, _⟩ := DataW.trod_string Tryd.underlying9 h1
  have h2 : (xs.map (·.1))[i]? = some (.lit (.string s.data.toList)) := by rw [List.getElem?_map, hx]; rfl
  rw [← hxs] at h2
  have h3 := World.var?_cell hg0 hv0 i
  have h4 : cs0.toList[i]? = some (.string s) := by
    have := congrArg (·[0]?) hs
    simpa [List.getElem?_take, List.getElem?_drop] using this
  have e : s = nm i := by
    cases s with
    | mk d =>
      cases d with
      | mk l =>
        rcases (show i = 0 ∨ i = 1 ∨ i = 2 ∨ i = 3 ∨ i = 4 ∨ i = 5 ∨ i = 6 ∨ i = 7 ∨ i = 8 by omega) with rfl | rfl | rfl | rfl | rfl | rfl | rfl | rfl | rfl
        all_goals
          simp at h2
          subst h2
          rfl
  rw [h3, ← e, ← h4]
  simp
end Go.Proofs.YtdafamocnjfmjaaDoor
