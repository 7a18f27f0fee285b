/-
  The walk of ReqNames. Conditions: the theorem's own.
-/
import Derived.Test.YtdafamocnjfmjaaDoorReqL
namespace Go.Proofs.YtdafamocnjfmjaaDoor
open Go.RowKit
set_option linter.unusedVariables false
set_option linter.unusedSimpArgs false

set_option maxRecDepth 8000 in
set_option maxHeartbeats 4000000 in
theorem reqNames_walk (n : Int) (w : World) (hw : WT w) (hn : (Lit.int .i64 n).wf = true) :
    Calls Tryd.prog 4 #[.int .i64 n] w fun e w' => e = .returned (.bool true) ∧ Grow w w' := by
  have har := around_any n 11 w hn (by omega) (by omega)
  generalize around n 11 = k at har
  have HNM : Hid (∀ m u, WT u → Calls Tryd.prog 15 #[.int .i64 m] u fun e w' => e = .returned (.string (nmI m)) ∧ u = w') := fun m u hu => name_any m u hu
  have HM1 : Hid (∀ u, WT u → Calls Tryd.prog 15 #[.int .i64 (-1)] u fun e w' => e = .returned (.string ⟨#[]⟩) ∧ u = w') := fun u hu => name_any (-1) u hu
  have HRN : Hid (∀ m u, Calls Tryd.prog 16 #[.int .i64 m] u fun e w' => e = .returned (.string (nmI m)) ∧ Grow u w') := fun m u => rname_any m u
  have HL : Hid (∀ u, WT u → Calls Tryd.prog 14 #[] u fun e w' => e = .returned (.bool true) ∧ Grow u w') := fun u hu => lives_any u hu
  have HW : Hid (WT w) := hw
  have hs : ((nmI n).toList == (nmI n).toList) = true := by simp
  have ht : ((nmI k).toList == (nmI k).toList) = true := by simp
  have hE := str_empty
  clear hw hn
  generalize hx : nmI n = x at hs
  generalize hy : nmI k = y at ht
  have h1 := fun u hu => HNM.out n u hu
  have h2 := fun u => HRN.out n u
  have h3 := fun u hu => HNM.out k u hu
  have h4 := fun u => HRN.out k u
  rw [hx] at h1 h2
  rw [hy] at h3 h4
  have H1 := hid h1
  have H2 := hid h2
  have H3 := hid h3
  have H4 := hid h4
  clear hx hy h1 h2 h3 h4 HNM HRN
  go_enter Tryd.func4, Tryd.ntmps4
  go_wp2_with fail
  refine har.mono ?_
  rintro e w1 ⟨rfl, rfl⟩
  clear har
  go_wp2_with fail
  refine (H1.out _ HW.out).mono ?_
  rintro e w1 ⟨rfl, rfl⟩
  go_wp2_with fail
  refine (H2.out _).mono ?_
  rintro e w1 ⟨rfl, g1⟩
  go_wp2_with fail
  refine (H3.out _ (HW.out.grow g1)).mono ?_
  rintro e w2 ⟨rfl, rfl⟩
  go_wp2_with fail
  refine (H4.out _).mono ?_
  rintro e w2 ⟨rfl, g2⟩
  have G2 : Hid (Grow w w2) := g1.trans g2
  clear g1 g2
  go_wp2_with fail
  refine (HM1.out _ (HW.out.grow G2.out)).mono ?_
  rintro e w3 ⟨rfl, rfl⟩
  go_wp2_with fail
  refine (HL.out _ (HW.out.grow G2.out)).mono ?_
  rintro e w3 ⟨rfl, g3⟩
  go_wp2
  go_ret
  exact ⟨rfl, G2.out.trans g3⟩
end Go.Proofs.YtdafamocnjfmjaaDoor
