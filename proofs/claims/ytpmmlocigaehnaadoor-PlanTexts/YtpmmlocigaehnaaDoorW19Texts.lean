/-
  The walk of the law of texts. Conditions: each theorem's own.
-/
import Derived.Test.YtpmmlocigaehnaaDoorPlnL
namespace Go.Proofs.YtpmmlocigaehnaaDoor
open Go.RowKit
set_option linter.unusedVariables false
set_option linter.unusedSimpArgs false

set_option maxHeartbeats 4000000 in
theorem planTexts_walk (o p k : Int) (W : World) (hT : Tab W) (wo : (Lit.int .i64 o).wf = true) (wp : (Lit.int .i64 p).wf = true) (wk : (Lit.int .i64 k).wf = true) :
    Calls Tryd.prog 6 #[.int .i64 o, .int .i64 p, .int .i64 k] W fun e w' => e = .returned (.bool true) ∧ Grow W w' := by
  have ka := fun u : World => around_any o 5 u wo (by omega) (by omega)
  have t1 := fun (x : Int) (u : World) (g : Grow W u) => text_any ⟨x, p, k⟩ u wp wk (hT.grow g)
  have t2 := fun (x : Int) (u : World) (g : Grow W u) => rtext_any ⟨x, p, k⟩ u wp wk
  have HL := hid (fun (u : World) (g : Grow W u) => lives_any u (hT.grow g))
  simp only at t1 t2
  generalize around o 5 = s at ka
  have H1 := hid t1
  have H2 := hid t2
  clear hT wo wp wk t1 t2
  go_enter Tryd.func6, Tryd.ntmps6
  go_wp2_with fail
  refine (ka W).mono ?_
  rintro e w1 ⟨rfl, rfl⟩
  clear ka
  go_wp2_with fail
  refine (H1.out o _ (Grow.refl _)).mono ?_
  rintro e w1 ⟨rfl, g1⟩
  have HG1 := hid g1
  clear g1
  generalize hy1 : tx (txtL ⟨o, p, k⟩) = T
  have HY1 := hid hy1
  clear hy1
  go_wp2_with fail
  refine (H2.out o _ HG1.out).mono ?_
  rintro e w2 ⟨rfl, g2⟩
  have HG2 := hid (HG1.out.trans g2)
  clear g2 HG1
  rw [HY1.out]
  go_wp2_with fail
  refine (H1.out s _ HG2.out).mono ?_
  rintro e w3 ⟨rfl, g3⟩
  have HG3 := hid (HG2.out.trans g3)
  clear g3 HG2
  generalize hy2 : tx (txtL ⟨s, p, k⟩) = T2
  have HY2 := hid hy2
  clear hy2
  go_wp2_with fail
  refine (H2.out s _ HG3.out).mono ?_
  rintro e w4 ⟨rfl, g4⟩
  have HG4 := hid (HG3.out.trans g4)
  clear g4 HG3
  rw [HY2.out]
  go_wp2_with fail
  refine (HL.out _ HG4.out).mono ?_
  rintro e w5 ⟨rfl, g5⟩
  have HG5 := hid (HG4.out.trans g5)
  clear g5 HG4
  go_wp2
  go_ret
  exact ⟨rfl, HG5.out⟩
end Go.Proofs.YtpmmlocigaehnaaDoor
