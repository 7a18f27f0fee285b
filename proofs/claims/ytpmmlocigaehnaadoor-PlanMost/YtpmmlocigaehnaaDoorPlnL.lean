/-
  The walk of the document's example. Conditions: each theorem's own.
-/
import Derived.Test.YtpmmlocigaehnaaDoorPlnX
namespace Go.Proofs.YtpmmlocigaehnaaDoor
open Go.RowKit
set_option linter.unusedVariables false
set_option linter.unusedSimpArgs false

theorem it0 : Lib.itoa 0 = [48] := by rw [itoa_small (by omega) (by omega), if_neg (by omega)]; rfl
theorem it1 : Lib.itoa 1 = [49] := by rw [itoa_small (by omega) (by omega), if_neg (by omega)]; rfl
theorem it3 : Lib.itoa 3 = [51] := by rw [itoa_small (by omega) (by omega), if_neg (by omega)]; rfl
theorem ex0 : txtL ⟨2, 1, 0⟩ = [115, 116, 111, 114, 101, 32, 49, 32, 48] := by simp [txtL, placeL, it0, it1]
theorem ex1 : txtL ⟨2, 1, 1⟩ = [115, 116, 111, 114, 101, 32, 49, 32, 49] := by simp [txtL, placeL, it1]
theorem ex2 : txtL ⟨1, 3, 0⟩ = [108, 111, 97, 100, 32, 51, 32, 48] := by simp [txtL, placeL, it0, it3]
theorem ex3 : txtL ⟨1, 3, 1⟩ = [108, 111, 97, 100, 32, 51, 32, 49] := by simp [txtL, placeL, it1, it3]

set_option maxHeartbeats 4000000 in
theorem lives_any (w : World) (h : Tab w) : Calls Tryd.prog 16 #[] w fun e w' => e = .returned (.bool true) ∧ Grow w w' := by
  have kf := fetch_any 3 true 1 w
  have t0 := fun (u : World) (g : Grow w u) => text_any ⟨2, 1, 0⟩ u (by decide) (by decide) (h.grow g)
  have t1 := fun (u : World) (g : Grow w u) => text_any ⟨2, 1, 1⟩ u (by decide) (by decide) (h.grow g)
  have t2 := fun (u : World) (g : Grow w u) => text_any ⟨1, 3, 0⟩ u (by decide) (by decide) (h.grow g)
  have t3 := fun (u : World) (g : Grow w u) => text_any ⟨1, 3, 1⟩ u (by decide) (by decide) (h.grow g)
  rw [ex0] at t0
  rw [ex1] at t1
  rw [ex2] at t2
  rw [ex3] at t3
  have H0 := hid t0
  have H1 := hid t1
  have H2 := hid t2
  have H3 := hid t3
  clear h t0 t1 t2 t3
  have z0 : ((tx [115, 116, 111, 114, 101, 32, 49, 32, 48]).toList == [115, 116, 111, 114, 101, 32, 49, 32, 48]) = true := by decide +kernel
  have z1 : ((tx [115, 116, 111, 114, 101, 32, 49, 32, 49]).toList == [115, 116, 111, 114, 101, 32, 49, 32, 49]) = true := by decide +kernel
  have z2 : ((tx [108, 111, 97, 100, 32, 51, 32, 48]).toList == [108, 111, 97, 100, 32, 51, 32, 48]) = true := by decide +kernel
  have z3 : ((tx [108, 111, 97, 100, 32, 51, 32, 49]).toList == [108, 111, 97, 100, 32, 51, 32, 49]) = true := by decide +kernel
  go_enter Tryd.func16, Tryd.ntmps16
  go_wp2_with fail
  refine kf.mono ?_
  rintro e w2 ⟨v2, rfl, h2, g2⟩
  have HG := hid g2
  have hr := h2.rd
  obtain ⟨a, c, e4⟩ := RdS.shape hr
  have hlen : (feL 3 true 1).length = 4 := rfl
  rw [hlen] at e4
  subst e4
  obtain ⟨b0, o0, e0, hc0⟩ := rdSp_at hr (i := 0) (by rw [hlen]; omega) ⟨2, 1, 0⟩ rfl
  subst e0
  obtain ⟨b1, o1, e1, hc1⟩ := rdSp_at hr (i := 1) (by rw [hlen]; omega) ⟨2, 1, 1⟩ rfl
  injection e1 with e1
  injection e1 with eb eo
  subst eb eo
  obtain ⟨b1, o1, e1, hc2⟩ := rdSp_at hr (i := 2) (by rw [hlen]; omega) ⟨1, 3, 0⟩ rfl
  injection e1 with e1
  injection e1 with eb eo
  subst eb eo
  obtain ⟨b1, o1, e1, hc3⟩ := rdSp_at hr (i := 3) (by rw [hlen]; omega) ⟨1, 3, 1⟩ rfl
  injection e1 with e1
  injection e1 with eb eo
  subst eb eo
  simp only [Nat.zero_mul, Nat.one_mul, Nat.add_zero, Nat.reduceMul] at hc0 hc1 hc2 hc3
  have HC := hid (And.intro hc0 (And.intro hc1 (And.intro hc2 hc3)))
  clear kf h2 g2 hr hlen hc0 hc1 hc2 hc3
  obtain ⟨c0, c1, c2⟩ := HC.out.1 w2 (Grow.refl _)
  go_wp2_with fail
  refine (H0.out _ HG.out).mono ?_
  rintro e w3 ⟨rfl, g3⟩
  clear c0 c1 c2
  have HG3 := hid g3
  clear g3
  obtain ⟨c0, c1, c2⟩ := HC.out.2.1 w3 HG3.out
  go_wp2_with fail
  refine (H1.out _ (HG.out.trans HG3.out)).mono ?_
  rintro e w4 ⟨rfl, g4⟩
  clear c0 c1 c2
  have HG4 := hid (HG3.out.trans g4)
  clear g4 HG3
  obtain ⟨c0, c1, c2⟩ := HC.out.2.2.1 w4 HG4.out
  go_wp2_with fail
  refine (H2.out _ (HG.out.trans HG4.out)).mono ?_
  rintro e w5 ⟨rfl, g5⟩
  clear c0 c1 c2
  have HG5 := hid (HG4.out.trans g5)
  clear g5 HG4
  obtain ⟨c0, c1, c2⟩ := HC.out.2.2.2 w5 HG5.out
  go_wp2_with fail
  refine (H3.out _ (HG.out.trans HG5.out)).mono ?_
  rintro e w6 ⟨rfl, g6⟩
  clear c0 c1 c2
  have HG6 := hid (HG.out.trans (HG5.out.trans g6))
  clear g6 HG5
  go_wp2
  go_ret
  exact ⟨rfl, HG6.out⟩
end Go.Proofs.YtpmmlocigaehnaaDoor
