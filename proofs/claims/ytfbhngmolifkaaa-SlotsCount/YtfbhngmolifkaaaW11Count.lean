/-
  The walk of SlotsCount. Conditions: the theorem's own.
-/
import Derived.Test.YtfbhngmolifkaaaSloDoc
namespace Go.Proofs.Ytfbhngmolifkaaa
open Go.RowKit
set_option linter.unusedVariables false
set_option linter.unusedSimpArgs false

set_option maxRecDepth 16000 in
set_option maxHeartbeats 4000000 in
theorem slotsCount_walk (n from_ to : Int) (w : World) (hn : (Lit.int .i64 n).wf = true) (hfrom_ : (Lit.int .i64 from_).wf = true) (hto : (Lit.int .i64 to).wf = true) :
    Calls Try.prog 5 #[.int .i64 n, .int .i64 from_, .int .i64 to] w fun e w' => e = .returned (.bool true) ∧ Grow w w' := by
  have har := around_any n 16 w hn (by omega) (by omega)
  have hab := around_bd n 16 (by omega)
  generalize around n 16 = r at har hab
  obtain ⟨k, hkr⟩ : ∃ k, k = 1 + r := ⟨_, rfl⟩
  have hw1 : IntKind.i64.wrap (1 + r) = k := by rw [IntKind.wrap_i64]; omega
  have h1 : 1 ≤ k := by omega
  have h2 : k ≤ 16 := by omega
  clear hkr hab
  have ha_a := fun u : World => around_any from_ 201 u hfrom_ (by omega) (by omega)
  obtain ⟨a0, a1⟩ := around_bd from_ 201 (by omega)
  generalize around from_ 201 = a at ha_a a0 a1
  have ha_c := fun u : World => around_any to 201 u hto (by omega) (by omega)
  obtain ⟨c0, c1⟩ := around_bd to 201 (by omega)
  generalize around to 201 = c at ha_c c0 c1
  go_enter Try.func5, Try.ntmps5
  go_wp2_with fail
  refine har.mono ?_
  rintro e w1 ⟨rfl, rfl⟩
  clear har
  go_wp2_with fail
  refine (new_yes k w h1 h2).mono ?_
  rintro e W1 ⟨b, rfl, s1, g1⟩
  have HS : Hid (SAt W1 b k) := s1
  have HG : Hid (Grow w W1) := g1
  clear s1 g1
  go_wp2_with fail
  refine (ha_a W1).mono ?_
  rintro e w1 ⟨rfl, rfl⟩
  go_wp2_with fail
  refine (ha_c W1).mono ?_
  rintro e w1 ⟨rfl, rfl⟩
  clear ha_a ha_c
  obtain ⟨K, hK⟩ : ∃ K : Nat, (K : Int) = k := ⟨k.toNat, by omega⟩
  have HK : Hid ((K : Int) = k) := hK
  clear hK
  go_wp2
  go_loopg [12, 13] K (fun g s i wr => ∃ j : Nat, g = K - j ∧ j ≤ K ∧ s = .int .i64 (sumC k a c j) ∧ i = .int .i64 j ∧ Hid (Grow W1 wr))
  case atStart => exact ⟨0, rfl, Nat.zero_le _, rfl, rfl, Grow.refl _⟩
  case round =>
    obtain ⟨j, hk, hj, rfl, rfl, HW⟩ := hrel
    have HJ : Hid (gk = K - j ∧ j ≤ K) := ⟨hk, hj⟩
    by_cases hlt : j < K
    · have hlt' : (j : Int) < k := by have := HK.out; omega
      have HL : Hid (j < K) := hlt
      have hj0 : (0 : Int) ≤ (j : Int) := by omega
      have hcn := count_any wr b k (HS.out.grow HW.out) a c j h1 h2 a0 (by omega) c0 (by omega) hj0 hlt'
      have hrc := fun u : World => rcount_any u k a c j h1 h2 a0 (by omega) c0 (by omega) hj0 hlt'
      have e1 := cnt_tic (a := a) (b := c) h1 h2 hj0 hlt'
      rw [← e1] at hrc
      have HE : Hid (sumC k a c (j + 1) = sumC k a c j + cnt k a c j) := rfl
      have hsb := sumC_bd (a := a) (b := c) h1 h2 a0 (by omega) j (by omega)
      have hcb := sumC_bd (a := a) (b := c) h1 h2 a0 (by omega) (j + 1) (by omega)
      rw [HE.out] at hcb
      have hsw : IntKind.i64.wrap (sumC k a c j + cnt k a c j) = sumC k a c j + cnt k a c j := by rw [IntKind.wrap_i64]; omega
      have hjw : IntKind.i64.wrap ((j : Int) + 1) = ((j + 1 : Nat) : Int) := by rw [IntKind.wrap_i64]; omega
      generalize cnt k a c j = x at *
      generalize sumC k a c j = s at *
      clear hlt hk hj e1 hsb hcb
      go_wp2_with fail
      refine hcn.mono ?_
      rintro e w2 ⟨rfl, g2⟩
      have HG2 : Hid (Grow W1 w2) := HW.out.trans g2
      clear g2 hcn
      go_wp2_with fail
      refine (hrc w2).mono ?_
      rintro e w3 ⟨rfl, rfl⟩
      clear hrc
      go_wp2
      go_roundg (K - (j + 1))
      case measure => have := HJ.out; have := HL.out; omega
      case rel => exact ⟨j + 1, rfl, HL.out, by rw [HE.out], rfl, HG2⟩
    · have hlt' : ¬ (j : Int) < k := by have := HK.out; omega
      obtain rfl : K = j := by omega
      have HG2 : Hid (Grow w wr) := HG.out.trans HW.out
      have hsum := sumC_all (a := a) (b := c) h1 h2
      rw [show k.toNat = K from by have := HK.out; omega] at hsum
      obtain ⟨x, hxe⟩ : ∃ x, x = c - a := ⟨_, rfl⟩
      have hcw : IntKind.i64.wrap (c - a) = x := by rw [IntKind.wrap_i64]; omega
      rw [← hxe] at hsum
      clear hlt hk hj
      by_cases hac : a ≤ c
      · rw [if_pos hac] at hsum
        rw [hsum]
        have hx : 0 ≤ x := by omega
        clear hsum hxe
        go_wp2_with fail
        refine (lives_any wr).mono ?_
        rintro e w5 ⟨rfl, g5⟩
        go_wp2
        go_ret
        exact ⟨rfl, HG2.out.trans g5⟩
      · rw [if_neg hac] at hsum
        rw [hsum]
        have hx : x ≤ 0 := by omega
        have hx' : ¬ 0 ≤ x := by omega
        clear hsum hxe
        go_wp2_with fail
        refine (lives_any wr).mono ?_
        rintro e w5 ⟨rfl, g5⟩
        go_wp2
        go_ret
        exact ⟨rfl, HG2.out.trans g5⟩
end Go.Proofs.Ytfbhngmolifkaaa
