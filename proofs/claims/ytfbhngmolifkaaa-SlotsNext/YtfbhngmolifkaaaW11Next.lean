/-
  The walk of SlotsNext. Conditions: the theorem's own.
-/
import Derived.Test.YtfbhngmolifkaaaSloDoc
namespace Go.Proofs.Ytfbhngmolifkaaa
open Go.RowKit
set_option linter.unusedVariables false
set_option linter.unusedSimpArgs false

set_option maxRecDepth 16000 in
set_option maxHeartbeats 4000000 in
theorem slotsNext_walk (n t : Int) (w : World) (hn : (Lit.int .i64 n).wf = true) (ht : (Lit.int .i64 t).wf = true) :
    Calls Try.prog 4 #[.int .i64 n, .int .i64 t] w fun e w' => e = .returned (.bool true) ∧ Grow w w' := by
  have har := around_any n 16 w hn (by omega) (by omega)
  have hab := around_bd n 16 (by omega)
  generalize around n 16 = r at har hab
  obtain ⟨k, hkr⟩ : ∃ k, k = 1 + r := ⟨_, rfl⟩
  have hw1 : IntKind.i64.wrap (1 + r) = k := by rw [IntKind.wrap_i64]; omega
  have h1 : 1 ≤ k := by omega
  have h2 : k ≤ 16 := by omega
  clear hkr hab
  have ha_a := fun u : World => around_any t 1099511627777 u ht (by omega) (by omega)
  obtain ⟨a0, a1⟩ := around_bd t 1099511627777 (by omega)
  generalize around t 1099511627777 = a at ha_a a0 a1
  go_enter Try.func4, Try.ntmps4
  go_wp2_with fail
  refine har.mono ?_
  rintro e w1 ⟨rfl, rfl⟩
  clear har
  go_wp2_with fail
  refine (new_yes k w h1 h2).mono ?_
  rintro e W1 ⟨b, rfl, s1, g1⟩
  have HS : Hid (SAt W1 b k) := s1
  have HG : Hid (Grow w W1) := g1
  clear s1 g1
  go_wp2_with fail
  refine (ha_a W1).mono ?_
  rintro e w1 ⟨rfl, rfl⟩
  clear ha_a
  obtain ⟨K, hK⟩ : ∃ K : Nat, (K : Int) = k := ⟨k.toNat, by omega⟩
  have HK : Hid ((K : Int) = k) := hK
  clear hK
  go_wp2
  go_loopg [9] K (fun g i wr => ∃ j : Nat, g = K - j ∧ j ≤ K ∧ i = .int .i64 j ∧ Hid (Grow W1 wr))
  case atStart => exact ⟨0, rfl, Nat.zero_le _, rfl, Grow.refl _⟩
  case round =>
    obtain ⟨j, hk, hj, rfl, HW⟩ := hrel
    have HJ : Hid (gk = K - j ∧ j ≤ K) := ⟨hk, hj⟩
    by_cases hlt : j < K
    · have hlt' : (j : Int) < k := by have := HK.out; omega
      have HL : Hid (j < K) := hlt
      have hj0 : (0 : Int) ≤ (j : Int) := by omega
      have hnx := next_any wr b k (HS.out.grow HW.out) a j h1 h2 a0 (by omega) hj0 hlt'
      have hrn := fun u : World => rnext_any u k a j h1 h2 a0 (by omega) hj0 hlt'
      obtain ⟨hx0, hx1⟩ := nxt_bd (t := a) (i := j) h1
      have hxo := nxt_own h1 h2 a j hj0 hlt'
      have hjw : IntKind.i64.wrap ((j : Int) + 1) = ((j + 1 : Nat) : Int) := by rw [IntKind.wrap_i64]; omega
      have haw : IntKind.i64.wrap (a + k) = a + k := by rw [IntKind.wrap_i64]; omega
      generalize nxt k a j = x at hnx hrn hx0 hx1 hxo
      have how := fun (u : World) (h : SAt u b k) => owner_any u b k h x h1 h2 (by omega)
      rw [hxo] at how
      have hx0' : ¬ x < a := by omega
      have hx1' : ¬ a + k ≤ x := by omega
      clear hlt hk hj hxo hx0 hx1
      go_wp2_with fail
      refine hnx.mono ?_
      rintro e w2 ⟨rfl, g2⟩
      have HG2 : Hid (Grow W1 w2) := HW.out.trans g2
      clear g2 hnx
      go_wp2_with fail
      refine (hrn w2).mono ?_
      rintro e w3 ⟨rfl, rfl⟩
      clear hrn
      go_wp2_with fail
      refine (how w2 (HS.out.grow HG2.out)).mono ?_
      rintro e w3 ⟨rfl, rfl⟩
      clear how
      go_wp2
      go_roundg (K - (j + 1))
      case measure => have := HJ.out; have := HL.out; omega
      case rel => exact ⟨j + 1, rfl, HL.out, rfl, HG2⟩
    · have hlt' : ¬ (j : Int) < k := by have := HK.out; omega
      have HG2 : Hid (Grow w wr) := HG.out.trans HW.out
      clear hlt hk hj
      go_wp2_with fail
      refine (lives_any wr).mono ?_
      rintro e w5 ⟨rfl, g5⟩
      go_wp2
      go_ret
      exact ⟨rfl, HG2.out.trans g5⟩
end Go.Proofs.Ytfbhngmolifkaaa
