/-
  The walk of SlotsEach. Conditions: the theorem's own.
-/
import Derived.Test.YtfbhngmolifkaaaSloDoc
namespace Go.Proofs.Ytfbhngmolifkaaa
open Go.RowKit
set_option linter.unusedVariables false
set_option linter.unusedSimpArgs false

set_option maxRecDepth 16000 in
set_option maxHeartbeats 4000000 in
theorem slotsEach_walk (n t k_ : Int) (w : World) (hn : (Lit.int .i64 n).wf = true) (ht : (Lit.int .i64 t).wf = true) (hk_ : (Lit.int .i64 k_).wf = true) :
    Calls Try.prog 7 #[.int .i64 n, .int .i64 t, .int .i64 k_] w fun e w' => e = .returned (.bool true) ∧ Grow w w' := by
  have har := around_any n 16 w hn (by omega) (by omega)
  have hab := around_bd n 16 (by omega)
  generalize around n 16 = r at har hab
  obtain ⟨k, hkr⟩ : ∃ k, k = 1 + r := ⟨_, rfl⟩
  have hw1 : IntKind.i64.wrap (1 + r) = k := by rw [IntKind.wrap_i64]; omega
  have h1 : 1 ≤ k := by omega
  have h2 : k ≤ 16 := by omega
  clear hkr hab
  have ha_a := fun u : World => around_any t 1001 u ht (by omega) (by omega)
  obtain ⟨a0, a1⟩ := around_bd t 1001 (by omega)
  generalize around t 1001 = a at ha_a a0 a1
  have ha_m := fun u : World => around_any k_ 21 u hk_ (by omega) (by omega)
  obtain ⟨m0, m1⟩ := around_bd k_ 21 (by omega)
  generalize around k_ 21 = m at ha_m m0 m1
  go_enter Try.func7, Try.ntmps7
  go_wp2_with fail
  refine har.mono ?_
  rintro e w1 ⟨rfl, rfl⟩
  clear har
  go_wp2_with fail
  refine (new_yes k w h1 h2).mono ?_
  rintro e W1 ⟨b, rfl, s1, g1⟩
  have HS : Hid (SAt W1 b k) := s1
  have HG : Hid (Grow w W1) := g1
  clear s1 g1
  go_wp2_with fail
  refine (ha_a W1).mono ?_
  rintro e w1 ⟨rfl, rfl⟩
  go_wp2_with fail
  refine (ha_m W1).mono ?_
  rintro e w1 ⟨rfl, rfl⟩
  clear ha_a ha_m
  obtain ⟨K, hK⟩ : ∃ K : Nat, (K : Int) = k := ⟨k.toNat, by omega⟩
  have HK : Hid ((K : Int) = k) := hK
  clear hK
  obtain ⟨y, hy⟩ : ∃ y, y = m * k := ⟨_, rfl⟩
  have hy0 : 0 ≤ y := by rw [hy]; exact Int.mul_nonneg m0 (by omega)
  have hy1 : y ≤ 21 * 16 := by rw [hy]; exact Int.mul_le_mul (by omega) h2 (by omega) (by omega)
  have hwt := fun (u : World) (h : SAt u b k) => wait_any u b k h m h1 h2 m0 (by omega)
  have hea := fun i : Int => cnt_each h1 h2 a i m
  rw [← hy] at hwt hea
  obtain ⟨o, ho⟩ : ∃ o, o = (a + k - 1) % k := ⟨_, rfl⟩
  obtain ⟨o0, o1⟩ := own_bd (t := a + k - 1) h1
  rw [← ho] at hea o0 o1
  have HEA : Hid (∀ i : Int, 0 ≤ i → i < k → 0 ≤ m → cnt k a (a + k) i = 1 ∧ cnt k a (a + y) i = m ∧ (0 < m → cnt k a (a + y - 1) i = m - if i = o then 1 else 0)) := hea
  have HO : Hid (0 ≤ o ∧ o < k) := ⟨o0, o1⟩
  have hw2 : IntKind.i64.wrap (a + k) = a + k := by rw [IntKind.wrap_i64]; omega
  have hw3 : IntKind.i64.wrap (a + y) = a + y := by rw [IntKind.wrap_i64]; omega
  have hw4 : IntKind.i64.wrap (a + y - 1) = a + y - 1 := by rw [IntKind.wrap_i64]; omega
  have hcu := fun (u : World) (h : SAt u b k) (z i : Int) => count_any u b k h a z i h1 h2 a0 (by omega)
  have hyk : 0 < m → 1 ≤ y := fun h => by rw [hy]; have := Int.mul_le_mul (show (1 : Int) ≤ m by omega) h1 (by omega) (by omega); omega
  have HYK : Hid (0 < m → 1 ≤ y) := hyk
  clear hy ho hea o0 o1 hyk
  go_wp2
  go_loopg [12, 13] K (fun g s i wr => ∃ j : Nat, g = K - j ∧ j ≤ K ∧ s = .bool (decide (0 < m ∧ o < (j : Int))) ∧ i = .int .i64 j ∧ Hid (Grow W1 wr))
  case atStart => exact ⟨0, rfl, Nat.zero_le _, by have := HO.out; rw [decide_eq_false (by omega)], rfl, Grow.refl _⟩
  case round =>
    obtain ⟨j, hk, hj, rfl, rfl, HW⟩ := hrel
    have HJ : Hid (gk = K - j ∧ j ≤ K) := ⟨hk, hj⟩
    by_cases hlt : j < K
    · have hlt' : (j : Int) < k := by have := HK.out; omega
      have HL : Hid (j < K) := hlt
      have hj0 : (0 : Int) ≤ (j : Int) := by omega
      obtain ⟨e1, e2, e3⟩ := HEA.out j hj0 hlt' m0
      have hc1 := hcu wr (HS.out.grow HW.out) (a + k) j (by omega) (by omega) hj0 hlt'
      have hc2 := fun (u : World) (h : SAt u b k) => hcu u h (a + y) j (by omega) (by omega) hj0 hlt'
      rw [e1] at hc1
      rw [e2] at hc2
      have hjw : IntKind.i64.wrap ((j : Int) + 1) = ((j + 1 : Nat) : Int) := by rw [IntKind.wrap_i64]; omega
      have hmm : ¬ m < m := by omega
      clear hlt hk hj e1 e2
      by_cases hm : 0 < m
      · have hc3 := fun (u : World) (h : SAt u b k) => hcu u h (a + y - 1) j (by have := HYK.out hm; omega) (by omega) hj0 hlt'
        rw [e3 hm] at hc3
        have hS : Hid (∀ q : Nat, decide (0 < m ∧ o < (q : Int)) = decide (o < (q : Int))) := fun q => by rw [decide_eq_decide]; exact ⟨fun h => h.2, fun h => ⟨hm, h⟩⟩
        rw [hS.out]
        clear e3 hcu
        by_cases hoj : o < (j : Int)
        · have HN : Hid (decide (o < ((j + 1 : Nat) : Int)) = true) := decide_eq_true (by omega)
          rw [decide_eq_true hoj]
          clear hc3
          go_wp2_with fail
          refine hc1.mono ?_
          rintro e w2 ⟨rfl, g2⟩
          have HG2 : Hid (Grow W1 w2) := HW.out.trans g2
          clear g2 hc1
          go_wp2_with fail
          refine (hwt w2 (HS.out.grow HG2.out)).mono ?_
          rintro e w3 ⟨rfl, rfl⟩
          go_wp2_with fail
          refine (hc2 w2 (HS.out.grow HG2.out)).mono ?_
          rintro e w3 ⟨rfl, g3⟩
          have HG3 : Hid (Grow W1 w3) := HG2.out.trans g3
          clear g3 hc2
          go_wp2
          go_roundg (K - (j + 1))
          case measure => have := HJ.out; have := HL.out; omega
          case rel => exact ⟨j + 1, rfl, HL.out, by rw [hS.out, HN.out], rfl, HG3⟩
        · rw [decide_eq_false hoj]
          by_cases hoe : (j : Int) = o
          · have HN : Hid (decide (o < ((j + 1 : Nat) : Int)) = true) := decide_eq_true (by omega)
            rw [if_pos hoe] at hc3
            have hml : m - 1 < m := by omega
            clear hoe
            go_wp2_with fail
            refine hc1.mono ?_
            rintro e w2 ⟨rfl, g2⟩
            have HG2 : Hid (Grow W1 w2) := HW.out.trans g2
            clear g2 hc1
            go_wp2_with fail
            refine (hwt w2 (HS.out.grow HG2.out)).mono ?_
            rintro e w3 ⟨rfl, rfl⟩
            go_wp2_with fail
            refine (hc2 w2 (HS.out.grow HG2.out)).mono ?_
            rintro e w3 ⟨rfl, g3⟩
            have HG3 : Hid (Grow W1 w3) := HG2.out.trans g3
            clear g3 hc2
            go_wp2_with fail
            refine (hwt w3 (HS.out.grow HG3.out)).mono ?_
            rintro e w4 ⟨rfl, rfl⟩
            go_wp2_with fail
            refine (hc3 w3 (HS.out.grow HG3.out)).mono ?_
            rintro e w4 ⟨rfl, g4⟩
            have HG4 : Hid (Grow W1 w4) := HG3.out.trans g4
            clear g4 hc3
            go_wp2
            go_roundg (K - (j + 1))
            case measure => have := HJ.out; have := HL.out; omega
            case rel => exact ⟨j + 1, rfl, HL.out, by rw [hS.out, HN.out], rfl, HG4⟩
          · have HN : Hid (decide (o < ((j + 1 : Nat) : Int)) = false) := decide_eq_false (by omega)
            rw [if_neg hoe, Int.sub_zero] at hc3
            clear hoe
            go_wp2_with fail
            refine hc1.mono ?_
            rintro e w2 ⟨rfl, g2⟩
            have HG2 : Hid (Grow W1 w2) := HW.out.trans g2
            clear g2 hc1
            go_wp2_with fail
            refine (hwt w2 (HS.out.grow HG2.out)).mono ?_
            rintro e w3 ⟨rfl, rfl⟩
            go_wp2_with fail
            refine (hc2 w2 (HS.out.grow HG2.out)).mono ?_
            rintro e w3 ⟨rfl, g3⟩
            have HG3 : Hid (Grow W1 w3) := HG2.out.trans g3
            clear g3 hc2
            go_wp2_with fail
            refine (hwt w3 (HS.out.grow HG3.out)).mono ?_
            rintro e w4 ⟨rfl, rfl⟩
            go_wp2_with fail
            refine (hc3 w3 (HS.out.grow HG3.out)).mono ?_
            rintro e w4 ⟨rfl, g4⟩
            have HG4 : Hid (Grow W1 w4) := HG3.out.trans g4
            clear g4 hc3
            go_wp2
            go_roundg (K - (j + 1))
            case measure => have := HJ.out; have := HL.out; omega
            case rel => exact ⟨j + 1, rfl, HL.out, by rw [hS.out, HN.out], rfl, HG4⟩
      · have hS : Hid (∀ q : Nat, decide (0 < m ∧ o < (q : Int)) = false) := fun q => decide_eq_false (fun h => hm h.1)
        rw [hS.out]
        clear e3 hcu
        go_wp2_with fail
        refine hc1.mono ?_
        rintro e w2 ⟨rfl, g2⟩
        have HG2 : Hid (Grow W1 w2) := HW.out.trans g2
        clear g2 hc1
        go_wp2_with fail
        refine (hwt w2 (HS.out.grow HG2.out)).mono ?_
        rintro e w3 ⟨rfl, rfl⟩
        go_wp2_with fail
        refine (hc2 w2 (HS.out.grow HG2.out)).mono ?_
        rintro e w3 ⟨rfl, g3⟩
        have HG3 : Hid (Grow W1 w3) := HG2.out.trans g3
        clear g3 hc2
        go_wp2
        go_roundg (K - (j + 1))
        case measure => have := HJ.out; have := HL.out; omega
        case rel => exact ⟨j + 1, rfl, HL.out, by rw [hS.out], rfl, HG3⟩
    · have hlt' : ¬ (j : Int) < k := by have := HK.out; omega
      obtain rfl : K = j := by omega
      have HG2 : Hid (Grow w wr) := HG.out.trans HW.out
      have hoK : o < (K : Int) := by have := HO.out; have := HK.out; omega
      have hS : decide (0 < m ∧ o < (K : Int)) = decide (0 < m) := by rw [decide_eq_decide]; exact ⟨fun h => h.1, fun h => ⟨h, hoK⟩⟩
      rw [hS]
      clear hlt hk hj hS hoK hcu hwt
      by_cases hm : 0 < m
      · rw [decide_eq_true hm]
        go_wp2_with fail
        refine (lives_any wr).mono ?_
        rintro e w5 ⟨rfl, g5⟩
        go_wp2
        go_ret
        exact ⟨rfl, HG2.out.trans g5⟩
      · rw [decide_eq_false hm]
        go_wp2_with fail
        refine (lives_any wr).mono ?_
        rintro e w5 ⟨rfl, g5⟩
        go_wp2
        go_ret
        exact ⟨rfl, HG2.out.trans g5⟩
end Go.Proofs.Ytfbhngmolifkaaa
