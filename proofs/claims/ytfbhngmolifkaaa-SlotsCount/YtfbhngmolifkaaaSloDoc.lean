/-
  The walks of the document's Next, Count and SameInts, and of the law's own example. Conditions: each theorem's own.
-/
import Derived.Test.YtfbhngmolifkaaaSlo
namespace Go.Proofs.Ytfbhngmolifkaaa
open Go.RowKit
set_option linter.unusedVariables false
set_option linter.unusedSimpArgs false

set_option maxHeartbeats 1000000 in
theorem rnext_any (w : World) (n t i : Int) (h1 : 1 ≤ n) (h2 : n ≤ 16) (h3 : 0 ≤ t) (h4 : t ≤ 2000000000000) (h5 : 0 ≤ i) (h6 : i < n) : Calls Try.prog 18 #[.int .i64 n, .int .i64 t, .int .i64 i] w fun e w' => e = .returned (.int .i64 (nxt n t i)) ∧ w = w' := by
  obtain ⟨hb0, hb1⟩ := nxt_bd (t := t) (i := i) h1
  obtain ⟨N, hN⟩ : ∃ N : Nat, (N : Int) = nxt n t i - t := ⟨(nxt n t i - t).toNat, by omega⟩
  have HN : Hid ((N : Int) = nxt n t i - t) := hN
  have HB : Hid (0 ≤ t ∧ t ≤ 2000000000000 ∧ N ≤ 16) := ⟨h3, h4, by omega⟩
  have HI : Hid (0 ≤ i ∧ i < n) := ⟨h5, h6⟩
  clear hN hb0 hb1 h3 h4 h5 h6
  go_enter Try.func18, Try.ntmps18
  go_wp2
  go_loopg [1] N (fun k x wr => ∃ j : Nat, k = N - j ∧ j ≤ N ∧ x = .int .i64 (t + j) ∧ w = wr)
  case atStart => exact ⟨0, rfl, Nat.zero_le _, by simp, rfl⟩
  case round =>
    obtain ⟨j, hk, hj, rfl, rfl⟩ := hrel
    have hb := HB.out
    have ho := rowner_any w n (t + j) h1 h2 (by omega) (by omega)
    have HJ : Hid (gk = N - j ∧ j ≤ N) := ⟨hk, hj⟩
    clear hk hj hb
    by_cases hh : (t + j) % n = i
    · have HE : Hid (t + j = nxt n t i) := nxt_hit h1 h2 t (t + j) i HI.out.1 HI.out.2 (by omega) (by have := HN.out; have := HJ.out.2; omega) hh
      rw [hh] at ho
      generalize t + (j : Int) = u at *
      clear hh
      go_wp2_with fail
      refine ho.mono ?_
      rintro e w1 ⟨rfl, rfl⟩
      go_wp2
      go_ret
      exact ⟨ret_int HE.out, rfl⟩
    · have HL : Hid (j + 1 ≤ N) := by
        have := nxt_more h1 h2 HI.out.1 HI.out.2 (by have := HN.out; have := HJ.out.2; omega : t + j ≤ nxt n t i) hh
        have h := HN.out
        show _ ≤ _
        omega
      have hw : IntKind.i64.wrap (t + (j : Int) + 1) = t + ((j + 1 : Nat) : Int) := by rw [IntKind.wrap_i64]; have := HB.out; have := HL.out; omega
      generalize t + (j : Int) = u at *
      generalize u % n = x at *
      generalize hu' : t + ((j + 1 : Nat) : Int) = u' at hw
      have HU : Hid (t + ((j + 1 : Nat) : Int) = u') := hu'
      clear hu'
      go_wp2_with fail
      refine ho.mono ?_
      rintro e w1 ⟨rfl, rfl⟩
      go_wp2
      go_roundg (N - (j + 1))
      case measure => have := HJ.out; have := HL.out; omega
      case rel => exact ⟨j + 1, rfl, HL.out, by rw [HU.out], rfl⟩

set_option maxHeartbeats 1000000 in
theorem rcount_any (w : World) (n a b i : Int) (h1 : 1 ≤ n) (h2 : n ≤ 16) (h3 : 0 ≤ a) (h4 : a ≤ 2000000000000) (h5 : 0 ≤ b) (h6 : b ≤ 2000000000000) (h7 : 0 ≤ i) (h8 : i < n) : Calls Try.prog 20 #[.int .i64 n, .int .i64 a, .int .i64 b, .int .i64 i] w fun e w' => e = .returned (.int .i64 (tic n i a (b - a).toNat)) ∧ w = w' := by
  generalize hN : (b - a).toNat = N
  have HN : Hid ((b - a).toNat = N) := hN
  have HB : Hid (0 ≤ a ∧ a ≤ 2000000000000 ∧ 0 ≤ b ∧ b ≤ 2000000000000) := ⟨h3, h4, h5, h6⟩
  clear hN h3 h4 h5 h6 h7 h8
  go_enter Try.func20, Try.ntmps20
  go_wp2
  go_loopg [9, 10] N (fun k x y wr => ∃ j : Nat, k = N - j ∧ j ≤ N ∧ x = .int .i64 (tic n i a j) ∧ y = .int .i64 (a + j) ∧ w = wr)
  case atStart => exact ⟨0, rfl, Nat.zero_le _, rfl, by simp, rfl⟩
  case round =>
    obtain ⟨j, hk, hj, rfl, rfl, rfl⟩ := hrel
    have hb := HB.out
    have ho := rowner_any w n (a + j) h1 h2 (by omega) (by have := HN.out; omega)
    have HJ : Hid (gk = N - j ∧ j ≤ N) := ⟨hk, hj⟩
    clear hk hj hb
    by_cases hlt : j < N
    · have hlt' : a + (j : Int) < b := by have := HN.out; omega
      have HL : Hid (j < N) := hlt
      have HT : Hid (tic n i a (j + 1) = tic n i a j + (if (a + j) % n = i then 1 else 0)) := rfl
      have ht := tic_bd n i a j
      have hw : IntKind.i64.wrap (a + (j : Int) + 1) = a + ((j + 1 : Nat) : Int) := by rw [IntKind.wrap_i64]; have := HB.out; have := HN.out; omega
      have hw2 : IntKind.i64.wrap (tic n i a j + 1) = tic n i a j + 1 := by rw [IntKind.wrap_i64]; have := HB.out; have := HN.out; omega
      generalize hu' : a + ((j + 1 : Nat) : Int) = u' at hw
      have HU : Hid (a + ((j + 1 : Nat) : Int) = u') := hu'
      generalize a + (j : Int) = u at *
      generalize tic n i a j = c at *
      clear hu' ht hlt
      by_cases hh : u % n = i
      · have HT2 : Hid (tic n i a (j + 1) = c + 1) := by have := HT.out; rw [if_pos hh] at this; exact this
        rw [hh] at ho
        clear hh HT
        go_wp2_with fail
        refine ho.mono ?_
        rintro e w1 ⟨rfl, rfl⟩
        go_wp2
        go_roundg (N - (j + 1))
        case measure => have := HJ.out; have := HL.out; omega
        case rel => exact ⟨j + 1, rfl, HL.out, by rw [HT2.out], by rw [HU.out], rfl⟩
      · have HT2 : Hid (tic n i a (j + 1) = c) := by have := HT.out; rw [if_neg hh, Int.add_zero] at this; exact this
        clear HT
        generalize u % n = x at ho hh
        go_wp2_with fail
        refine ho.mono ?_
        rintro e w1 ⟨rfl, rfl⟩
        go_wp2
        go_roundg (N - (j + 1))
        case measure => have := HJ.out; have := HL.out; omega
        case rel => exact ⟨j + 1, rfl, HL.out, by rw [HT2.out], by rw [HU.out], rfl⟩
    · have hlt' : ¬ a + (j : Int) < b := by have := HN.out; have := HJ.out; have := HB.out; omega
      obtain rfl : N = j := by have := HJ.out; omega
      generalize a + (N : Int) = u at *
      clear ho hlt
      go_wp2
      go_ret
      exact ⟨rfl, rfl⟩

set_option maxHeartbeats 1000000 in
theorem samez_any (av bv : Value) (xs ys : List Int) (p q : Nat → Prop) (w : World) (ha : RdV (Value.int .i64) 0 p w av xs) (hb : RdV (Value.int .i64) 0 q w bv ys) :
    Calls Try.prog 13 #[av, bv] w fun e w' => e = .returned (.bool (decide (xs = ys))) ∧ Grow w w' := by
  have la := ha.len
  have lb := hb.len
  unfold maxLen at la lb
  have HA : Hid (RdV (Value.int .i64) 0 p w av xs) := ha
  have HB : Hid (RdV (Value.int .i64) 0 q w bv ys) := hb
  obtain ⟨a1, c1, rfl⟩ := ha.shape
  obtain ⟨a2, c2, rfl⟩ := hb.shape
  clear ha hb
  by_cases hl : xs.length = ys.length
  · have hl' : (xs.length : Int) = (ys.length : Int) := by omega
    have HLL : Hid (xs.length = ys.length) := hl
    go_enter Try.func13, Try.ntmps13
    go_wp2
    go_loopg [5] xs.length (fun k i wr => ∃ j : Nat, k = xs.length - j ∧ j ≤ xs.length ∧ i = .int .i64 j ∧ Hid (xs.take j = ys.take j) ∧ Grow w wr)
    case atStart => exact ⟨0, rfl, Nat.zero_le _, rfl, by simp [Hid], Grow.refl _⟩
    case round =>
      obtain ⟨j, hk, hj, rfl, HE, hg⟩ := hrel
      by_cases hlt : j < xs.length
      · have hlt' : (j : Int) < (xs.length : Int) := by omega
        have hlt2 : (j : Int) < (ys.length : Int) := by omega
        obtain ⟨b1, o1, e1, -, hc1⟩ := (HA.out.grow hg).addr (by omega)
        obtain ⟨b2, o2, e2, -, hc2⟩ := (HB.out.grow hg).addr (by omega)
        have f1 := hc1 j hlt
        have f2 := hc2 j (by omega)
        clear hc1 hc2
        have HT : Hid (xs.take (j + 1) = xs.take j ++ [xs.getD j 0] ∧ ys.take (j + 1) = ys.take j ++ [ys.getD j 0]) := ⟨take_snoc xs 0 j hlt, take_snoc ys 0 j (by omega)⟩
        have hne : ∀ x y : Int, x ≠ y → xs.getD j 0 = x → ys.getD j 0 = y → xs ≠ ys := fun x y h1 h2 h3 h4 => h1 (by rw [← h2, ← h3, h4])
        have HJ : Hid (j < xs.length ∧ gk = xs.length - j) := ⟨hlt, hk⟩
        generalize xs.getD j 0 = x at f1 HT hne
        generalize ys.getD j 0 = y at f2 HT hne
        clear hlt hk hl
        have HN := hne x y
        clear hne
        subst e1 e2
        by_cases hxy : x = y
        · subst hxy
          clear HN
          go_wp2
          go_region
          all_goals
            go_wp2
            go_roundg (xs.length - (j + 1))
            case measure => have := HJ.out; omega
            case rel =>
              refine ⟨j + 1, rfl, HJ.out.1, by go_num, ?_, hg.drew⟩
              show xs.take (j + 1) = ys.take (j + 1)
              rw [HT.out.1, HT.out.2, HE.out]
        · have hns : xs ≠ ys := HN hxy rfl rfl
          have hd : decide (xs = ys) = false := decide_eq_false hns
          clear HN hns
          go_wp2
          go_region
          all_goals
            go_wp2
            go_ret
            exact ⟨ret_bool hd.symm, hg.drew⟩
      · obtain rfl : j = xs.length := by omega
        have he : xs = ys := by
          have := HE.out
          rwa [List.take_length, HLL.out, List.take_length] at this
        have hd : decide (xs = ys) = true := decide_eq_true he
        clear he hl
        go_wp2
        go_ret
        exact ⟨ret_bool hd.symm, hg⟩
  · have hl' : ¬ (xs.length : Int) = (ys.length : Int) := by omega
    have hd : decide (xs = ys) = false := decide_eq_false (fun h => hl (by rw [h]))
    go_enter Try.func13, Try.ntmps13
    go_wp2
    go_ret
    exact ⟨ret_bool hd.symm, Grow.refl _⟩

set_option maxHeartbeats 1000000 in
theorem lives_any (w : World) : Calls Try.prog 16 #[] w fun e w' => e = .returned (.bool true) ∧ Grow w w' := by
  go_enter Try.func16, Try.ntmps16
  go_wp2_with fail
  refine (new_yes 3 w (by omega) (by omega)).mono ?_
  rintro e w1 ⟨b, rfl, s1, g1⟩
  have HG : Hid (Grow w w1) := g1
  have HS : Hid (SAt w1 b 3) := s1
  clear g1 s1
  go_wp2_with fail
  refine (owner_any w1 b 3 HS.out 7 (by omega) (by omega) (by omega)).mono ?_
  rintro e w2 ⟨rfl, rfl⟩
  go_wp2_with fail
  refine (next_any w1 b 3 HS.out 7 0 (by omega) (by omega) (by omega) (by omega) (by omega) (by omega)).mono ?_
  rintro e w2 ⟨rfl, g2⟩
  have E2 : nxt 3 7 0 = 9 := by decide
  rw [E2]
  have HG2 : Hid (Grow w w2) := HG.out.trans g2
  have HS2 : Hid (SAt w2 b 3) := HS.out.grow g2
  clear g2
  go_wp2_with fail
  refine (count_any w2 b 3 HS2.out 0 7 0 (by omega) (by omega) (by omega) (by omega) (by omega) (by omega) (by omega) (by omega)).mono ?_
  rintro e w3 ⟨rfl, g3⟩
  have E3 : cnt 3 0 7 0 = 3 := by decide
  rw [E3]
  go_wp2
  go_ret
  exact ⟨rfl, HG2.out.trans g3⟩
end Go.Proofs.Ytfbhngmolifkaaa
