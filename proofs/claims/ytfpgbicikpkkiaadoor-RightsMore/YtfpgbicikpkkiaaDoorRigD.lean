/-
  The walks of the document's side: May, Bit, Has, Of, Needs, SameTexts. Conditions: each theorem's own.
-/
import Derived.Test.YtfpgbicikpkkiaaDoorRigP
namespace Go.Proofs.YtfpgbicikpkkiaaDoor
open Go.RowKit
set_option linter.unusedVariables false
set_option linter.unusedSimpArgs false

set_option maxHeartbeats 1000000 in
theorem rmay_any (n : Int) (w : World) (hn : (Lit.int .i64 n).wf = true) : Calls Tryd.prog 9 #[.int .i64 n] w fun e w' => e = .returned (.bool (decide (0 ≤ n ∧ n ≤ 15))) ∧ w = w' := by
  by_cases h0 : 0 ≤ n
  · by_cases h1 : n ≤ 15
    · rw [decide_eq_true ⟨h0, h1⟩]
      go_enter Tryd.func9, Tryd.ntmps9
      go_wp2
      go_ret
      exact ⟨rfl, rfl⟩
    · rw [decide_eq_false (fun h => h1 h.2)]
      go_enter Tryd.func9, Tryd.ntmps9
      go_wp2
      go_ret
      exact ⟨rfl, rfl⟩
  · rw [decide_eq_false (fun h => h0 h.1)]
    go_enter Tryd.func9, Tryd.ntmps9
    go_wp2
    go_ret
    exact ⟨rfl, rfl⟩

theorem bit_beq (s j : Nat) (m : Int) (hs : s < 16) (hj : j < 4) (hm : m = ((2 ^ j : Nat) : Int)) : ((s : Int) / m % 2 == 1) = s.testBit j := by
  rw [← bit_is s hs j hj, hm]
  by_cases h : s / 2 ^ j % 2 = 1
  · rw [decide_eq_true h]; exact beq_iff_eq.2 (by rw [← Int.natCast_ediv]; omega)
  · rw [decide_eq_false h]; exact beq_eq_false_iff_ne.2 (by rw [← Int.natCast_ediv]; omega)

set_option maxHeartbeats 1000000 in
theorem rbit_lit (s : Nat) (m : Int) (w : World) (hs : s < 16) (hm : m = 1 ∨ m = 2 ∨ m = 4 ∨ m = 8) : Calls Tryd.prog 24 #[.int .i64 s, .int .i64 m] w fun e w' => e = .returned (.bool ((s : Int) / m % 2 == 1)) ∧ w = w' := by
  rcases hm with rfl | rfl | rfl | rfl
  all_goals
    go_enter Tryd.func24, Tryd.ntmps24
    go_wp2
    go_ret
    exact ⟨by simp, rfl⟩
theorem rbit_any (s j : Nat) (m : Int) (w : World) (hs : s < 16) (hj : j < 4) (hm : m = ((2 ^ j : Nat) : Int)) : Calls Tryd.prog 24 #[.int .i64 s, .int .i64 m] w fun e w' => e = .returned (.bool (s.testBit j)) ∧ w = w' := by
  have h := rbit_lit s m w hs (by rcases (show j = 0 ∨ j = 1 ∨ j = 2 ∨ j = 3 by omega) with rfl | rfl | rfl | rfl <;> simp [hm])
  rw [bit_beq s j m hs hj hm] at h
  exact h

/-- the bits' row -/
theorem pw_at (j : Nat) (h : j < 4) : ((([1, 2, 4, 8] : List Nat).getD j 0 : Nat) : Int) = ((2 ^ j : Nat) : Int) := by
  rcases (show j = 0 ∨ j = 1 ∨ j = 2 ∨ j = 3 by omega) with rfl | rfl | rfl | rfl <;> rfl

set_option maxHeartbeats 2000000 in
theorem rhas_any (x y : Nat) (w : World) (hx : x < 16) (hy : y < 16) : Calls Tryd.prog 14 #[.int .i64 x, .int .i64 y] w fun e w' => e = .returned (.bool (hasB x y)) ∧ Grow w w' := by
  have HB : Hid (x < 16 ∧ y < 16) := ⟨hx, hy⟩
  have hrd := of_lit4 w 3
  have hg := (Grow.refl w).alloc (.cells #[.int .i64 1, .int .i64 2, .int .i64 4, .int .i64 8] 3)
  go_enter Tryd.func14, Tryd.ntmps14
  go_wp2
  generalize w.alloc (.cells #[.int .i64 1, .int .i64 2, .int .i64 4, .int .i64 8] 3) = W1 at *
  obtain ⟨bb, oo, e1, -, hc⟩ := hrd.addr (by decide)
  injection e1 with e1
  injection e1 with e1 e2
  subst e1 e2
  have HC : Hid (∀ j, j < 4 → W1.cell? ⟨w.heap.size, j, none⟩ = some (.int .i64 ((2 ^ j : Nat) : Int))) := fun j hj => by have := hc j hj; rw [Nat.zero_add] at this; rw [this]; exact congrArg (fun z => some (Value.int .i64 z)) (pw_at j hj)
  clear hc hrd
  go_loopg [6] 4 (fun k i wr => ∃ j : Nat, k = 4 - j ∧ j ≤ 4 ∧ i = .int .i64 j ∧ Hid (∀ i, i < j → y.testBit i = true → x.testBit i = true) ∧ W1 = wr)
  case atStart => exact ⟨0, rfl, Nat.zero_le _, rfl, fun i hi => absurd hi (Nat.not_lt_zero _), rfl⟩
  case round =>
    obtain ⟨j, hk, hj, rfl, HN, rfl⟩ := hrel
    by_cases hlt : j < 4
    · have hlt' : (j : Int) < 4 := by omega
      have f1 := HC.out j hlt
      have h1 := rbit_any x j _ W1 HB.out.1 hlt rfl
      have h2 := rbit_any y j _ W1 HB.out.2 hlt rfl
      have HX : Hid (y.testBit j = true → x.testBit j = false → hasB x y = false) := has_not x HB.out.1 y HB.out.2 j hlt
      have HJ : Hid (j < 4 ∧ gk = 4 - j) := ⟨hlt, hk⟩
      have HS : Hid ((y.testBit j = true → x.testBit j = true) → ∀ i, i < j + 1 → y.testBit i = true → x.testBit i = true) := fun h i hi => by
        by_cases e : i = j
        · subst e; exact h
        · exact HN.out i (by omega)
      generalize ((2 ^ j : Nat) : Int) = m at f1 h1 h2
      generalize x.testBit j = bx at h1 HX HS
      generalize y.testBit j = b2 at h2 HX HS
      clear hk hlt hj
      cases bx <;> cases b2
      · go_wp2_with fail
        refine h1.mono ?_
        rintro e w1 ⟨rfl, rfl⟩
        go_wp2_with fail
        refine h2.mono ?_
        rintro e w1 ⟨rfl, rfl⟩
        go_wp2
        go_roundg (4 - (j + 1))
        case measure => have := HJ.out; omega
        case rel => exact ⟨j + 1, rfl, HJ.out.1, by go_num, HS.out (by simp), rfl⟩
      · go_wp2_with fail
        refine h1.mono ?_
        rintro e w1 ⟨rfl, rfl⟩
        go_wp2_with fail
        refine h2.mono ?_
        rintro e w1 ⟨rfl, rfl⟩
        go_wp2
        go_ret
        exact ⟨by rw [HX.out (by trivial) (by trivial)]; rfl, hg⟩
      · go_wp2_with fail
        refine h1.mono ?_
        rintro e w1 ⟨rfl, rfl⟩
        go_wp2_with fail
        refine h2.mono ?_
        rintro e w1 ⟨rfl, rfl⟩
        go_wp2
        go_roundg (4 - (j + 1))
        case measure => have := HJ.out; omega
        case rel => exact ⟨j + 1, rfl, HJ.out.1, by go_num, HS.out (by simp), rfl⟩
      · go_wp2_with fail
        refine h1.mono ?_
        rintro e w1 ⟨rfl, rfl⟩
        go_wp2_with fail
        refine h2.mono ?_
        rintro e w1 ⟨rfl, rfl⟩
        go_wp2
        go_roundg (4 - (j + 1))
        case measure => have := HJ.out; omega
        case rel => exact ⟨j + 1, rfl, HJ.out.1, by go_num, HS.out (by simp), rfl⟩
    · obtain rfl : 4 = j := by omega
      have HE : Hid (hasB x y = true) := has_all x HB.out.1 y HB.out.2 HN.out
      go_wp2
      go_ret
      exact ⟨by rw [HE.out]; rfl, hg⟩

set_option maxHeartbeats 1000000 in
theorem samet_any (av bv : Value) (xs ys : List ByteArray) (p q : Nat → Prop) (w : World) (ha : RdV Value.string ⟨#[]⟩ p w av xs) (hb : RdV Value.string ⟨#[]⟩ q w bv ys) :
    Calls Tryd.prog 21 #[av, bv] w fun e w' => e = .returned (.bool (decide (xs = ys))) ∧ Grow w w' := by
  have la := ha.len
  have lb := hb.len
  unfold maxLen at la lb
  have HA : Hid (RdV Value.string ⟨#[]⟩ p w av xs) := ha
  have HB : Hid (RdV Value.string ⟨#[]⟩ q w bv ys) := hb
  obtain ⟨a1, c1, rfl⟩ := ha.shape
  obtain ⟨a2, c2, rfl⟩ := hb.shape
  clear ha hb
  by_cases hl : xs.length = ys.length
  · have hl' : (xs.length : Int) = (ys.length : Int) := by omega
    have HLL : Hid (xs.length = ys.length) := hl
    go_enter Tryd.func21, Tryd.ntmps21
    go_wp2
    go_loopg [5] xs.length (fun k i wr => ∃ j : Nat, k = xs.length - j ∧ j ≤ xs.length ∧ i = .int .i64 j ∧ Hid (xs.take j = ys.take j) ∧ Grow w wr)
    case atStart => exact ⟨0, rfl, Nat.zero_le _, rfl, by simp [Hid], Grow.refl _⟩
    case round =>
      obtain ⟨j, hk, hj, rfl, HE, hg⟩ := hrel
      by_cases hlt : j < xs.length
      · have hlt' : (j : Int) < (xs.length : Int) := by omega
        have hlt2 : (j : Int) < (ys.length : Int) := by omega
        obtain ⟨b1, o1, e1, -, hc1⟩ := (HA.out.grow hg).addr (by omega)
        obtain ⟨b2, o2, e2, -, hc2⟩ := (HB.out.grow hg).addr (by omega)
        have f1 := hc1 j hlt
        have f2 := hc2 j (by omega)
        clear hc1 hc2
        have HT : Hid (xs.take (j + 1) = xs.take j ++ [xs.getD j ⟨#[]⟩] ∧ ys.take (j + 1) = ys.take j ++ [ys.getD j ⟨#[]⟩]) := ⟨take_snoc xs ⟨#[]⟩ j hlt, take_snoc ys ⟨#[]⟩ j (by omega)⟩
        have hne : ∀ x y : ByteArray, x ≠ y → xs.getD j ⟨#[]⟩ = x → ys.getD j ⟨#[]⟩ = y → xs ≠ ys := fun x y h1 h2 h3 h4 => h1 (by rw [← h2, ← h3, h4])
        have HJ : Hid (j < xs.length ∧ gk = xs.length - j) := ⟨hlt, hk⟩
        generalize xs.getD j ⟨#[]⟩ = x at f1 HT hne
        generalize ys.getD j ⟨#[]⟩ = y at f2 HT hne
        clear hlt hk hl
        have HN := hne x y
        clear hne
        subst e1 e2
        by_cases hxy : x = y
        · subst hxy
          clear HN
          go_wp2
          go_region
          all_goals
            go_wp2
            go_roundg (xs.length - (j + 1))
            case measure => have := HJ.out; omega
            case rel =>
              refine ⟨j + 1, rfl, HJ.out.1, by go_num, ?_, hg.drew⟩
              show xs.take (j + 1) = ys.take (j + 1)
              rw [HT.out.1, HT.out.2, HE.out]
        · skip
          have hns : xs ≠ ys := HN hxy rfl rfl
          have hbe : (!x.toList == y.toList) = true := by rw [ba_beq, decide_eq_false hxy]; rfl
          have hd : decide (xs = ys) = false := decide_eq_false hns
          clear HN hns hxy
          go_wp2
          go_region
          all_goals
            go_wp2
            go_ret
            exact ⟨ret_bool hd.symm, hg.drew⟩
      · obtain rfl : j = xs.length := by omega
        have he : xs = ys := by
          have := HE.out
          rwa [List.take_length, HLL.out, List.take_length] at this
        have hd : decide (xs = ys) = true := decide_eq_true he
        clear he hl
        go_wp2
        go_ret
        exact ⟨ret_bool hd.symm, hg⟩
  · have hl' : ¬ (xs.length : Int) = (ys.length : Int) := by omega
    have hd : decide (xs = ys) = false := decide_eq_false (fun h => hl (by rw [h]))
    go_enter Tryd.func21, Tryd.ntmps21
    go_wp2
    go_ret
    exact ⟨ret_bool hd.symm, Grow.refl _⟩


set_option maxHeartbeats 1000000 in
theorem rneeds_any (n : Int) (w : World) : Calls Tryd.prog 18 #[.int .i64 n] w fun e w' => e = .returned (.int .i64 (ndS n)) ∧ Grow w w' := by
  have hG := fun o => (Grow.refl w).alloc o
  by_cases h1 : n = 1
  · obtain rfl : n = 1 := h1
    go_enter Tryd.func18, Tryd.ntmps18
    go_wp2
    go_ret
    exact ⟨rfl, hG _⟩
  by_cases h2 : n = 2
  · obtain rfl : n = 2 := h2
    go_enter Tryd.func18, Tryd.ntmps18
    go_wp2
    go_ret
    exact ⟨rfl, hG _⟩
  by_cases h3 : n = 3
  · obtain rfl : n = 3 := h3
    go_enter Tryd.func18, Tryd.ntmps18
    go_wp2
    go_ret
    exact ⟨rfl, hG _⟩
  by_cases h4 : n = 4
  · obtain rfl : n = 4 := h4
    go_enter Tryd.func18, Tryd.ntmps18
    go_wp2
    go_ret
    exact ⟨rfl, hG _⟩
  by_cases h5 : n = 5
  · obtain rfl : n = 5 := h5
    go_enter Tryd.func18, Tryd.ntmps18
    go_wp2
    go_ret
    exact ⟨rfl, hG _⟩
  by_cases h6 : n = 6
  · obtain rfl : n = 6 := h6
    go_enter Tryd.func18, Tryd.ntmps18
    go_wp2
    go_ret
    exact ⟨rfl, hG _⟩
  by_cases h7 : n = 7
  · obtain rfl : n = 7 := h7
    go_enter Tryd.func18, Tryd.ntmps18
    go_wp2
    go_ret
    exact ⟨rfl, hG _⟩
  by_cases h8 : n = 8
  · obtain rfl : n = 8 := h8
    go_enter Tryd.func18, Tryd.ntmps18
    go_wp2
    go_ret
    exact ⟨rfl, hG _⟩
  have e : ndS n = 0 := by simp [ndS, h1, h2, h3, h4, h5, h6, h7, h8]
  rw [e]
  by_cases hlo : n < 1
  · go_enter Tryd.func18, Tryd.ntmps18
    go_wp2
    go_ret
    exact ⟨rfl, Grow.refl _⟩
  · have hhi : 8 < n := by omega
    go_enter Tryd.func18, Tryd.ntmps18
    go_wp2
    go_ret
    exact ⟨rfl, Grow.refl _⟩
end Go.Proofs.YtfpgbicikpkkiaaDoor
