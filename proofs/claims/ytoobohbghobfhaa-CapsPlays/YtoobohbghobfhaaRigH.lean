/-
  The walks of the document's Bit and Has (stage 16's), by themselves. Conditions: each theorem's own.
-/
import Derived.Test.YtoobohbghobfhaaRig
namespace Go.Proofs.Ytoobohbghobfhaa
open Go.RowKit
set_option linter.unusedVariables false
set_option linter.unusedSimpArgs false

theorem bit_beq (s j : Nat) (m : Int) (hs : s < 16) (hj : j < 4) (hm : m = ((2 ^ j : Nat) : Int)) : ((s : Int) / m % 2 == 1) = s.testBit j := by
  rw [← bit_is s hs j hj, hm]
  by_cases h : s / 2 ^ j % 2 = 1
  · rw [decide_eq_true h]; exact beq_iff_eq.2 (by rw [← Int.natCast_ediv]; omega)
  · rw [decide_eq_false h]; exact beq_eq_false_iff_ne.2 (by rw [← Int.natCast_ediv]; omega)

set_option maxHeartbeats 1000000 in
theorem rbit_lit (s : Nat) (m : Int) (w : World) (hs : s < 16) (hm : m = 1 ∨ m = 2 ∨ m = 4 ∨ m = 8) : Calls Try.prog 38 #[.int .i64 s, .int .i64 m] w fun e w' => e = .returned (.bool ((s : Int) / m % 2 == 1)) ∧ w = w' := by
  rcases hm with rfl | rfl | rfl | rfl
  all_goals
    go_enter Try.func38, Try.ntmps38
    go_wp2
    go_ret
    exact ⟨by simp, rfl⟩
theorem rbit_any (s j : Nat) (m : Int) (w : World) (hs : s < 16) (hj : j < 4) (hm : m = ((2 ^ j : Nat) : Int)) : Calls Try.prog 38 #[.int .i64 s, .int .i64 m] w fun e w' => e = .returned (.bool (s.testBit j)) ∧ w = w' := by
  have h := rbit_lit s m w hs (by rcases (show j = 0 ∨ j = 1 ∨ j = 2 ∨ j = 3 by omega) with rfl | rfl | rfl | rfl <;> simp [hm])
  rw [bit_beq s j m hs hj hm] at h
  exact h

/-- the bits' row -/
theorem pw_at (j : Nat) (h : j < 4) : ((([1, 2, 4, 8] : List Nat).getD j 0 : Nat) : Int) = ((2 ^ j : Nat) : Int) := by
  rcases (show j = 0 ∨ j = 1 ∨ j = 2 ∨ j = 3 by omega) with rfl | rfl | rfl | rfl <;> rfl

set_option maxHeartbeats 2000000 in
theorem rhas_any (x y : Nat) (w : World) (hx : x < 16) (hy : y < 16) : Calls Try.prog 28 #[.int .i64 x, .int .i64 y] w fun e w' => e = .returned (.bool (hasB x y)) ∧ Grow w w' := by
  have HB : Hid (x < 16 ∧ y < 16) := ⟨hx, hy⟩
  have hrd := of_lit4 w 3
  have hg := (Grow.refl w).alloc (.cells #[.int .i64 1, .int .i64 2, .int .i64 4, .int .i64 8] 3)
  go_enter Try.func28, Try.ntmps28
  go_wp2
  generalize w.alloc (.cells #[.int .i64 1, .int .i64 2, .int .i64 4, .int .i64 8] 3) = W1 at *
  obtain ⟨bb, oo, e1, -, hc⟩ := hrd.addr (by decide)
  injection e1 with e1
  injection e1 with e1 e2
  subst e1 e2
  have HC : Hid (∀ j, j < 4 → W1.cell? ⟨w.heap.size, j, none⟩ = some (.int .i64 ((2 ^ j : Nat) : Int))) := fun j hj => by have := hc j hj; rw [Nat.zero_add] at this; rw [this]; exact congrArg (fun z => some (Value.int .i64 z)) (pw_at j hj)
  clear hc hrd
  go_loopg [6] 4 (fun k i wr => ∃ j : Nat, k = 4 - j ∧ j ≤ 4 ∧ i = .int .i64 j ∧ Hid (∀ i, i < j → y.testBit i = true → x.testBit i = true) ∧ W1 = wr)
  case atStart => exact ⟨0, rfl, Nat.zero_le _, rfl, fun i hi => absurd hi (Nat.not_lt_zero _), rfl⟩
  case round =>
    obtain ⟨j, hk, hj, rfl, HN, rfl⟩ := hrel
    by_cases hlt : j < 4
    · have hlt' : (j : Int) < 4 := by omega
      have f1 := HC.out j hlt
      have h1 := rbit_any x j _ W1 HB.out.1 hlt rfl
      have h2 := rbit_any y j _ W1 HB.out.2 hlt rfl
      have HX : Hid (y.testBit j = true → x.testBit j = false → hasB x y = false) := has_not x HB.out.1 y HB.out.2 j hlt
      have HJ : Hid (j < 4 ∧ gk = 4 - j) := ⟨hlt, hk⟩
      have HS : Hid ((y.testBit j = true → x.testBit j = true) → ∀ i, i < j + 1 → y.testBit i = true → x.testBit i = true) := fun h i hi => by
        by_cases e : i = j
        · subst e; exact h
        · exact HN.out i (by omega)
      generalize ((2 ^ j : Nat) : Int) = m at f1 h1 h2
      generalize x.testBit j = bx at h1 HX HS
      generalize y.testBit j = b2 at h2 HX HS
      clear hk hlt hj
      cases bx <;> cases b2
      · go_wp2_with fail
        refine h1.mono ?_
        rintro e w1 ⟨rfl, rfl⟩
        go_wp2_with fail
        refine h2.mono ?_
        rintro e w1 ⟨rfl, rfl⟩
        go_wp2
        go_roundg (4 - (j + 1))
        case measure => have := HJ.out; omega
        case rel => exact ⟨j + 1, rfl, HJ.out.1, by go_num, HS.out (by simp), rfl⟩
      · go_wp2_with fail
        refine h1.mono ?_
        rintro e w1 ⟨rfl, rfl⟩
        go_wp2_with fail
        refine h2.mono ?_
        rintro e w1 ⟨rfl, rfl⟩
        go_wp2
        go_ret
        exact ⟨by rw [HX.out (by trivial) (by trivial)]; rfl, hg⟩
      · go_wp2_with fail
        refine h1.mono ?_
        rintro e w1 ⟨rfl, rfl⟩
        go_wp2_with fail
        refine h2.mono ?_
        rintro e w1 ⟨rfl, rfl⟩
        go_wp2
        go_roundg (4 - (j + 1))
        case measure => have := HJ.out; omega
        case rel => exact ⟨j + 1, rfl, HJ.out.1, by go_num, HS.out (by simp), rfl⟩
      · go_wp2_with fail
        refine h1.mono ?_
        rintro e w1 ⟨rfl, rfl⟩
        go_wp2_with fail
        refine h2.mono ?_
        rintro e w1 ⟨rfl, rfl⟩
        go_wp2
        go_roundg (4 - (j + 1))
        case measure => have := HJ.out; omega
        case rel => exact ⟨j + 1, rfl, HJ.out.1, by go_num, HS.out (by simp), rfl⟩
    · obtain rfl : 4 = j := by omega
      have HE : Hid (hasB x y = true) := has_all x HB.out.1 y HB.out.2 HN.out
      go_wp2
      go_ret
      exact ⟨by rw [HE.out]; rfl, hg⟩
end Go.Proofs.Ytoobohbghobfhaa
