/-
  The law's example of an arena, and a frame as the document has it. Conditions: each theorem's own.
-/
import Derived.Test.YtgpigllimoafaaaAreQ
import Derived.Test.YtgpigllimoafaaaLast
import Derived.Deep.LoopGhost
namespace Go.Proofs.Ytgpigllimoafaaa
open Go.RowKit
set_option linter.unusedVariables false
set_option linter.unusedSimpArgs false

theorem CutOk.low {q : List Int} (k : CutOk q) : ∀ i, i < q.length → 0 ≤ q.getD i 0 := fun i hi => by have := k.2.2.1 i hi; omega
/-- a frame is of one partition alone -/
theorem sm_uniq {q : List Int} (hq : ∀ i, i < q.length → 0 ≤ q.getD i 0) {n : Int} {m m' : Nat} (h1 : m < q.length) (h2 : m' < q.length) (a1 : sm q m ≤ n) (a2 : n < sm q (m + 1)) (b1 : sm q m' ≤ n) (b2 : n < sm q (m' + 1)) : m = m' := by
  have x1 : ¬ m < m' := fun h => by
    have := sm_mono hq (m := m + 1) (n := m') (by omega) (by omega)
    omega
  have x2 : ¬ m' < m := fun h => by
    have := sm_mono hq (m := m' + 1) (n := m) (by omega) (by omega)
    omega
  omega
theorem OfIs.yes {q : List Int} (hq : ∀ i, i < q.length → 0 ≤ q.getD i 0) {n i k : Int} {is : Bool} (h : OfIs q n i k is) {m : Nat} (h1 : m < q.length) (a1 : sm q m ≤ n) (a2 : n < sm q (m + 1)) : i = m ∧ k = n - sm q m ∧ is = true := by
  rcases h with ⟨e, m', h2, e1, e2, b1, b2⟩ | ⟨e, -, -, h2⟩
  · have := sm_uniq hq h1 h2 a1 a2 b1 b2
    subst this
    exact ⟨e1, e2, e⟩
  · have x1 := sm_mono hq (m := 0) (n := m) (by omega) (by omega)
    have x2 := sm_mono hq (m := m + 1) (n := q.length) (by omega) (Nat.le_refl _)
    rw [sm_zero] at x1
    omega
theorem ok23 : CutOk [2, 3] := ⟨by decide, by decide, by decide, by decide⟩

set_option maxRecDepth 8000 in
set_option maxHeartbeats 2000000 in
theorem alives_any (w : World) : Calls Try.prog 15 #[] w fun e w' => e = .returned (.bool true) ∧ Grow w w' := by
  have hr : RdV (Value.int .i64) 0 (fun i => w.heap.size ≤ i) (w.alloc (.cells #[.int .i64 2, .int .i64 3] 3)) (.slice (some ⟨w.heap.size, 0, none⟩) 2 2) [2, 3] := (own_row .i64 [2, 3] 3 w w.heap.size (Nat.le_refl _) (by simp)).v.rd
  have hc := cut_any _ _ _ _ hr (by intro x hx; simp at hx; rcases hx with rfl | rfl <;> decide)
  have HG : Hid (Grow w (w.alloc (.cells #[.int .i64 2, .int .i64 3] 3))) := (Grow.refl w).alloc _
  clear hr
  go_enter Try.func15, Try.ntmps15
  go_wp2_with fail
  refine hc.mono ?_
  rintro e w1 ⟨hp, g1⟩
  rcases hp with ⟨-, A, M, rfl, kA, hl, hn⟩ | ⟨hno, -⟩
  · have hmap := hn.map hl (by decide)
    have HW1 : Hid (Grow w w1) := HG.out.trans g1
    have hof := of_any _ w1 A M kA 3 (by decide)
    rw [hmap] at hof
    have HA : Hid (ArAt (w.alloc (.cells #[.int .i64 2, .int .i64 3] 3)).heap.size w1 A M ∧ M.map PS.len = [2, 3] ∧ M.length = 2) := ⟨kA, hmap, hl⟩
    clear kA hl hn hmap g1 HG hc
    go_wp2_with fail
    refine hof.mono ?_
    rintro e w2 ⟨⟨i, y, is, rfl, ho⟩, rfl⟩
    obtain ⟨rfl, hy, rfl⟩ := ho.yes ok23.low (m := 1) (by decide) (by decide) (by decide)
    have hy1 : y = 1 := hy
    subst hy1
    have hfr := frames_any _ w1 A M HA.out.1
    rw [HA.out.2.1, HA.out.2.2] at hfr
    have e5 : sm [2, 3] 2 = 5 := rfl
    rw [e5] at hfr
    clear ho hof hy e5
    go_wp2_with fail
    refine hfr.mono ?_
    rintro e w2 ⟨rfl, g2⟩
    have hst := start_yes _ w2 A M (HA.out.1.grow g2) 1 (by rw [HA.out.2.2]; decide)
    rw [HA.out.2.1] at hst
    have e2 : sm [2, 3] 1 = 2 := rfl
    rw [e2] at hst
    have HW2 : Hid (Grow w w2) := HW1.out.trans g2
    clear g2 hfr e2 HW1
    go_wp2_with fail
    refine hst.mono ?_
    rintro e w3 ⟨rfl, g3⟩
    have HW3 : Hid (Grow w w3) := HW2.out.trans g3
    clear g3 hst
    go_wp2
    go_ret
    exact ⟨rfl, HW3.out⟩
  · exact absurd ok23 hno
end Go.Proofs.Ytgpigllimoafaaa
