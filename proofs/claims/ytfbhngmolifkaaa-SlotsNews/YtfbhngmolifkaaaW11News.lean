/-
  The walk of SlotsNews. Conditions: the theorem's own.
-/
import Derived.Test.YtfbhngmolifkaaaSloDoc
namespace Go.Proofs.Ytfbhngmolifkaaa
open Go.RowKit
set_option linter.unusedVariables false
set_option linter.unusedSimpArgs false

set_option maxRecDepth 16000 in
set_option maxHeartbeats 4000000 in
theorem slotsNews_walk (n : Int) (w : World) (hn : (Lit.int .i64 n).wf = true) :
    Calls Try.prog 8 #[.int .i64 n] w fun e w' => e = .returned (.bool true) ∧ Grow w w' := by
  have har := around_any n 18 w hn (by omega) (by omega)
  generalize around n 18 = r at har
  have HC : Hid (∀ j : Nat, j < 2 → ∃ x : Int, (w.alloc (.cells #[.int .i64 n, .int .i64 r] 3)).cell? ⟨w.heap.size, j, none⟩ = some (.int .i64 x)) := fun j hj => by
    have h : j = 0 ∨ j = 1 := by omega
    rcases h with rfl | rfl
    · exact ⟨n, (World.cell?_alloc_new w _ _ _).trans (by simp)⟩
    · exact ⟨r, (World.cell?_alloc_new w _ _ _).trans (by simp)⟩
  go_enter Try.func8, Try.ntmps8
  go_wp2_with fail
  refine har.mono ?_
  rintro e w1 ⟨rfl, rfl⟩
  go_wp2
  go_loopg [4] 2 (fun k i wr => ∃ j : Nat, k = 2 - j ∧ j ≤ 2 ∧ i = .int .i64 j ∧ Grow (w.alloc (.cells #[.int .i64 n, .int .i64 r] 3)) wr)
  case atStart => exact ⟨0, rfl, Nat.zero_le _, rfl, Grow.refl _⟩
  case round =>
    obtain ⟨j, hk, hj, rfl, hg0⟩ := hrel
    by_cases hlt : j < 2
    · have hlt' : (j : Int) < 2 := by omega
      have HJ : Hid (j < 2 ∧ gk = 2 - j) := ⟨hlt, hk⟩
      obtain ⟨x, cx0⟩ := HC.out j hlt
      have hbw0 : w.heap.size < (w.alloc (.cells #[.int .i64 n, .int .i64 r] 3)).heap.size := by simp
      have cx : wr.cell? ⟨w.heap.size, j, none⟩ = some (.int .i64 x) := by rw [Below.cell (p := ⟨w.heap.size, j, none⟩) hg0 hbw0]; exact cx0
      have hbw : w.heap.size < wr.heap.size := by have := hg0.size; omega
      clear hlt hk cx0 hbw0
      by_cases h1 : x < 1
      · have h1' : ¬ 1 ≤ x := by omega
        have hg := hg0
        have hnw := new_no x wr (.inl h1)
        go_wp2_with fail
        refine hnw.mono ?_
        rintro e w1 ⟨rfl, rfl⟩
        go_wp2
        go_roundg (2 - (j + 1))
        case measure => have := HJ.out; omega
        case rel => exact ⟨j + 1, rfl, HJ.out.1, by go_num, hg⟩
      · by_cases h2 : 16 < x
        · have h1' : 1 ≤ x := by omega
          have h2' : ¬ x ≤ 16 := by omega
          have hg := hg0
          have hnw := new_no x wr (.inr h2)
          go_wp2_with fail
          refine hnw.mono ?_
          rintro e w1 ⟨rfl, rfl⟩
          go_wp2
          go_roundg (2 - (j + 1))
          case measure => have := HJ.out; omega
          case rel => exact ⟨j + 1, rfl, HJ.out.1, by go_num, hg⟩
        · have h1' : 1 ≤ x := by omega
          have h2' : x ≤ 16 := by omega
          have HG : Hid (Grow (w.alloc (.cells #[.int .i64 n, .int .i64 r] 3)) wr) := hg0
          clear hg0
          have hnw := new_yes x wr h1' h2'
          go_wp2_with fail
          refine hnw.mono ?_
          rintro e w1 ⟨b, rfl, q1, g1⟩
          have cx1 : w1.cell? ⟨w.heap.size, j, none⟩ = some (.int .i64 x) := by rw [Below.cell (p := ⟨w.heap.size, j, none⟩) g1 hbw]; exact cx
          have HG1 : Hid (Grow (w.alloc (.cells #[.int .i64 n, .int .i64 r] 3)) w1) := HG.out.trans g1
          clear q1 g1 cx hnw
          go_wp2
          go_roundg (2 - (j + 1))
          case measure => have := HJ.out; omega
          case rel => exact ⟨j + 1, rfl, HJ.out.1, by go_num, HG1.out⟩
    · have hlt' : ¬ (j : Int) < 2 := by omega
      have HG : Hid (Grow w wr) := ((Grow.refl w).alloc _).trans hg0
      clear hlt hk hg0
      go_wp2_with fail
      refine (lives_any wr).mono ?_
      rintro e w5 ⟨rfl, g5⟩
      go_wp2
      go_ret
      exact ⟨rfl, HG.out.trans g5⟩
end Go.Proofs.Ytfbhngmolifkaaa
