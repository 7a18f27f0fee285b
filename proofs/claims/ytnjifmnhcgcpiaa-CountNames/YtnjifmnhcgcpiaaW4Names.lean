/-
  The walk of the law CountNames. Conditions: each theorem's own.
-/
import Derived.Test.YtnjifmnhcgcpiaaW4Gets
namespace Go.Proofs.Ytnjifmnhcgcpiaa
open Go.RowKit
set_option linter.unusedVariables false
set_option linter.unusedSimpArgs false

/-- the row of all names -/
def namesRow : Array Value := #[.string ⟨#[104, 105, 116, 115]⟩, .string ⟨#[109, 105, 115, 115, 101, 115]⟩, .string ⟨#[101, 118, 105, 99, 116, 115]⟩, .string ⟨#[114, 101, 97, 100, 115]⟩, .string ⟨#[119, 114, 105, 116, 101, 115]⟩, .string ⟨#[102, 97, 105, 108, 115]⟩]
theorem namesRow_at (j : Nat) (h : j < 6) : namesRow[j]? = some (.string (nameB (j : Int))) := by
  have hj : j = 0 ∨ j = 1 ∨ j = 2 ∨ j = 3 ∨ j = 4 ∨ j = 5 := by omega
  rcases hj with rfl | rfl | rfl | rfl | rfl | rfl <;> rfl
theorem nameB_in {k : Int} (h : 0 ≤ k ∧ k < 6) : (nameB k).toList.isEmpty = false := by
  rcases kinds h with rfl | rfl | rfl | rfl | rfl | rfl <;> decide +kernel

set_option maxHeartbeats 4000000 in
theorem countNames_walk (n : Int) (w : World) :
    Calls Try.prog 7 #[.int .i64 n] w fun e w' => e = .returned (.bool true) ∧ Below w.heap.size w w' := by
  have HI : Hid ((∀ j, j < 6 → (w.alloc (.cells namesRow 9)).cell? ⟨w.heap.size, j, none⟩ = some (.string (nameB (j : Int)))) ∧ Grow w (w.alloc (.cells namesRow 9))) :=
    ⟨fun j hj => (World.cell?_alloc_new w _ _ j).trans (namesRow_at j hj), (Grow.refl w).alloc _⟩
  unfold namesRow at HI
  go_enter Try.func7, Try.ntmps7
  go_wp2
  obtain ⟨w1, hw1⟩ : ∃ w1, w1 = w.alloc (.cells #[.string ⟨#[104, 105, 116, 115]⟩, .string ⟨#[109, 105, 115, 115, 101, 115]⟩, .string ⟨#[101, 118, 105, 99, 116, 115]⟩, .string ⟨#[114, 101, 97, 100, 115]⟩, .string ⟨#[119, 114, 105, 116, 101, 115]⟩, .string ⟨#[102, 97, 105, 108, 115]⟩] 9) := ⟨_, rfl⟩
  rw [← hw1] at HI ⊢
  clear hw1
  generalize w.heap.size = b at HI ⊢
  go_loopg [4] 6 (fun m i wr => ∃ j : Nat, m = 6 - j ∧ j ≤ 6 ∧ i = .int .i64 j ∧ Hid ((∀ j : Nat, j < 6 → wr.cell? ⟨b, j, none⟩ = some (.string (nameB (j : Int)))) ∧ Grow w wr))
  case atStart => exact ⟨0, rfl, by omega, rfl, HI⟩
  case round =>
    obtain ⟨j, hk, hj, rfl, X⟩ := hrel
    by_cases hlt : j < 6
    · have hle : (j : Int) < 6 := by omega
      have HL : Hid (j < 6 ∧ gk = 6 - j) := ⟨hlt, hk⟩
      have hf : ∀ w', Grow wr.drew w' → w'.cell? ⟨b, j, none⟩ = some (.string (nameB (j : Int))) := fun w' hG => by
        have h0 := X.out.1 j hlt
        rw [Below.cell (p := ⟨b, j, none⟩) ((Grow.refl wr).drew.trans hG) (World.block_lt_of_cell? _ _ h0)]
        exact h0
      have hnm := fun w' => name_any (j : Int) w'
      generalize nameB (j : Int) = B at hf hnm
      clear hlt hk hj
      go_wp2
      refine wp_region_sched (by kernel_rfl) [(0, false), (2, false), (3, false), (4, false), (5, false), (1, true), (6, false)] (by kernel_rfl) (by kernel_rfl) rfl (fun _ _ d _ _ h => by cases d <;> exact h) ?_
      simp only [inOrder, List.filterMap_cons, List.filterMap_nil, List.getElem?_toArray, List.getElem?_cons_zero, List.getElem?_cons_succ, Option.map_some]
      repeat (first
        | (refine wpS_move rfl ?_; simp only [Act.eval, Act.put, Array.getD_eq_getD_getElem?, List.getElem?_toArray, List.getElem?_cons_zero, List.getElem?_cons_succ, Option.getD_some, List.setIfInBounds_toArray, List.set_cons_zero, List.set_cons_succ])
        | (refine wpS_assign rfl ?_; simp only [Act.eval, Act.put, Array.getD_eq_getD_getElem?, List.getElem?_toArray, List.getElem?_cons_zero, List.getElem?_cons_succ, Option.getD_some, List.setIfInBounds_toArray, List.set_cons_zero, List.set_cons_succ])
        | (refine wpS_read (v := ?_) rfl ?_ ?_; rotate_left; (focus (intro w' hG; go_simp; try (with_reducible rfl))); simp only [Act.put, List.setIfInBounds_toArray, List.set_cons_zero, List.set_cons_succ]))
      refine wpS_call (f := ?_) (args := ?_) (by rfl) ?_ ?_
      rotate_left 2; focus (go_simp; constructor <;> with_reducible rfl)
      refine (hnm wr.drew).mono ?_
      rintro e w0 ⟨rfl, rfl⟩
      refine ⟨_, rfl, Grow.refl _, ?_⟩
      simp only [Act.put, List.setIfInBounds_toArray, List.set_cons_zero, List.set_cons_succ]
      repeat (first
        | (refine wpS_move rfl ?_; simp only [Act.eval, Act.put, Array.getD_eq_getD_getElem?, List.getElem?_toArray, List.getElem?_cons_zero, List.getElem?_cons_succ, Option.getD_some, List.setIfInBounds_toArray, List.set_cons_zero, List.set_cons_succ])
        | (refine wpS_assign rfl ?_; simp only [Act.eval, Act.put, Array.getD_eq_getD_getElem?, List.getElem?_toArray, List.getElem?_cons_zero, List.getElem?_cons_succ, Option.getD_some, List.setIfInBounds_toArray, List.set_cons_zero, List.set_cons_succ])
        | (refine wpS_read (v := ?_) rfl ?_ ?_; rotate_left; (focus (intro w' hG; go_simp; try (with_reducible rfl))); simp only [Act.put, List.setIfInBounds_toArray, List.set_cons_zero, List.set_cons_succ]))
      refine wpS_nil ?_
      go_wp2
      have XE : Hid ((∀ j : Nat, j < 6 → wr.drew.cell? ⟨b, j, none⟩ = some (.string (nameB (j : Int)))) ∧ Grow w wr.drew) := ⟨X.out.1, X.out.2.drew⟩
      go_roundg (6 - (j + 1))
      case measure => have := HL.out; omega
      case rel => exact ⟨j + 1, rfl, HL.out.1, by go_num, XE⟩
    · have hle : ¬ (j : Int) < 6 := by omega
      have HG : Hid (Grow w wr) := X.out.2
      clear hlt hk hj X
      have h1 := fun w' => name_any (-1) w'
      have h6 := fun w' => name_any 6 w'
      rw [nameB_none (by omega)] at h1 h6
      have hn := fun w' => name_any n w'
      by_cases h : 0 ≤ n ∧ n < 6
      · have he := nameB_in h
        obtain ⟨hn0, hn6⟩ := h
        generalize nameB n = B at hn he
        go_wp2_with fail
        refine (hn wr).mono ?_
        rintro e w0 ⟨rfl, rfl⟩
        go_wp2_with fail
        refine (h1 wr).mono ?_
        rintro e w0 ⟨rfl, rfl⟩
        go_wp2_with fail
        refine (h6 wr).mono ?_
        rintro e w0 ⟨rfl, rfl⟩
        go_wp2_with fail
        refine (lives_any wr).mono ?_
        rintro e w7 ⟨rfl, g7⟩
        go_wp2
        go_ret
        exact ⟨rfl, HG.out.trans g7⟩
      · rw [nameB_none h] at hn
        by_cases h0 : 0 ≤ n
        · have hn6 : ¬ n < 6 := by omega
          clear h
          go_wp2_with fail
          refine (hn wr).mono ?_
          rintro e w0 ⟨rfl, rfl⟩
          go_wp2_with fail
          refine (h1 wr).mono ?_
          rintro e w0 ⟨rfl, rfl⟩
          go_wp2_with fail
          refine (h6 wr).mono ?_
          rintro e w0 ⟨rfl, rfl⟩
          go_wp2_with fail
          refine (lives_any wr).mono ?_
          rintro e w7 ⟨rfl, g7⟩
          go_wp2
          go_ret
          exact ⟨rfl, HG.out.trans g7⟩
        · clear h
          go_wp2_with fail
          refine (hn wr).mono ?_
          rintro e w0 ⟨rfl, rfl⟩
          go_wp2_with fail
          refine (h1 wr).mono ?_
          rintro e w0 ⟨rfl, rfl⟩
          go_wp2_with fail
          refine (h6 wr).mono ?_
          rintro e w0 ⟨rfl, rfl⟩
          go_wp2_with fail
          refine (lives_any wr).mono ?_
          rintro e w7 ⟨rfl, g7⟩
          go_wp2
          go_ret
          exact ⟨rfl, HG.out.trans g7⟩
end Go.Proofs.Ytnjifmnhcgcpiaa
