/-
  The walk of the law CountGets. Conditions: each theorem's own.
-/
import Derived.Test.YtnjifmnhcgcpiaaW4Adds
namespace Go.Proofs.Ytnjifmnhcgcpiaa
open Go.RowKit
set_option linter.unusedVariables false
set_option linter.unusedSimpArgs false

set_option maxHeartbeats 4000000 in
theorem countGets_walk (c : C6) (kind n : Int) (w : World) (hc : c.Ok) (hn : U n) (hk : (Lit.int .i64 kind).wf = true) :
    Calls Try.prog 8 #[.agg #[.int .u64 c.c0, .int .u64 c.c1, .int .u64 c.c2, .int .u64 c.c3, .int .u64 c.c4, .int .u64 c.c5], .int .i64 kind, .int .u64 n] w fun e w' => e = .returned (.bool true) ∧ Below w.heap.size w w' := by
  have HC : Hid (c.Ok ∧ U n) := ⟨hc, hn⟩
  clear hc hn
  have har := fun w' => around_any kind 6 w' hk (by omega) (by omega)
  have hbd := around_bd kind 6 (by omega)
  generalize around kind 6 = K at har hbd
  have HK : Hid (0 ≤ K ∧ K < 6) := hbd
  clear hbd hk
  have HI : Hid (CAt (w.alloc (.cells #[.int .u64 c.c0, .int .u64 c.c1, .int .u64 c.c2, .int .u64 c.c3, .int .u64 c.c4, .int .u64 c.c5] 24)) w.heap.size c ∧ Grow w (w.alloc (.cells #[.int .u64 c.c0, .int .u64 c.c1, .int .u64 c.c2, .int .u64 c.c3, .int .u64 c.c4, .int .u64 c.c5] 24))) := ⟨CAt.new w c _, (Grow.refl w).alloc _⟩
  go_enter Try.func8, Try.ntmps8
  go_wp2_with fail
  generalize w.alloc (.cells #[.int .u64 c.c0, .int .u64 c.c1, .int .u64 c.c2, .int .u64 c.c3, .int .u64 c.c4, .int .u64 c.c5] 24) = w1 at HI ⊢
  obtain ⟨b, hb⟩ : ∃ b, b = w.heap.size := ⟨_, rfl⟩
  rw [← hb] at HI ⊢
  clear hb
  refine (har w1).mono ?_
  rintro e w0 ⟨rfl, rfl⟩
  clear har
  obtain ⟨⟨k0, k1, k2, k3, k4, k5⟩, -⟩ := HI.out.1
  go_wp2_with fail
  refine (cadd_any c K n w1 HC.out.1 HC.out.2).mono ?_
  rintro e w2 ⟨rfl, g2⟩
  clear k0 k1 k2 k3 k4 k5
  obtain ⟨D, hD⟩ : ∃ D, D = addC c K n := ⟨_, rfl⟩
  rw [← hD]
  have HD : Hid (D = addC c K n) := hD
  clear hD
  have X2 : Hid (CAt (w2.alloc (.cells #[.int .u64 D.c0, .int .u64 D.c1, .int .u64 D.c2, .int .u64 D.c3, .int .u64 D.c4, .int .u64 D.c5] 24)) b c ∧ CAt (w2.alloc (.cells #[.int .u64 D.c0, .int .u64 D.c1, .int .u64 D.c2, .int .u64 D.c3, .int .u64 D.c4, .int .u64 D.c5] 24)) w2.heap.size D ∧ Grow w (w2.alloc (.cells #[.int .u64 D.c0, .int .u64 D.c1, .int .u64 D.c2, .int .u64 D.c3, .int .u64 D.c4, .int .u64 D.c5] 24))) :=
    ⟨HI.out.1.grow (g2.alloc _), CAt.new w2 D _, HI.out.2.trans (g2.alloc _)⟩
  clear g2 HI
  go_wp2
  generalize w2.alloc (.cells #[.int .u64 D.c0, .int .u64 D.c1, .int .u64 D.c2, .int .u64 D.c3, .int .u64 D.c4, .int .u64 D.c5] 24) = w3 at X2 ⊢
  generalize w2.heap.size = bx at X2 ⊢
  clear w2 w1
  go_loopg [9] 6 (fun m i wr => ∃ j : Nat, m = 6 - j ∧ j ≤ 6 ∧ i = .int .i64 j ∧ Hid (CAt wr b c ∧ CAt wr bx D ∧ Grow w wr))
  case atStart => exact ⟨0, rfl, by omega, rfl, X2⟩
  case round =>
    obtain ⟨j, hk, hj, rfl, X⟩ := hrel
    by_cases hlt : j < 6
    · have hle : (j : Int) < 6 := by omega
      have HL : Hid (j < 6 ∧ gk = 6 - j) := ⟨hlt, hk⟩
      have hG : getC D (j : Int) = if (j : Int) = K then tog (getC c j) n else getC c j := by
        rw [HD.out]; exact getC_addC (by omega)
      have hGu : U (getC c (j : Int)) := getC_u HC.out.1
      have hcg1 := fun w' => cget_any c (j : Int) w'
      have hcg2 := fun w' => cget_any D (j : Int) w'
      generalize getC c (j : Int) = A at hG hGu hcg1
      generalize getC D (j : Int) = B at hG hcg2
      generalize isK (j : Int) = I at hcg1 hcg2
      clear hlt hk hj
      by_cases hjk : (j : Int) = K
      · rw [if_pos hjk] at hG
        have hq : ((j : Int) == K) = true := by simp [hjk]
        have HU : Hid (U A) := hGu
        clear hjk hGu
        subst hG
        obtain ⟨⟨k0, k1, k2, k3, k4, k5⟩, -⟩ := X.out.1
        go_wp2_with fail
        refine (hcg1 wr).mono ?_
        rintro e w4 ⟨rfl, g4⟩
        clear k0 k1 k2 k3 k4 k5 hcg1
        have X4 : Hid (CAt w4 b c ∧ CAt w4 bx D ∧ Grow w w4) := ⟨X.out.1.grow g4, X.out.2.1.grow g4, X.out.2.2.trans g4⟩
        clear g4
        obtain ⟨⟨k0, k1, k2, k3, k4, k5⟩, -⟩ := X4.out.2.1
        go_wp2_with fail
        refine (hcg2 w4).mono ?_
        rintro e w5 ⟨rfl, g5⟩
        clear k0 k1 k2 k3 k4 k5 hcg2
        have X5 : Hid (CAt w5 b c ∧ CAt w5 bx D ∧ Grow w w5) := ⟨X4.out.1.grow g5, X4.out.2.1.grow g5, X4.out.2.2.trans g5⟩
        clear X4 g5
        go_wp2_with fail
        refine (rtog_any A n w5 HU.out HC.out.2).mono ?_
        rintro e w0 ⟨rfl, rfl⟩
        go_wp2
        go_roundg (6 - (j + 1))
        case measure => have := HL.out; omega
        case rel => exact ⟨j + 1, rfl, HL.out.1, by go_num, X5⟩
      · rw [if_neg hjk] at hG
        have hq : ((j : Int) == K) = false := by simp [hjk]
        clear hjk hGu
        subst hG
        obtain ⟨⟨k0, k1, k2, k3, k4, k5⟩, -⟩ := X.out.1
        go_wp2_with fail
        refine (hcg1 wr).mono ?_
        rintro e w4 ⟨rfl, g4⟩
        clear k0 k1 k2 k3 k4 k5 hcg1
        have X4 : Hid (CAt w4 b c ∧ CAt w4 bx D ∧ Grow w w4) := ⟨X.out.1.grow g4, X.out.2.1.grow g4, X.out.2.2.trans g4⟩
        clear g4
        obtain ⟨⟨k0, k1, k2, k3, k4, k5⟩, -⟩ := X4.out.2.1
        go_wp2_with fail
        refine (hcg2 w4).mono ?_
        rintro e w5 ⟨rfl, g5⟩
        clear k0 k1 k2 k3 k4 k5 hcg2
        have X5 : Hid (CAt w5 b c ∧ CAt w5 bx D ∧ Grow w w5) := ⟨X4.out.1.grow g5, X4.out.2.1.grow g5, X4.out.2.2.trans g5⟩
        clear X4 g5
        go_wp2
        go_roundg (6 - (j + 1))
        case measure => have := HL.out; omega
        case rel => exact ⟨j + 1, rfl, HL.out.1, by go_num, X5⟩
    · have hle : ¬ (j : Int) < 6 := by omega
      clear hlt hk hj
      go_wp2
      have kb : ∀ w', Grow wr.drew w' → CAt w' b c := fun w' h => X.out.1.grow ((Grow.refl wr).drew.trans h)
      have hz := fun w' => cadd_any c K 0 w' HC.out.1 ⟨by omega, by omega⟩
      rw [addC_zero HC.out.1] at hz
      refine wp_region_sched (by kernel_rfl) [(0, false), (1, false), (3, false), (2, true), (4, false), (5, false), (6, true), (7, false), (8, false)] (by kernel_rfl) (by kernel_rfl) rfl (fun _ _ d _ _ h => by cases d <;> exact h) ?_
      simp only [inOrder, List.filterMap_cons, List.filterMap_nil, List.getElem?_toArray, List.getElem?_cons_zero, List.getElem?_cons_succ, Option.map_some]
      refine wpS_read (v := .agg #[.int .u64 c.c0, .int .u64 c.c1, .int .u64 c.c2, .int .u64 c.c3, .int .u64 c.c4, .int .u64 c.c5]) rfl (fun w' hG => exec_loadC rfl rfl (kb w' hG)) ?_
      simp only [Act.put, List.setIfInBounds_toArray, List.set_cons_zero, List.set_cons_succ]
      refine wpS_move rfl ?_
      simp only [Act.eval, Act.put, Array.getD_eq_getD_getElem?, List.getElem?_toArray, List.getElem?_cons_zero, List.getElem?_cons_succ, Option.getD_some, List.setIfInBounds_toArray, List.set_cons_zero, List.set_cons_succ]
      refine wpS_read (v := .agg #[.int .u64 c.c0, .int .u64 c.c1, .int .u64 c.c2, .int .u64 c.c3, .int .u64 c.c4, .int .u64 c.c5]) rfl (fun w' hG => exec_loadC rfl rfl (kb w' hG)) ?_
      simp only [Act.put, List.setIfInBounds_toArray, List.set_cons_zero, List.set_cons_succ]
      refine wpS_call (f := ?_) (args := ?_) (by rfl) ?_ ?_
      rotate_left 2; focus (go_simp; constructor <;> with_reducible rfl)
      refine (hz wr.drew).mono ?_
      rintro e w6 ⟨rfl, g6⟩
      refine ⟨_, rfl, g6, ?_⟩
      simp only [Act.put, List.setIfInBounds_toArray, List.set_cons_zero, List.set_cons_succ]
      repeat (first
        | (refine wpS_move rfl ?_; simp only [Act.eval, Act.put, Array.getD_eq_getD_getElem?, List.getElem?_toArray, List.getElem?_cons_zero, List.getElem?_cons_succ, Option.getD_some, List.setIfInBounds_toArray, List.set_cons_zero, List.set_cons_succ])
        | (refine wpS_assign rfl ?_; simp only [Act.eval, Act.put, Array.getD_eq_getD_getElem?, List.getElem?_toArray, List.getElem?_cons_zero, List.getElem?_cons_succ, Option.getD_some, List.setIfInBounds_toArray, List.set_cons_zero, List.set_cons_succ])
        | (refine wpS_read (v := ?_) rfl ?_ ?_; rotate_left; (focus (intro w' hG; go_simp; try (with_reducible rfl))); simp only [Act.put, List.setIfInBounds_toArray, List.set_cons_zero, List.set_cons_succ])
        | (refine wpS_skip rfl ?_; simp only [Act.put, List.setIfInBounds_toArray, List.set_cons_zero, List.set_cons_succ]))
      refine wpS_call (f := ?_) (args := ?_) (by rfl) ?_ ?_
      rotate_left 2; focus (go_simp; constructor <;> with_reducible rfl)
      refine (lives_any w6).mono ?_
      rintro e w7 ⟨rfl, g7⟩
      refine ⟨_, rfl, g7, ?_⟩
      simp only [Act.put, List.setIfInBounds_toArray, List.set_cons_zero, List.set_cons_succ]
      repeat (first
        | (refine wpS_move rfl ?_; simp only [Act.eval, Act.put, Array.getD_eq_getD_getElem?, List.getElem?_toArray, List.getElem?_cons_zero, List.getElem?_cons_succ, Option.getD_some, List.setIfInBounds_toArray, List.set_cons_zero, List.set_cons_succ])
        | (refine wpS_assign rfl ?_; simp only [Act.eval, Act.put, Array.getD_eq_getD_getElem?, List.getElem?_toArray, List.getElem?_cons_zero, List.getElem?_cons_succ, Option.getD_some, List.setIfInBounds_toArray, List.set_cons_zero, List.set_cons_succ])
        | (refine wpS_read (v := ?_) rfl ?_ ?_; rotate_left; (focus (intro w' hG; go_simp; try (with_reducible rfl))); simp only [Act.put, List.setIfInBounds_toArray, List.set_cons_zero, List.set_cons_succ])
        | (refine wpS_skip rfl ?_; simp only [Act.put, List.setIfInBounds_toArray, List.set_cons_zero, List.set_cons_succ]))
      refine wpS_nil ?_
      go_wp2
      go_ret
      exact ⟨rfl, ((X.out.2.2.trans (Grow.refl wr).drew).trans g6).trans g7⟩
end Go.Proofs.Ytnjifmnhcgcpiaa
