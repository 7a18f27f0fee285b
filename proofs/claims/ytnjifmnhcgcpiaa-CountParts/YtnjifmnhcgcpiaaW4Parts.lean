/-
  The walk of the law CountParts. Conditions: each theorem's own.
-/
import Derived.Test.YtnjifmnhcgcpiaaCntSum
namespace Go.Proofs.Ytnjifmnhcgcpiaa
open Go.RowKit
set_option linter.unusedVariables false
set_option linter.unusedSimpArgs false

/-- a new slice of two counts -/
theorem exec_two {w : World} {a : Act} {o : Oper} {x y : Operand} {c d : C6} (ho : o.op = .buildSlice 30 2 #[(0, x), (1, y)]) (hx : a.eval x = .agg #[.int .u64 c.c0, .int .u64 c.c1, .int .u64 c.c2, .int .u64 c.c3, .int .u64 c.c4, .int .u64 c.c5]) (hy : a.eval y = .agg #[.int .u64 d.c0, .int .u64 d.c1, .int .u64 d.c2, .int .u64 d.c3, .int .u64 d.c4, .int .u64 d.c5]) :
    (execOp a.eval o).run Try.prog w = .ok (.value (.slice (some ⟨w.heap.size, 0, none⟩) 2 2)) (w.alloc (.cells #[.int .u64 c.c0, .int .u64 c.c1, .int .u64 c.c2, .int .u64 c.c3, .int .u64 c.c4, .int .u64 c.c5, .int .u64 d.c0, .int .u64 d.c1, .int .u64 d.c2, .int .u64 d.c3, .int .u64 d.c4, .int .u64 d.c5] 24)) := by
  generalize a.eval = ev at hx hy ⊢
  simp only [execOp, ho, hx, hy, List.mapM_cons, Array.map, Array.toList]
  go_simp
theorem rdC_two (w : World) (c d : C6) : RdC (w.alloc (.cells #[.int .u64 c.c0, .int .u64 c.c1, .int .u64 c.c2, .int .u64 c.c3, .int .u64 c.c4, .int .u64 c.c5, .int .u64 d.c0, .int .u64 d.c1, .int .u64 d.c2, .int .u64 d.c3, .int .u64 d.c4, .int .u64 d.c5] 24)) (.slice (some ⟨w.heap.size, 0, none⟩) 2 2) [c, d] := by
  refine ⟨_, 2, rfl, by simp, by simp [maxLen], fun i hi => ⟨w.heap.size, 0, rfl, ?_⟩⟩
  have hj : i = 0 ∨ i = 1 := by simp at hi; omega
  rcases hj with rfl | rfl
  · refine ⟨?_, ?_, ?_, ?_, ?_, ?_⟩ <;> exact (World.cell?_alloc_new w _ _ _).trans rfl
  · refine ⟨?_, ?_, ?_, ?_, ?_, ?_⟩ <;> exact (World.cell?_alloc_new w _ _ _).trans rfl

set_option maxHeartbeats 4000000 in
theorem countParts_walk (v : Value) (cs : List C6) (at0 : Int) (w : World) (h : RdC w v cs) (hok : ∀ c ∈ cs, C6.Ok c) (hat : (Lit.int .i64 at0).wf = true) :
    Calls Try.prog 6 #[v, .int .i64 at0] w fun e w' => e = .returned (.bool true) ∧ Below w.heap.size w w' := by
  obtain ⟨a, cp, rfl, h1, h2, -⟩ := id h
  unfold maxLen at h2
  by_cases hle : cs.length ≤ 8
  · have hle' : (cs.length : Int) ≤ 8 := by omega
    have hmin : min (cs.length : Int) 8 = (cs.length : Int) := by omega
    have hw : IntKind.i64.wrap ((cs.length : Int) + 1) = (cs.length : Int) + 1 := by rw [IntKind.wrap_i64]; omega
    have har := around_any at0 ((cs.length : Int) + 1) w hat (by omega) (by omega)
    have hbd := around_bd at0 ((cs.length : Int) + 1) (by omega)
    obtain ⟨Kn, hK⟩ := Int.eq_ofNat_of_zero_le hbd.1
    rw [hK] at har hbd
    clear hK hat
    have hKl : Kn ≤ cs.length := by omega
    have hKl1 : (Kn : Int) ≤ (cs.length : Int) := by omega
    have hKc : (Kn : Int) ≤ (cp : Int) := by omega
    have hs1 := fun w' (g : Grow w w') => csum_any _ (cs.take Kn) w' ((h.take Kn hKl).grow g) (fun c hc => hok c (List.mem_of_mem_take hc)) (by rw [List.length_take]; omega)
    have hs2 := fun w' (g : Grow w w') => csum_any _ (cs.drop Kn) w' ((h.drop Kn hKl).grow g) (fun c hc => hok c (List.mem_of_mem_drop hc)) (by rw [List.length_drop]; omega)
    have hs4 := fun w' (g : Grow w w') => csum_any _ cs w' (h.grow g) hok (by omega)
    have hS1 : (sumC (cs.take Kn)).Ok := sumC_ok (fun c hc => hok c (List.mem_of_mem_take hc))
    have hS2 : (sumC (cs.drop Kn)).Ok := sumC_ok (fun c hc => hok c (List.mem_of_mem_drop hc))
    have hp : sumC [sumC (cs.take Kn), sumC (cs.drop Kn)] = sumC cs := by
      rw [sumC_parts (fun c hc => hok c (List.mem_of_mem_take hc)) (fun c hc => hok c (List.mem_of_mem_drop hc)), List.take_append_drop]
    generalize sumC (cs.take Kn) = S1 at hs1 hS1 hp
    generalize sumC (cs.drop Kn) = S2 at hs2 hS2 hp
    generalize sumC cs = D at hs4 hp
    have hs3 := fun w' (g : RdC w' (.slice (some ⟨w'.heap.size - 1, 0, none⟩) 2 2) [S1, S2]) => csum_any _ [S1, S2] w' g (fun c hc => by simp at hc; rcases hc with rfl | rfl <;> assumption) (by simp)
    rw [hp] at hs3
    clear h hok hS1 hS2 hp hbd hKl
    by_cases hcj : cp = Kn
    · rw [if_pos hcj] at hs2
      have hOl : cs.length = cp := by omega
      subst hcj
      rw [Nat.sub_self, show cs.length - cp = 0 by omega] at hs2
      clear hOl
      go_enter Try.func6, Try.ntmps6
      go_wp2_with fail
      refine har.mono ?_
      rintro e w0 ⟨rfl, rfl⟩
      go_wp2
      refine wp_region_sched (by kernel_rfl) [(0, false), (1, false), (2, false), (4, false), (5, false), (6, false), (10, false), (3, true), (7, true), (8, true), (9, true), (11, true), (12, false), (13, false), (14, true), (15, false), (16, false)] (by kernel_rfl) (by kernel_rfl) rfl (fun _ _ d _ _ h => by cases d <;> exact h) ?_
      simp only [inOrder, List.filterMap_cons, List.filterMap_nil, List.getElem?_toArray, List.getElem?_cons_zero, List.getElem?_cons_succ, Option.map_some]
      repeat (first
        | (refine wpS_move rfl ?_; simp only [Act.eval, Act.put, Array.getD_eq_getD_getElem?, List.getElem?_toArray, List.getElem?_cons_zero, List.getElem?_cons_succ, Option.getD_some, List.setIfInBounds_toArray, List.set_cons_zero, List.set_cons_succ])
        | (refine wpS_assign rfl ?_; simp only [Act.eval, Act.put, Array.getD_eq_getD_getElem?, List.getElem?_toArray, List.getElem?_cons_zero, List.getElem?_cons_succ, Option.getD_some, List.setIfInBounds_toArray, List.set_cons_zero, List.set_cons_succ])
        | (refine wpS_read (v := ?_) rfl ?_ ?_; rotate_left; (focus (intro w' hG; go_simp; try (with_reducible rfl))); simp only [Act.put, List.setIfInBounds_toArray, List.set_cons_zero, List.set_cons_succ]))
      refine wpS_call (f := ?_) (args := ?_) (by rfl) ?_ ?_
      rotate_left 2; focus (go_simp; constructor <;> with_reducible rfl)
      refine (hs1 w.drew (Grow.refl w).drew).mono ?_
      rintro e w1 ⟨rfl, g1⟩
      refine ⟨_, rfl, g1, ?_⟩
      simp only [Act.put, List.setIfInBounds_toArray, List.set_cons_zero, List.set_cons_succ]
      repeat (first
        | (refine wpS_move rfl ?_; simp only [Act.eval, Act.put, Array.getD_eq_getD_getElem?, List.getElem?_toArray, List.getElem?_cons_zero, List.getElem?_cons_succ, Option.getD_some, List.setIfInBounds_toArray, List.set_cons_zero, List.set_cons_succ])
        | (refine wpS_assign rfl ?_; simp only [Act.eval, Act.put, Array.getD_eq_getD_getElem?, List.getElem?_toArray, List.getElem?_cons_zero, List.getElem?_cons_succ, Option.getD_some, List.setIfInBounds_toArray, List.set_cons_zero, List.set_cons_succ])
        | (refine wpS_read (v := ?_) rfl ?_ ?_; rotate_left; (focus (intro w' hG; go_simp; try (with_reducible rfl))); simp only [Act.put, List.setIfInBounds_toArray, List.set_cons_zero, List.set_cons_succ]))
      refine wpS_call (f := ?_) (args := ?_) (by rfl) ?_ ?_
      rotate_left 2; focus (go_simp; constructor <;> with_reducible rfl)
      refine (hs2 w1 ((Grow.refl w).drew.trans g1)).mono ?_
      rintro e w2 ⟨rfl, g2⟩
      refine ⟨_, rfl, g2, ?_⟩
      simp only [Act.put, List.setIfInBounds_toArray, List.set_cons_zero, List.set_cons_succ]
      repeat (first
        | (refine wpS_move rfl ?_; simp only [Act.eval, Act.put, Array.getD_eq_getD_getElem?, List.getElem?_toArray, List.getElem?_cons_zero, List.getElem?_cons_succ, Option.getD_some, List.setIfInBounds_toArray, List.set_cons_zero, List.set_cons_succ])
        | (refine wpS_assign rfl ?_; simp only [Act.eval, Act.put, Array.getD_eq_getD_getElem?, List.getElem?_toArray, List.getElem?_cons_zero, List.getElem?_cons_succ, Option.getD_some, List.setIfInBounds_toArray, List.set_cons_zero, List.set_cons_succ])
        | (refine wpS_read (v := ?_) rfl ?_ ?_; rotate_left; (focus (intro w' hG; go_simp; try (with_reducible rfl))); simp only [Act.put, List.setIfInBounds_toArray, List.set_cons_zero, List.set_cons_succ]))
      refine wpS_act rfl (exec_two (c := S1) (d := S2) rfl rfl rfl) ((Grow.refl w2).alloc _) ?_
      simp only [Act.put, List.setIfInBounds_toArray, List.set_cons_zero, List.set_cons_succ]
      have hr3 := rdC_two w2 S1 S2
      have g3 : Grow w2 (w2.alloc (.cells #[.int .u64 S1.c0, .int .u64 S1.c1, .int .u64 S1.c2, .int .u64 S1.c3, .int .u64 S1.c4, .int .u64 S1.c5, .int .u64 S2.c0, .int .u64 S2.c1, .int .u64 S2.c2, .int .u64 S2.c3, .int .u64 S2.c4, .int .u64 S2.c5] 24)) := (Grow.refl w2).alloc _
      have hb3 : (w2.alloc (.cells #[.int .u64 S1.c0, .int .u64 S1.c1, .int .u64 S1.c2, .int .u64 S1.c3, .int .u64 S1.c4, .int .u64 S1.c5, .int .u64 S2.c0, .int .u64 S2.c1, .int .u64 S2.c2, .int .u64 S2.c3, .int .u64 S2.c4, .int .u64 S2.c5] 24)).heap.size - 1 = w2.heap.size := by rw [World.size_alloc]; omega
      rw [← hb3] at hr3 ⊢
      have hs3' := hs3 _ hr3
      clear hb3 hr3
      generalize w2.alloc (.cells #[.int .u64 S1.c0, .int .u64 S1.c1, .int .u64 S1.c2, .int .u64 S1.c3, .int .u64 S1.c4, .int .u64 S1.c5, .int .u64 S2.c0, .int .u64 S2.c1, .int .u64 S2.c2, .int .u64 S2.c3, .int .u64 S2.c4, .int .u64 S2.c5] 24) = w3 at g3 hs3' ⊢
      repeat (first
        | (refine wpS_move rfl ?_; simp only [Act.eval, Act.put, Array.getD_eq_getD_getElem?, List.getElem?_toArray, List.getElem?_cons_zero, List.getElem?_cons_succ, Option.getD_some, List.setIfInBounds_toArray, List.set_cons_zero, List.set_cons_succ])
        | (refine wpS_assign rfl ?_; simp only [Act.eval, Act.put, Array.getD_eq_getD_getElem?, List.getElem?_toArray, List.getElem?_cons_zero, List.getElem?_cons_succ, Option.getD_some, List.setIfInBounds_toArray, List.set_cons_zero, List.set_cons_succ])
        | (refine wpS_read (v := ?_) rfl ?_ ?_; rotate_left; (focus (intro w' hG; go_simp; try (with_reducible rfl))); simp only [Act.put, List.setIfInBounds_toArray, List.set_cons_zero, List.set_cons_succ]))
      refine wpS_call (f := ?_) (args := ?_) (by rfl) ?_ ?_
      rotate_left 2; focus (go_simp; constructor <;> with_reducible rfl)
      refine (hs3').mono ?_
      rintro e w4 ⟨rfl, g4⟩
      refine ⟨_, rfl, g4, ?_⟩
      simp only [Act.put, List.setIfInBounds_toArray, List.set_cons_zero, List.set_cons_succ]
      repeat (first
        | (refine wpS_move rfl ?_; simp only [Act.eval, Act.put, Array.getD_eq_getD_getElem?, List.getElem?_toArray, List.getElem?_cons_zero, List.getElem?_cons_succ, Option.getD_some, List.setIfInBounds_toArray, List.set_cons_zero, List.set_cons_succ])
        | (refine wpS_assign rfl ?_; simp only [Act.eval, Act.put, Array.getD_eq_getD_getElem?, List.getElem?_toArray, List.getElem?_cons_zero, List.getElem?_cons_succ, Option.getD_some, List.setIfInBounds_toArray, List.set_cons_zero, List.set_cons_succ])
        | (refine wpS_read (v := ?_) rfl ?_ ?_; rotate_left; (focus (intro w' hG; go_simp; try (with_reducible rfl))); simp only [Act.put, List.setIfInBounds_toArray, List.set_cons_zero, List.set_cons_succ]))
      refine wpS_call (f := ?_) (args := ?_) (by rfl) ?_ ?_
      rotate_left 2; focus (go_simp; constructor <;> with_reducible rfl)
      refine (hs4 w4 (((((Grow.refl w).drew.trans g1).trans g2).trans g3).trans g4)).mono ?_
      rintro e w5 ⟨rfl, g5⟩
      refine ⟨_, rfl, g5, ?_⟩
      simp only [Act.put, List.setIfInBounds_toArray, List.set_cons_zero, List.set_cons_succ]
      repeat (first
        | (refine wpS_move rfl ?_; simp only [Act.eval, Act.put, Array.getD_eq_getD_getElem?, List.getElem?_toArray, List.getElem?_cons_zero, List.getElem?_cons_succ, Option.getD_some, List.setIfInBounds_toArray, List.set_cons_zero, List.set_cons_succ])
        | (refine wpS_assign rfl ?_; simp only [Act.eval, Act.put, Array.getD_eq_getD_getElem?, List.getElem?_toArray, List.getElem?_cons_zero, List.getElem?_cons_succ, Option.getD_some, List.setIfInBounds_toArray, List.set_cons_zero, List.set_cons_succ])
        | (refine wpS_read (v := ?_) rfl ?_ ?_; rotate_left; (focus (intro w' hG; go_simp; try (with_reducible rfl))); simp only [Act.put, List.setIfInBounds_toArray, List.set_cons_zero, List.set_cons_succ])
        | (refine wpS_skip rfl ?_; simp only [Act.put, List.setIfInBounds_toArray, List.set_cons_zero, List.set_cons_succ]))
      refine wpS_call (f := ?_) (args := ?_) (by rfl) ?_ ?_
      rotate_left 2; focus (go_simp; constructor <;> with_reducible rfl)
      refine (lives_any w5).mono ?_
      rintro e w6 ⟨rfl, g6⟩
      refine ⟨_, rfl, g6, ?_⟩
      simp only [Act.put, List.setIfInBounds_toArray, List.set_cons_zero, List.set_cons_succ]
      repeat (first
        | (refine wpS_move rfl ?_; simp only [Act.eval, Act.put, Array.getD_eq_getD_getElem?, List.getElem?_toArray, List.getElem?_cons_zero, List.getElem?_cons_succ, Option.getD_some, List.setIfInBounds_toArray, List.set_cons_zero, List.set_cons_succ])
        | (refine wpS_assign rfl ?_; simp only [Act.eval, Act.put, Array.getD_eq_getD_getElem?, List.getElem?_toArray, List.getElem?_cons_zero, List.getElem?_cons_succ, Option.getD_some, List.setIfInBounds_toArray, List.set_cons_zero, List.set_cons_succ])
        | (refine wpS_read (v := ?_) rfl ?_ ?_; rotate_left; (focus (intro w' hG; go_simp; try (with_reducible rfl))); simp only [Act.put, List.setIfInBounds_toArray, List.set_cons_zero, List.set_cons_succ])
        | (refine wpS_skip rfl ?_; simp only [Act.put, List.setIfInBounds_toArray, List.set_cons_zero, List.set_cons_succ]))
      refine wpS_nil ?_
      go_wp2
      go_ret
      exact ⟨rfl, ((((((Grow.refl w).drew.trans g1).trans g2).trans g3).trans g4).trans g5).trans g6⟩
    · rw [if_neg hcj] at hs2
      go_enter Try.func6, Try.ntmps6
      go_wp2_with fail
      refine har.mono ?_
      rintro e w0 ⟨rfl, rfl⟩
      go_wp2
      refine wp_region_sched (by kernel_rfl) [(0, false), (1, false), (2, false), (4, false), (5, false), (6, false), (10, false), (3, true), (7, true), (8, true), (9, true), (11, true), (12, false), (13, false), (14, true), (15, false), (16, false)] (by kernel_rfl) (by kernel_rfl) rfl (fun _ _ d _ _ h => by cases d <;> exact h) ?_
      simp only [inOrder, List.filterMap_cons, List.filterMap_nil, List.getElem?_toArray, List.getElem?_cons_zero, List.getElem?_cons_succ, Option.map_some]
      repeat (first
        | (refine wpS_move rfl ?_; simp only [Act.eval, Act.put, Array.getD_eq_getD_getElem?, List.getElem?_toArray, List.getElem?_cons_zero, List.getElem?_cons_succ, Option.getD_some, List.setIfInBounds_toArray, List.set_cons_zero, List.set_cons_succ])
        | (refine wpS_assign rfl ?_; simp only [Act.eval, Act.put, Array.getD_eq_getD_getElem?, List.getElem?_toArray, List.getElem?_cons_zero, List.getElem?_cons_succ, Option.getD_some, List.setIfInBounds_toArray, List.set_cons_zero, List.set_cons_succ])
        | (refine wpS_read (v := ?_) rfl ?_ ?_; rotate_left; (focus (intro w' hG; go_simp; try (with_reducible rfl))); simp only [Act.put, List.setIfInBounds_toArray, List.set_cons_zero, List.set_cons_succ]))
      refine wpS_call (f := ?_) (args := ?_) (by rfl) ?_ ?_
      rotate_left 2; focus (go_simp; constructor <;> with_reducible rfl)
      refine (hs1 w.drew (Grow.refl w).drew).mono ?_
      rintro e w1 ⟨rfl, g1⟩
      refine ⟨_, rfl, g1, ?_⟩
      simp only [Act.put, List.setIfInBounds_toArray, List.set_cons_zero, List.set_cons_succ]
      repeat (first
        | (refine wpS_move rfl ?_; simp only [Act.eval, Act.put, Array.getD_eq_getD_getElem?, List.getElem?_toArray, List.getElem?_cons_zero, List.getElem?_cons_succ, Option.getD_some, List.setIfInBounds_toArray, List.set_cons_zero, List.set_cons_succ])
        | (refine wpS_assign rfl ?_; simp only [Act.eval, Act.put, Array.getD_eq_getD_getElem?, List.getElem?_toArray, List.getElem?_cons_zero, List.getElem?_cons_succ, Option.getD_some, List.setIfInBounds_toArray, List.set_cons_zero, List.set_cons_succ])
        | (refine wpS_read (v := ?_) rfl ?_ ?_; rotate_left; (focus (intro w' hG; go_simp; try (with_reducible rfl))); simp only [Act.put, List.setIfInBounds_toArray, List.set_cons_zero, List.set_cons_succ]))
      refine wpS_call (f := ?_) (args := ?_) (by rfl) ?_ ?_
      rotate_left 2; focus (go_simp; constructor <;> with_reducible rfl)
      refine (hs2 w1 ((Grow.refl w).drew.trans g1)).mono ?_
      rintro e w2 ⟨rfl, g2⟩
      refine ⟨_, rfl, g2, ?_⟩
      simp only [Act.put, List.setIfInBounds_toArray, List.set_cons_zero, List.set_cons_succ]
      repeat (first
        | (refine wpS_move rfl ?_; simp only [Act.eval, Act.put, Array.getD_eq_getD_getElem?, List.getElem?_toArray, List.getElem?_cons_zero, List.getElem?_cons_succ, Option.getD_some, List.setIfInBounds_toArray, List.set_cons_zero, List.set_cons_succ])
        | (refine wpS_assign rfl ?_; simp only [Act.eval, Act.put, Array.getD_eq_getD_getElem?, List.getElem?_toArray, List.getElem?_cons_zero, List.getElem?_cons_succ, Option.getD_some, List.setIfInBounds_toArray, List.set_cons_zero, List.set_cons_succ])
        | (refine wpS_read (v := ?_) rfl ?_ ?_; rotate_left; (focus (intro w' hG; go_simp; try (with_reducible rfl))); simp only [Act.put, List.setIfInBounds_toArray, List.set_cons_zero, List.set_cons_succ]))
      refine wpS_act rfl (exec_two (c := S1) (d := S2) rfl rfl rfl) ((Grow.refl w2).alloc _) ?_
      simp only [Act.put, List.setIfInBounds_toArray, List.set_cons_zero, List.set_cons_succ]
      have hr3 := rdC_two w2 S1 S2
      have g3 : Grow w2 (w2.alloc (.cells #[.int .u64 S1.c0, .int .u64 S1.c1, .int .u64 S1.c2, .int .u64 S1.c3, .int .u64 S1.c4, .int .u64 S1.c5, .int .u64 S2.c0, .int .u64 S2.c1, .int .u64 S2.c2, .int .u64 S2.c3, .int .u64 S2.c4, .int .u64 S2.c5] 24)) := (Grow.refl w2).alloc _
      have hb3 : (w2.alloc (.cells #[.int .u64 S1.c0, .int .u64 S1.c1, .int .u64 S1.c2, .int .u64 S1.c3, .int .u64 S1.c4, .int .u64 S1.c5, .int .u64 S2.c0, .int .u64 S2.c1, .int .u64 S2.c2, .int .u64 S2.c3, .int .u64 S2.c4, .int .u64 S2.c5] 24)).heap.size - 1 = w2.heap.size := by rw [World.size_alloc]; omega
      rw [← hb3] at hr3 ⊢
      have hs3' := hs3 _ hr3
      clear hb3 hr3
      generalize w2.alloc (.cells #[.int .u64 S1.c0, .int .u64 S1.c1, .int .u64 S1.c2, .int .u64 S1.c3, .int .u64 S1.c4, .int .u64 S1.c5, .int .u64 S2.c0, .int .u64 S2.c1, .int .u64 S2.c2, .int .u64 S2.c3, .int .u64 S2.c4, .int .u64 S2.c5] 24) = w3 at g3 hs3' ⊢
      repeat (first
        | (refine wpS_move rfl ?_; simp only [Act.eval, Act.put, Array.getD_eq_getD_getElem?, List.getElem?_toArray, List.getElem?_cons_zero, List.getElem?_cons_succ, Option.getD_some, List.setIfInBounds_toArray, List.set_cons_zero, List.set_cons_succ])
        | (refine wpS_assign rfl ?_; simp only [Act.eval, Act.put, Array.getD_eq_getD_getElem?, List.getElem?_toArray, List.getElem?_cons_zero, List.getElem?_cons_succ, Option.getD_some, List.setIfInBounds_toArray, List.set_cons_zero, List.set_cons_succ])
        | (refine wpS_read (v := ?_) rfl ?_ ?_; rotate_left; (focus (intro w' hG; go_simp; try (with_reducible rfl))); simp only [Act.put, List.setIfInBounds_toArray, List.set_cons_zero, List.set_cons_succ]))
      refine wpS_call (f := ?_) (args := ?_) (by rfl) ?_ ?_
      rotate_left 2; focus (go_simp; constructor <;> with_reducible rfl)
      refine (hs3').mono ?_
      rintro e w4 ⟨rfl, g4⟩
      refine ⟨_, rfl, g4, ?_⟩
      simp only [Act.put, List.setIfInBounds_toArray, List.set_cons_zero, List.set_cons_succ]
      repeat (first
        | (refine wpS_move rfl ?_; simp only [Act.eval, Act.put, Array.getD_eq_getD_getElem?, List.getElem?_toArray, List.getElem?_cons_zero, List.getElem?_cons_succ, Option.getD_some, List.setIfInBounds_toArray, List.set_cons_zero, List.set_cons_succ])
        | (refine wpS_assign rfl ?_; simp only [Act.eval, Act.put, Array.getD_eq_getD_getElem?, List.getElem?_toArray, List.getElem?_cons_zero, List.getElem?_cons_succ, Option.getD_some, List.setIfInBounds_toArray, List.set_cons_zero, List.set_cons_succ])
        | (refine wpS_read (v := ?_) rfl ?_ ?_; rotate_left; (focus (intro w' hG; go_simp; try (with_reducible rfl))); simp only [Act.put, List.setIfInBounds_toArray, List.set_cons_zero, List.set_cons_succ]))
      refine wpS_call (f := ?_) (args := ?_) (by rfl) ?_ ?_
      rotate_left 2; focus (go_simp; constructor <;> with_reducible rfl)
      refine (hs4 w4 (((((Grow.refl w).drew.trans g1).trans g2).trans g3).trans g4)).mono ?_
      rintro e w5 ⟨rfl, g5⟩
      refine ⟨_, rfl, g5, ?_⟩
      simp only [Act.put, List.setIfInBounds_toArray, List.set_cons_zero, List.set_cons_succ]
      repeat (first
        | (refine wpS_move rfl ?_; simp only [Act.eval, Act.put, Array.getD_eq_getD_getElem?, List.getElem?_toArray, List.getElem?_cons_zero, List.getElem?_cons_succ, Option.getD_some, List.setIfInBounds_toArray, List.set_cons_zero, List.set_cons_succ])
        | (refine wpS_assign rfl ?_; simp only [Act.eval, Act.put, Array.getD_eq_getD_getElem?, List.getElem?_toArray, List.getElem?_cons_zero, List.getElem?_cons_succ, Option.getD_some, List.setIfInBounds_toArray, List.set_cons_zero, List.set_cons_succ])
        | (refine wpS_read (v := ?_) rfl ?_ ?_; rotate_left; (focus (intro w' hG; go_simp; try (with_reducible rfl))); simp only [Act.put, List.setIfInBounds_toArray, List.set_cons_zero, List.set_cons_succ])
        | (refine wpS_skip rfl ?_; simp only [Act.put, List.setIfInBounds_toArray, List.set_cons_zero, List.set_cons_succ]))
      refine wpS_call (f := ?_) (args := ?_) (by rfl) ?_ ?_
      rotate_left 2; focus (go_simp; constructor <;> with_reducible rfl)
      refine (lives_any w5).mono ?_
      rintro e w6 ⟨rfl, g6⟩
      refine ⟨_, rfl, g6, ?_⟩
      simp only [Act.put, List.setIfInBounds_toArray, List.set_cons_zero, List.set_cons_succ]
      repeat (first
        | (refine wpS_move rfl ?_; simp only [Act.eval, Act.put, Array.getD_eq_getD_getElem?, List.getElem?_toArray, List.getElem?_cons_zero, List.getElem?_cons_succ, Option.getD_some, List.setIfInBounds_toArray, List.set_cons_zero, List.set_cons_succ])
        | (refine wpS_assign rfl ?_; simp only [Act.eval, Act.put, Array.getD_eq_getD_getElem?, List.getElem?_toArray, List.getElem?_cons_zero, List.getElem?_cons_succ, Option.getD_some, List.setIfInBounds_toArray, List.set_cons_zero, List.set_cons_succ])
        | (refine wpS_read (v := ?_) rfl ?_ ?_; rotate_left; (focus (intro w' hG; go_simp; try (with_reducible rfl))); simp only [Act.put, List.setIfInBounds_toArray, List.set_cons_zero, List.set_cons_succ])
        | (refine wpS_skip rfl ?_; simp only [Act.put, List.setIfInBounds_toArray, List.set_cons_zero, List.set_cons_succ]))
      refine wpS_nil ?_
      go_wp2
      go_ret
      exact ⟨rfl, ((((((Grow.refl w).drew.trans g1).trans g2).trans g3).trans g4).trans g5).trans g6⟩
  · have hle' : ¬ (cs.length : Int) ≤ 8 := by omega
    have hlt' : (8 : Int) < (cs.length : Int) := by omega
    have hmin : min (cs.length : Int) 8 = 8 := by omega
    have h' := h.take 8 (by omega)
    have hok' : ∀ c ∈ cs.take 8, C6.Ok c := fun c hc => hok c (List.mem_of_mem_take hc)
    have hEl : (cs.take 8).length = 8 := by rw [List.length_take]; omega
    generalize cs.take 8 = E at h' hok' hEl
    have har := around_any at0 9 w hat (by omega) (by omega)
    have hbd := around_bd at0 9 (by omega)
    obtain ⟨Kn, hK⟩ := Int.eq_ofNat_of_zero_le hbd.1
    rw [hK] at har hbd
    clear hK hat
    have hKl : Kn ≤ E.length := by omega
    have hKl1 : (Kn : Int) ≤ 8 := by omega
    have hKc : (Kn : Int) ≤ (cp : Int) := by omega
    have hc8 : (8 : Int) ≤ (cp : Int) := by omega
    have hs1 := fun w' (g : Grow w w') => csum_any _ (E.take Kn) w' ((h'.take Kn hKl).grow g) (fun c hc => hok' c (List.mem_of_mem_take hc)) (by rw [List.length_take]; omega)
    have hs2 := fun w' (g : Grow w w') => csum_any _ (E.drop Kn) w' ((h'.drop Kn hKl).grow g) (fun c hc => hok' c (List.mem_of_mem_drop hc)) (by rw [List.length_drop]; omega)
    have hs4 := fun w' (g : Grow w w') => csum_any _ E w' (h'.grow g) hok' (by omega)
    have hS1 : (sumC (E.take Kn)).Ok := sumC_ok (fun c hc => hok' c (List.mem_of_mem_take hc))
    have hS2 : (sumC (E.drop Kn)).Ok := sumC_ok (fun c hc => hok' c (List.mem_of_mem_drop hc))
    have hp : sumC [sumC (E.take Kn), sumC (E.drop Kn)] = sumC E := by
      rw [sumC_parts (fun c hc => hok' c (List.mem_of_mem_take hc)) (fun c hc => hok' c (List.mem_of_mem_drop hc)), List.take_append_drop]
    generalize sumC (E.take Kn) = S1 at hs1 hS1 hp
    generalize sumC (E.drop Kn) = S2 at hs2 hS2 hp
    generalize sumC E = D at hs4 hp
    have hs3 := fun w' (g : RdC w' (.slice (some ⟨w'.heap.size - 1, 0, none⟩) 2 2) [S1, S2]) => csum_any _ [S1, S2] w' g (fun c hc => by simp at hc; rcases hc with rfl | rfl <;> assumption) (by simp)
    rw [hp] at hs3
    clear h hok hS1 hS2 hp hbd hKl h' hok'
    have hcj : ¬ cp = Kn := by omega
    rw [if_neg hcj] at hs2
    clear hEl E
    go_enter Try.func6, Try.ntmps6
    go_wp2_with fail
    refine har.mono ?_
    rintro e w0 ⟨rfl, rfl⟩
    go_wp2
    refine wp_region_sched (by kernel_rfl) [(0, false), (1, false), (2, false), (4, false), (5, false), (6, false), (10, false), (3, true), (7, true), (8, true), (9, true), (11, true), (12, false), (13, false), (14, true), (15, false), (16, false)] (by kernel_rfl) (by kernel_rfl) rfl (fun _ _ d _ _ h => by cases d <;> exact h) ?_
    simp only [inOrder, List.filterMap_cons, List.filterMap_nil, List.getElem?_toArray, List.getElem?_cons_zero, List.getElem?_cons_succ, Option.map_some]
    repeat (first
      | (refine wpS_move rfl ?_; simp only [Act.eval, Act.put, Array.getD_eq_getD_getElem?, List.getElem?_toArray, List.getElem?_cons_zero, List.getElem?_cons_succ, Option.getD_some, List.setIfInBounds_toArray, List.set_cons_zero, List.set_cons_succ])
      | (refine wpS_assign rfl ?_; simp only [Act.eval, Act.put, Array.getD_eq_getD_getElem?, List.getElem?_toArray, List.getElem?_cons_zero, List.getElem?_cons_succ, Option.getD_some, List.setIfInBounds_toArray, List.set_cons_zero, List.set_cons_succ])
      | (refine wpS_read (v := ?_) rfl ?_ ?_; rotate_left; (focus (intro w' hG; go_simp; try (with_reducible rfl))); simp only [Act.put, List.setIfInBounds_toArray, List.set_cons_zero, List.set_cons_succ]))
    refine wpS_call (f := ?_) (args := ?_) (by rfl) ?_ ?_
    rotate_left 2; focus (go_simp; constructor <;> with_reducible rfl)
    refine (hs1 w.drew (Grow.refl w).drew).mono ?_
    rintro e w1 ⟨rfl, g1⟩
    refine ⟨_, rfl, g1, ?_⟩
    simp only [Act.put, List.setIfInBounds_toArray, List.set_cons_zero, List.set_cons_succ]
    repeat (first
      | (refine wpS_move rfl ?_; simp only [Act.eval, Act.put, Array.getD_eq_getD_getElem?, List.getElem?_toArray, List.getElem?_cons_zero, List.getElem?_cons_succ, Option.getD_some, List.setIfInBounds_toArray, List.set_cons_zero, List.set_cons_succ])
      | (refine wpS_assign rfl ?_; simp only [Act.eval, Act.put, Array.getD_eq_getD_getElem?, List.getElem?_toArray, List.getElem?_cons_zero, List.getElem?_cons_succ, Option.getD_some, List.setIfInBounds_toArray, List.set_cons_zero, List.set_cons_succ])
      | (refine wpS_read (v := ?_) rfl ?_ ?_; rotate_left; (focus (intro w' hG; go_simp; try (with_reducible rfl))); simp only [Act.put, List.setIfInBounds_toArray, List.set_cons_zero, List.set_cons_succ]))
    refine wpS_call (f := ?_) (args := ?_) (by rfl) ?_ ?_
    rotate_left 2; focus (go_simp; constructor <;> with_reducible rfl)
    refine (hs2 w1 ((Grow.refl w).drew.trans g1)).mono ?_
    rintro e w2 ⟨rfl, g2⟩
    refine ⟨_, rfl, g2, ?_⟩
    simp only [Act.put, List.setIfInBounds_toArray, List.set_cons_zero, List.set_cons_succ]
    repeat (first
      | (refine wpS_move rfl ?_; simp only [Act.eval, Act.put, Array.getD_eq_getD_getElem?, List.getElem?_toArray, List.getElem?_cons_zero, List.getElem?_cons_succ, Option.getD_some, List.setIfInBounds_toArray, List.set_cons_zero, List.set_cons_succ])
      | (refine wpS_assign rfl ?_; simp only [Act.eval, Act.put, Array.getD_eq_getD_getElem?, List.getElem?_toArray, List.getElem?_cons_zero, List.getElem?_cons_succ, Option.getD_some, List.setIfInBounds_toArray, List.set_cons_zero, List.set_cons_succ])
      | (refine wpS_read (v := ?_) rfl ?_ ?_; rotate_left; (focus (intro w' hG; go_simp; try (with_reducible rfl))); simp only [Act.put, List.setIfInBounds_toArray, List.set_cons_zero, List.set_cons_succ]))
    refine wpS_act rfl (exec_two (c := S1) (d := S2) rfl rfl rfl) ((Grow.refl w2).alloc _) ?_
    simp only [Act.put, List.setIfInBounds_toArray, List.set_cons_zero, List.set_cons_succ]
    have hr3 := rdC_two w2 S1 S2
    have g3 : Grow w2 (w2.alloc (.cells #[.int .u64 S1.c0, .int .u64 S1.c1, .int .u64 S1.c2, .int .u64 S1.c3, .int .u64 S1.c4, .int .u64 S1.c5, .int .u64 S2.c0, .int .u64 S2.c1, .int .u64 S2.c2, .int .u64 S2.c3, .int .u64 S2.c4, .int .u64 S2.c5] 24)) := (Grow.refl w2).alloc _
    have hb3 : (w2.alloc (.cells #[.int .u64 S1.c0, .int .u64 S1.c1, .int .u64 S1.c2, .int .u64 S1.c3, .int .u64 S1.c4, .int .u64 S1.c5, .int .u64 S2.c0, .int .u64 S2.c1, .int .u64 S2.c2, .int .u64 S2.c3, .int .u64 S2.c4, .int .u64 S2.c5] 24)).heap.size - 1 = w2.heap.size := by rw [World.size_alloc]; omega
    rw [← hb3] at hr3 ⊢
    have hs3' := hs3 _ hr3
    clear hb3 hr3
    generalize w2.alloc (.cells #[.int .u64 S1.c0, .int .u64 S1.c1, .int .u64 S1.c2, .int .u64 S1.c3, .int .u64 S1.c4, .int .u64 S1.c5, .int .u64 S2.c0, .int .u64 S2.c1, .int .u64 S2.c2, .int .u64 S2.c3, .int .u64 S2.c4, .int .u64 S2.c5] 24) = w3 at g3 hs3' ⊢
    repeat (first
      | (refine wpS_move rfl ?_; simp only [Act.eval, Act.put, Array.getD_eq_getD_getElem?, List.getElem?_toArray, List.getElem?_cons_zero, List.getElem?_cons_succ, Option.getD_some, List.setIfInBounds_toArray, List.set_cons_zero, List.set_cons_succ])
      | (refine wpS_assign rfl ?_; simp only [Act.eval, Act.put, Array.getD_eq_getD_getElem?, List.getElem?_toArray, List.getElem?_cons_zero, List.getElem?_cons_succ, Option.getD_some, List.setIfInBounds_toArray, List.set_cons_zero, List.set_cons_succ])
      | (refine wpS_read (v := ?_) rfl ?_ ?_; rotate_left; (focus (intro w' hG; go_simp; try (with_reducible rfl))); simp only [Act.put, List.setIfInBounds_toArray, List.set_cons_zero, List.set_cons_succ]))
    refine wpS_call (f := ?_) (args := ?_) (by rfl) ?_ ?_
    rotate_left 2; focus (go_simp; constructor <;> with_reducible rfl)
    refine (hs3').mono ?_
    rintro e w4 ⟨rfl, g4⟩
    refine ⟨_, rfl, g4, ?_⟩
    simp only [Act.put, List.setIfInBounds_toArray, List.set_cons_zero, List.set_cons_succ]
    repeat (first
      | (refine wpS_move rfl ?_; simp only [Act.eval, Act.put, Array.getD_eq_getD_getElem?, List.getElem?_toArray, List.getElem?_cons_zero, List.getElem?_cons_succ, Option.getD_some, List.setIfInBounds_toArray, List.set_cons_zero, List.set_cons_succ])
      | (refine wpS_assign rfl ?_; simp only [Act.eval, Act.put, Array.getD_eq_getD_getElem?, List.getElem?_toArray, List.getElem?_cons_zero, List.getElem?_cons_succ, Option.getD_some, List.setIfInBounds_toArray, List.set_cons_zero, List.set_cons_succ])
      | (refine wpS_read (v := ?_) rfl ?_ ?_; rotate_left; (focus (intro w' hG; go_simp; try (with_reducible rfl))); simp only [Act.put, List.setIfInBounds_toArray, List.set_cons_zero, List.set_cons_succ]))
    refine wpS_call (f := ?_) (args := ?_) (by rfl) ?_ ?_
    rotate_left 2; focus (go_simp; constructor <;> with_reducible rfl)
    refine (hs4 w4 (((((Grow.refl w).drew.trans g1).trans g2).trans g3).trans g4)).mono ?_
    rintro e w5 ⟨rfl, g5⟩
    refine ⟨_, rfl, g5, ?_⟩
    simp only [Act.put, List.setIfInBounds_toArray, List.set_cons_zero, List.set_cons_succ]
    repeat (first
      | (refine wpS_move rfl ?_; simp only [Act.eval, Act.put, Array.getD_eq_getD_getElem?, List.getElem?_toArray, List.getElem?_cons_zero, List.getElem?_cons_succ, Option.getD_some, List.setIfInBounds_toArray, List.set_cons_zero, List.set_cons_succ])
      | (refine wpS_assign rfl ?_; simp only [Act.eval, Act.put, Array.getD_eq_getD_getElem?, List.getElem?_toArray, List.getElem?_cons_zero, List.getElem?_cons_succ, Option.getD_some, List.setIfInBounds_toArray, List.set_cons_zero, List.set_cons_succ])
      | (refine wpS_read (v := ?_) rfl ?_ ?_; rotate_left; (focus (intro w' hG; go_simp; try (with_reducible rfl))); simp only [Act.put, List.setIfInBounds_toArray, List.set_cons_zero, List.set_cons_succ])
      | (refine wpS_skip rfl ?_; simp only [Act.put, List.setIfInBounds_toArray, List.set_cons_zero, List.set_cons_succ]))
    refine wpS_call (f := ?_) (args := ?_) (by rfl) ?_ ?_
    rotate_left 2; focus (go_simp; constructor <;> with_reducible rfl)
    refine (lives_any w5).mono ?_
    rintro e w6 ⟨rfl, g6⟩
    refine ⟨_, rfl, g6, ?_⟩
    simp only [Act.put, List.setIfInBounds_toArray, List.set_cons_zero, List.set_cons_succ]
    repeat (first
      | (refine wpS_move rfl ?_; simp only [Act.eval, Act.put, Array.getD_eq_getD_getElem?, List.getElem?_toArray, List.getElem?_cons_zero, List.getElem?_cons_succ, Option.getD_some, List.setIfInBounds_toArray, List.set_cons_zero, List.set_cons_succ])
      | (refine wpS_assign rfl ?_; simp only [Act.eval, Act.put, Array.getD_eq_getD_getElem?, List.getElem?_toArray, List.getElem?_cons_zero, List.getElem?_cons_succ, Option.getD_some, List.setIfInBounds_toArray, List.set_cons_zero, List.set_cons_succ])
      | (refine wpS_read (v := ?_) rfl ?_ ?_; rotate_left; (focus (intro w' hG; go_simp; try (with_reducible rfl))); simp only [Act.put, List.setIfInBounds_toArray, List.set_cons_zero, List.set_cons_succ])
      | (refine wpS_skip rfl ?_; simp only [Act.put, List.setIfInBounds_toArray, List.set_cons_zero, List.set_cons_succ]))
    refine wpS_nil ?_
    go_wp2
    go_ret
    exact ⟨rfl, ((((((Grow.refl w).drew.trans g1).trans g2).trans g3).trans g4).trans g5).trans g6⟩
end Go.Proofs.Ytnjifmnhcgcpiaa
