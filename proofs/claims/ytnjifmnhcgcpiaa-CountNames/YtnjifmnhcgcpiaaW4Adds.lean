/-
  The walk of the law CountAdds. Conditions: each theorem's own.
-/
import Derived.Test.YtnjifmnhcgcpiaaCntLive
namespace Go.Proofs.Ytnjifmnhcgcpiaa
open Go.RowKit
set_option linter.unusedVariables false
set_option linter.unusedSimpArgs false

theorem exec_loadC {w : World} {a : Act} {o : Oper} {x : Operand} {b : Nat} {c : C6} (ho : o.op = .load 24 x) (hx : a.eval x = .pointer (some ⟨b, 0, none⟩)) (h : CAt w b c) : (execOp a.eval o).run Try.prog w = .ok (.value (.agg #[.int .u64 c.c0, .int .u64 c.c1, .int .u64 c.c2, .int .u64 c.c3, .int .u64 c.c4, .int .u64 c.c5])) w := by
  obtain ⟨⟨h0, h1, h2, h3, h4, h5⟩, -⟩ := h
  simp only [execOp, ho, hx]
  go_simp

set_option maxHeartbeats 4000000 in
theorem countAdds_walk (c : C6) (kind n : Int) (w : World) (hc : c.Ok) (hn : U n) :
    Calls Try.prog 3 #[.agg #[.int .u64 c.c0, .int .u64 c.c1, .int .u64 c.c2, .int .u64 c.c3, .int .u64 c.c4, .int .u64 c.c5], .int .i64 kind, .int .u64 n] w fun e w' => e = .returned (.bool true) ∧ Below w.heap.size w w' := by
  have HC : Hid (c.Ok ∧ U n) := ⟨hc, hn⟩
  clear hc hn
  have HI : Hid (CAt (w.alloc (.cells #[.int .u64 c.c0, .int .u64 c.c1, .int .u64 c.c2, .int .u64 c.c3, .int .u64 c.c4, .int .u64 c.c5] 24)) w.heap.size c ∧ Grow w (w.alloc (.cells #[.int .u64 c.c0, .int .u64 c.c1, .int .u64 c.c2, .int .u64 c.c3, .int .u64 c.c4, .int .u64 c.c5] 24))) := ⟨CAt.new w c _, (Grow.refl w).alloc _⟩
  go_enter Try.func3, Try.ntmps3
  go_wp2
  generalize w.alloc (.cells #[.int .u64 c.c0, .int .u64 c.c1, .int .u64 c.c2, .int .u64 c.c3, .int .u64 c.c4, .int .u64 c.c5] 24) = w1 at HI ⊢
  obtain ⟨b, hb⟩ : ∃ b, b = w.heap.size := ⟨_, rfl⟩
  rw [← hb] at HI ⊢
  have HB : Hid (b = w.heap.size) := hb
  clear hb
  go_loopg [7] 9 (fun m i wr => ∃ j : Nat, m = 9 - j ∧ j ≤ 9 ∧ i = .int .i64 ((j : Int) - 1) ∧ Hid (CAt wr b c ∧ Grow w wr))
  case atStart => exact ⟨0, rfl, by omega, rfl, HI⟩
  case round =>
    obtain ⟨j, hk, hj, rfl, X⟩ := hrel
    obtain ⟨J, hJ⟩ : ∃ J : Int, J = (j : Int) - 1 := ⟨_, rfl⟩
    rw [← hJ]
    have HJ : Hid (J = (j : Int) - 1) := hJ
    by_cases hlt : j < 9
    · have hle : J ≤ 7 := by omega
      have hw1 : IntKind.i64.wrap (J + 1) = J + 1 := by rw [IntKind.wrap_i64]; omega
      by_cases h7 : J = 7
      · have h7' : (J == 7) = true := by simp [h7]
        have HL : Hid (j < 9 ∧ gk = 9 - j) := ⟨hlt, hk⟩
        clear h7 hlt hJ hk hj
        obtain ⟨⟨k0, k1, k2, k3, k4, k5⟩, -⟩ := X.out.1
        go_wp2_with fail
        refine (cadd_any c kind n wr HC.out.1 HC.out.2).mono ?_
        rintro e w2 ⟨rfl, g2⟩
        clear k0 k1 k2 k3 k4 k5
        obtain ⟨D, hD⟩ : ∃ D, D = addC c kind n := ⟨_, rfl⟩
        rw [← hD]
        have hra := fun w' => radd_any c kind n w' HC.out.1 HC.out.2
        rw [← hD] at hra
        clear hD
        have X2 : Hid (CAt (w2.alloc (.cells #[.int .u64 D.c0, .int .u64 D.c1, .int .u64 D.c2, .int .u64 D.c3, .int .u64 D.c4, .int .u64 D.c5] 24)) b c ∧ CAt (w2.alloc (.cells #[.int .u64 D.c0, .int .u64 D.c1, .int .u64 D.c2, .int .u64 D.c3, .int .u64 D.c4, .int .u64 D.c5] 24)) w2.heap.size D ∧ Grow w (w2.alloc (.cells #[.int .u64 D.c0, .int .u64 D.c1, .int .u64 D.c2, .int .u64 D.c3, .int .u64 D.c4, .int .u64 D.c5] 24))) :=
          ⟨X.out.1.grow (g2.alloc _), CAt.new w2 D _, X.out.2.trans (g2.alloc _)⟩
        clear g2
        obtain ⟨⟨k0, k1, k2, k3, k4, k5⟩, -⟩ := X2.out.1
        go_wp2_with fail
        generalize w2.alloc (.cells #[.int .u64 D.c0, .int .u64 D.c1, .int .u64 D.c2, .int .u64 D.c3, .int .u64 D.c4, .int .u64 D.c5] 24) = w3 at X2 k0 k1 k2 k3 k4 k5 ⊢
        generalize w2.heap.size = bx at X2 ⊢
        clear w2
        refine (cget_any c kind w3).mono ?_
        rintro e w4 ⟨rfl, g4⟩
        clear k0 k1 k2 k3 k4 k5
        have X4 : Hid (CAt w4 b c ∧ CAt w4 bx D ∧ Grow w w4) := ⟨X2.out.1.grow g4, X2.out.2.1.grow g4, X2.out.2.2.trans g4⟩
        clear X2 g4
        obtain ⟨⟨k0, k1, k2, k3, k4, k5⟩, -⟩ := X4.out.1
        go_wp2_with fail
        refine (rget_any c kind w4).mono ?_
        rintro e w5 ⟨rfl, g5⟩
        clear k0 k1 k2 k3 k4 k5
        have X5 : Hid (CAt w5 b c ∧ CAt w5 bx D ∧ Grow w w5) := ⟨X4.out.1.grow g5, X4.out.2.1.grow g5, X4.out.2.2.trans g5⟩
        clear X4 g5
        generalize getC c kind = G
        generalize isK kind = I
        go_wp2
        have kb : ∀ w', Grow w5.drew w' → CAt w' b c ∧ CAt w' bx D := fun w' h => ⟨X5.out.1.grow ((Grow.refl w5).drew.trans h), X5.out.2.1.grow ((Grow.refl w5).drew.trans h)⟩
        refine wp_region_sched (by kernel_rfl) [(0, false), (1, false), (2, false), (3, false), (4, true), (5, false), (6, false), (7, false), (8, false), (9, false), (10, false), (11, false), (12, false), (13, false), (14, false), (15, false)] (by kernel_rfl) (by kernel_rfl) rfl (fun _ _ d _ _ h => by cases d <;> exact h) ?_
        simp only [inOrder, List.filterMap_cons, List.filterMap_nil, List.getElem?_toArray, List.getElem?_cons_zero, List.getElem?_cons_succ, Option.map_some]
        refine wpS_read (v := .agg #[.int .u64 D.c0, .int .u64 D.c1, .int .u64 D.c2, .int .u64 D.c3, .int .u64 D.c4, .int .u64 D.c5]) rfl (fun w' hG => exec_loadC rfl rfl (kb w' hG).2) ?_
        simp only [Act.put, List.setIfInBounds_toArray, List.set_cons_zero, List.set_cons_succ]
        refine wpS_read (v := .agg #[.int .u64 c.c0, .int .u64 c.c1, .int .u64 c.c2, .int .u64 c.c3, .int .u64 c.c4, .int .u64 c.c5]) rfl (fun w' hG => exec_loadC rfl rfl (kb w' hG).1) ?_
        simp only [Act.put, List.setIfInBounds_toArray, List.set_cons_zero, List.set_cons_succ]
        repeat (first
          | (refine wpS_move rfl ?_; simp only [Act.eval, Act.put, Array.getD_eq_getD_getElem?, List.getElem?_toArray, List.getElem?_cons_zero, List.getElem?_cons_succ, Option.getD_some, List.setIfInBounds_toArray, List.set_cons_zero, List.set_cons_succ])
          | (refine wpS_assign rfl ?_; simp only [Act.eval, Act.put, Array.getD_eq_getD_getElem?, List.getElem?_toArray, List.getElem?_cons_zero, List.getElem?_cons_succ, Option.getD_some, List.setIfInBounds_toArray, List.set_cons_zero, List.set_cons_succ])
          | (refine wpS_read (v := ?_) rfl ?_ ?_; rotate_left; (focus (intro w' hG; go_simp; try (with_reducible rfl))); simp only [Act.put, List.setIfInBounds_toArray, List.set_cons_zero, List.set_cons_succ])
          | (refine wpS_skip rfl ?_; simp only [Act.put, List.setIfInBounds_toArray, List.set_cons_zero, List.set_cons_succ]))
        refine wpS_call (f := ?_) (args := ?_) (by rfl) ?_ ?_
        rotate_left 2; focus (go_simp; constructor <;> with_reducible rfl)
        refine (hra w5.drew).mono ?_
        rintro e w6 ⟨rfl, g6⟩
        refine ⟨_, rfl, g6, ?_⟩
        simp only [Act.put, List.setIfInBounds_toArray, List.set_cons_zero, List.set_cons_succ]
        repeat (first
          | (refine wpS_move rfl ?_; simp only [Act.eval, Act.put, Array.getD_eq_getD_getElem?, List.getElem?_toArray, List.getElem?_cons_zero, List.getElem?_cons_succ, Option.getD_some, List.setIfInBounds_toArray, List.set_cons_zero, List.set_cons_succ])
          | (refine wpS_assign rfl ?_; simp only [Act.eval, Act.put, Array.getD_eq_getD_getElem?, List.getElem?_toArray, List.getElem?_cons_zero, List.getElem?_cons_succ, Option.getD_some, List.setIfInBounds_toArray, List.set_cons_zero, List.set_cons_succ])
          | (refine wpS_read (v := ?_) rfl ?_ ?_; rotate_left; (focus (intro w' hG; go_simp; try (with_reducible rfl))); simp only [Act.put, List.setIfInBounds_toArray, List.set_cons_zero, List.set_cons_succ])
          | (refine wpS_skip rfl ?_; simp only [Act.put, List.setIfInBounds_toArray, List.set_cons_zero, List.set_cons_succ]))
        refine wpS_nil ?_
        go_wp2
        have XE : Hid (CAt w6 b c ∧ Grow w w6) := by
          have q : Grow w5 w6 := (Grow.refl w5).drew.trans g6
          exact ⟨X5.out.1.grow q, X5.out.2.2.trans q⟩
        go_roundg (9 - (j + 1))
        case measure => have := HL.out; omega
        case rel => exact ⟨j + 1, rfl, HL.out.1, by have := HJ.out; congr 1; omega, XE⟩
      · have h7' : (J == 7) = false := by simp [h7]
        have HL : Hid (j < 9 ∧ gk = 9 - j) := ⟨hlt, hk⟩
        clear h7 hlt hJ hk hj
        obtain ⟨⟨k0, k1, k2, k3, k4, k5⟩, -⟩ := X.out.1
        go_wp2_with fail
        refine (cadd_any c J n wr HC.out.1 HC.out.2).mono ?_
        rintro e w2 ⟨rfl, g2⟩
        clear k0 k1 k2 k3 k4 k5
        obtain ⟨D, hD⟩ : ∃ D, D = addC c J n := ⟨_, rfl⟩
        rw [← hD]
        have hra := fun w' => radd_any c J n w' HC.out.1 HC.out.2
        rw [← hD] at hra
        clear hD
        have X2 : Hid (CAt (w2.alloc (.cells #[.int .u64 D.c0, .int .u64 D.c1, .int .u64 D.c2, .int .u64 D.c3, .int .u64 D.c4, .int .u64 D.c5] 24)) b c ∧ CAt (w2.alloc (.cells #[.int .u64 D.c0, .int .u64 D.c1, .int .u64 D.c2, .int .u64 D.c3, .int .u64 D.c4, .int .u64 D.c5] 24)) w2.heap.size D ∧ Grow w (w2.alloc (.cells #[.int .u64 D.c0, .int .u64 D.c1, .int .u64 D.c2, .int .u64 D.c3, .int .u64 D.c4, .int .u64 D.c5] 24))) :=
          ⟨X.out.1.grow (g2.alloc _), CAt.new w2 D _, X.out.2.trans (g2.alloc _)⟩
        clear g2
        obtain ⟨⟨k0, k1, k2, k3, k4, k5⟩, -⟩ := X2.out.1
        go_wp2_with fail
        generalize w2.alloc (.cells #[.int .u64 D.c0, .int .u64 D.c1, .int .u64 D.c2, .int .u64 D.c3, .int .u64 D.c4, .int .u64 D.c5] 24) = w3 at X2 k0 k1 k2 k3 k4 k5 ⊢
        generalize w2.heap.size = bx at X2 ⊢
        clear w2
        refine (cget_any c J w3).mono ?_
        rintro e w4 ⟨rfl, g4⟩
        clear k0 k1 k2 k3 k4 k5
        have X4 : Hid (CAt w4 b c ∧ CAt w4 bx D ∧ Grow w w4) := ⟨X2.out.1.grow g4, X2.out.2.1.grow g4, X2.out.2.2.trans g4⟩
        clear X2 g4
        obtain ⟨⟨k0, k1, k2, k3, k4, k5⟩, -⟩ := X4.out.1
        go_wp2_with fail
        refine (rget_any c J w4).mono ?_
        rintro e w5 ⟨rfl, g5⟩
        clear k0 k1 k2 k3 k4 k5
        have X5 : Hid (CAt w5 b c ∧ CAt w5 bx D ∧ Grow w w5) := ⟨X4.out.1.grow g5, X4.out.2.1.grow g5, X4.out.2.2.trans g5⟩
        clear X4 g5
        generalize getC c J = G
        generalize isK J = I
        go_wp2
        have kb : ∀ w', Grow w5.drew w' → CAt w' b c ∧ CAt w' bx D := fun w' h => ⟨X5.out.1.grow ((Grow.refl w5).drew.trans h), X5.out.2.1.grow ((Grow.refl w5).drew.trans h)⟩
        refine wp_region_sched (by kernel_rfl) [(0, false), (1, false), (2, false), (3, false), (4, true), (5, false), (6, false), (7, false), (8, false), (9, false), (10, false), (11, false), (12, false), (13, false), (14, false), (15, false)] (by kernel_rfl) (by kernel_rfl) rfl (fun _ _ d _ _ h => by cases d <;> exact h) ?_
        simp only [inOrder, List.filterMap_cons, List.filterMap_nil, List.getElem?_toArray, List.getElem?_cons_zero, List.getElem?_cons_succ, Option.map_some]
        refine wpS_read (v := .agg #[.int .u64 D.c0, .int .u64 D.c1, .int .u64 D.c2, .int .u64 D.c3, .int .u64 D.c4, .int .u64 D.c5]) rfl (fun w' hG => exec_loadC rfl rfl (kb w' hG).2) ?_
        simp only [Act.put, List.setIfInBounds_toArray, List.set_cons_zero, List.set_cons_succ]
        refine wpS_read (v := .agg #[.int .u64 c.c0, .int .u64 c.c1, .int .u64 c.c2, .int .u64 c.c3, .int .u64 c.c4, .int .u64 c.c5]) rfl (fun w' hG => exec_loadC rfl rfl (kb w' hG).1) ?_
        simp only [Act.put, List.setIfInBounds_toArray, List.set_cons_zero, List.set_cons_succ]
        repeat (first
          | (refine wpS_move rfl ?_; simp only [Act.eval, Act.put, Array.getD_eq_getD_getElem?, List.getElem?_toArray, List.getElem?_cons_zero, List.getElem?_cons_succ, Option.getD_some, List.setIfInBounds_toArray, List.set_cons_zero, List.set_cons_succ])
          | (refine wpS_assign rfl ?_; simp only [Act.eval, Act.put, Array.getD_eq_getD_getElem?, List.getElem?_toArray, List.getElem?_cons_zero, List.getElem?_cons_succ, Option.getD_some, List.setIfInBounds_toArray, List.set_cons_zero, List.set_cons_succ])
          | (refine wpS_read (v := ?_) rfl ?_ ?_; rotate_left; (focus (intro w' hG; go_simp; try (with_reducible rfl))); simp only [Act.put, List.setIfInBounds_toArray, List.set_cons_zero, List.set_cons_succ])
          | (refine wpS_skip rfl ?_; simp only [Act.put, List.setIfInBounds_toArray, List.set_cons_zero, List.set_cons_succ]))
        refine wpS_call (f := ?_) (args := ?_) (by rfl) ?_ ?_
        rotate_left 2; focus (go_simp; constructor <;> with_reducible rfl)
        refine (hra w5.drew).mono ?_
        rintro e w6 ⟨rfl, g6⟩
        refine ⟨_, rfl, g6, ?_⟩
        simp only [Act.put, List.setIfInBounds_toArray, List.set_cons_zero, List.set_cons_succ]
        repeat (first
          | (refine wpS_move rfl ?_; simp only [Act.eval, Act.put, Array.getD_eq_getD_getElem?, List.getElem?_toArray, List.getElem?_cons_zero, List.getElem?_cons_succ, Option.getD_some, List.setIfInBounds_toArray, List.set_cons_zero, List.set_cons_succ])
          | (refine wpS_assign rfl ?_; simp only [Act.eval, Act.put, Array.getD_eq_getD_getElem?, List.getElem?_toArray, List.getElem?_cons_zero, List.getElem?_cons_succ, Option.getD_some, List.setIfInBounds_toArray, List.set_cons_zero, List.set_cons_succ])
          | (refine wpS_read (v := ?_) rfl ?_ ?_; rotate_left; (focus (intro w' hG; go_simp; try (with_reducible rfl))); simp only [Act.put, List.setIfInBounds_toArray, List.set_cons_zero, List.set_cons_succ])
          | (refine wpS_skip rfl ?_; simp only [Act.put, List.setIfInBounds_toArray, List.set_cons_zero, List.set_cons_succ]))
        refine wpS_nil ?_
        go_wp2
        have XE : Hid (CAt w6 b c ∧ Grow w w6) := by
          have q : Grow w5 w6 := (Grow.refl w5).drew.trans g6
          exact ⟨X5.out.1.grow q, X5.out.2.2.trans q⟩
        go_roundg (9 - (j + 1))
        case measure => have := HL.out; omega
        case rel => exact ⟨j + 1, rfl, HL.out.1, by have := HJ.out; congr 1; omega, XE⟩
    · have hle : ¬ J ≤ 7 := by omega
      clear hJ hlt hk hj
      go_wp2_with fail
      refine (lives_any wr).mono ?_
      rintro e w12 ⟨rfl, q12⟩
      go_wp2
      go_ret
      exact ⟨rfl, X.out.2.trans q12⟩
end Go.Proofs.Ytnjifmnhcgcpiaa
