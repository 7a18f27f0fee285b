/-
  The walks of meet, numberFault, ownFault, quotas. Conditions: each theorem's own.
-/
import Derived.Test.YtlcphhlimcnnaaaCfg
namespace Go.Proofs.Ytlcphhlimcnnaaa
open Go.RowKit
set_option linter.unusedVariables false
set_option linter.unusedSimpArgs false

set_option maxHeartbeats 4000000 in
theorem meet_any (x y : Pt) (w : World) (hx : 0 ≤ x.g ∧ x.g ≤ 1000 ∧ 0 ≤ x.b ∧ x.b ≤ 100000) (hy : 0 ≤ y.g ∧ y.g ≤ 1000 ∧ 0 ≤ y.b ∧ y.b ≤ 100000) :
    Calls Try.prog 60 #[.agg #[.int .i64 x.q, .int .i64 x.b, .int .i64 x.g], .agg #[.int .i64 y.q, .int .i64 y.b, .int .i64 y.g]] w fun e w' => e = .returned (.bool (meetB x y)) ∧ Grow w w' := by
  have hsx := fun w' => size_any x w' hx.1 hx.2.1
  have hsy := fun w' => size_any y w' hy.1 hy.2.1
  have hw1 : IntKind.i64.wrap (y.b + 2 * y.g) = y.b + 2 * y.g := by rw [IntKind.wrap_i64]; omega
  have hw2 : IntKind.i64.wrap (x.b + 2 * x.g) = x.b + 2 * x.g := by rw [IntKind.wrap_i64]; omega
  have HI : Hid (VarAt ((w.alloc (.cells #[.int .i64 x.q, .int .i64 x.b, .int .i64 x.g] 57)).alloc (.cells #[.int .i64 y.q, .int .i64 y.b, .int .i64 y.g] 57)) w.heap.size [.int .i64 x.q, .int .i64 x.b, .int .i64 x.g] ∧ VarAt ((w.alloc (.cells #[.int .i64 x.q, .int .i64 x.b, .int .i64 x.g] 57)).alloc (.cells #[.int .i64 y.q, .int .i64 y.b, .int .i64 y.g] 57)) (w.heap.size + 1) [.int .i64 y.q, .int .i64 y.b, .int .i64 y.g] ∧ Grow w ((w.alloc (.cells #[.int .i64 x.q, .int .i64 x.b, .int .i64 x.g] 57)).alloc (.cells #[.int .i64 y.q, .int .i64 y.b, .int .i64 y.g] 57))) := by
    refine ⟨(VarAt.new w [.int .i64 x.q, .int .i64 x.b, .int .i64 x.g] _).grow ((Grow.refl _).alloc _), ?_, ((Grow.refl w).alloc _).alloc _⟩
    have := VarAt.new (w.alloc (.cells #[.int .i64 x.q, .int .i64 x.b, .int .i64 x.g] 57)) [.int .i64 y.q, .int .i64 y.b, .int .i64 y.g] 57
    rw [World.size_alloc] at this
    exact this
  have hm : meetB x y = (decide (x.b < y.b + 2 * y.g) && decide (y.b < x.b + 2 * x.g)) := rfl
  rw [hm]
  clear hm hx hy
  go_enter Try.func60, Try.ntmps60
  go_wp2
  generalize (w.alloc (.cells #[.int .i64 x.q, .int .i64 x.b, .int .i64 x.g] 57)).alloc (.cells #[.int .i64 y.q, .int .i64 y.b, .int .i64 y.g] 57) = w1 at HI ⊢
  obtain ⟨b2, hb2⟩ : ∃ b2, b2 = w.heap.size + 1 := ⟨_, rfl⟩
  rw [← hb2] at HI ⊢
  generalize w.heap.size = b1 at HI ⊢
  clear hb2
  have kx : ∀ w', Grow w1.drew w' → VarAt w' b1 [.int .i64 x.q, .int .i64 x.b, .int .i64 x.g] := fun w' h => HI.out.1.grow ((Grow.refl w1).drew.trans h)
  have ky : ∀ w', Grow w1.drew w' → VarAt w' b2 [.int .i64 y.q, .int .i64 y.b, .int .i64 y.g] := fun w' h => HI.out.2.1.grow ((Grow.refl w1).drew.trans h)
  by_cases h1 : x.b < y.b + 2 * y.g
  · by_cases h2 : y.b < x.b + 2 * x.g
    · skip
      have hd1 : decide (x.b < y.b + 2 * y.g) = true := by simp; omega
      have hd2 : decide (y.b < x.b + 2 * x.g) = true := by simp; omega
      refine wp_region_sched (by kernel_rfl) [(0, false), (1, false), (2, false), (3, false), (4, false), (5, true), (6, false), (7, false), (8, false), (9, false), (10, false), (11, false), (12, false), (13, false), (14, true), (15, false), (16, false), (17, false), (18, false)] (by kernel_rfl) (by kernel_rfl) rfl (fun _ _ d _ _ h => by cases d <;> exact h) ?_
      simp only [inOrder, List.filterMap_cons, List.filterMap_nil, List.getElem?_toArray, List.getElem?_cons_zero, List.getElem?_cons_succ, Option.map_some]
      repeat (first
        | (refine wpS_move rfl ?_; simp only [Act.eval, Act.put, Array.getD_eq_getD_getElem?, List.getElem?_toArray, List.getElem?_cons_zero, List.getElem?_cons_succ, Option.getD_some, List.setIfInBounds_toArray, List.set_cons_zero, List.set_cons_succ])
        | (refine wpS_assign rfl ?_; simp only [Act.eval, Act.put, Array.getD_eq_getD_getElem?, List.getElem?_toArray, List.getElem?_cons_zero, List.getElem?_cons_succ, Option.getD_some, List.setIfInBounds_toArray, List.set_cons_zero, List.set_cons_succ])
        | (refine wpS_read (v := ?_) rfl ?_ ?_; rotate_left; (focus (intro w' hG; obtain ⟨⟨k0, k1, k2⟩, -⟩ := (kx w' hG).three; obtain ⟨⟨m0, m1, m2⟩, -⟩ := (ky w' hG).three; go_simp; try (with_reducible rfl))); simp only [Act.put, List.setIfInBounds_toArray, List.set_cons_zero, List.set_cons_succ])
        | (refine wpS_skip rfl ?_; simp only [Act.put, List.setIfInBounds_toArray, List.set_cons_zero, List.set_cons_succ]))
      refine wpS_call (f := ?_) (args := ?_) (by rfl) ?_ ?_
      rotate_left 2; focus (go_simp; constructor <;> with_reducible rfl)
      refine (hsy w1.drew).mono ?_
      rintro e w2 ⟨rfl, g2⟩
      refine ⟨_, rfl, g2, ?_⟩
      simp only [Act.put, List.setIfInBounds_toArray, List.set_cons_zero, List.set_cons_succ]
      have kx2 : ∀ w', Grow w2 w' → VarAt w' b1 [.int .i64 x.q, .int .i64 x.b, .int .i64 x.g] := fun w' h => kx w' (g2.trans h)
      have ky2 : ∀ w', Grow w2 w' → VarAt w' b2 [.int .i64 y.q, .int .i64 y.b, .int .i64 y.g] := fun w' h => ky w' (g2.trans h)
      repeat (first
        | (refine wpS_move rfl ?_; simp only [Act.eval, Act.put, Array.getD_eq_getD_getElem?, List.getElem?_toArray, List.getElem?_cons_zero, List.getElem?_cons_succ, Option.getD_some, List.setIfInBounds_toArray, List.set_cons_zero, List.set_cons_succ])
        | (refine wpS_assign rfl ?_; simp only [Act.eval, Act.put, Array.getD_eq_getD_getElem?, List.getElem?_toArray, List.getElem?_cons_zero, List.getElem?_cons_succ, Option.getD_some, List.setIfInBounds_toArray, List.set_cons_zero, List.set_cons_succ])
        | (refine wpS_read (v := ?_) rfl ?_ ?_; rotate_left; (focus (intro w' hG; obtain ⟨⟨k0, k1, k2⟩, -⟩ := (kx2 w' hG).three; obtain ⟨⟨m0, m1, m2⟩, -⟩ := (ky2 w' hG).three; go_simp; try (with_reducible rfl))); simp only [Act.put, List.setIfInBounds_toArray, List.set_cons_zero, List.set_cons_succ])
        | (refine wpS_skip rfl ?_; simp only [Act.put, List.setIfInBounds_toArray, List.set_cons_zero, List.set_cons_succ]))
      refine wpS_call (f := ?_) (args := ?_) (by rfl) ?_ ?_
      rotate_left 2; focus (go_simp; constructor <;> with_reducible rfl)
      refine (hsx w2).mono ?_
      rintro e w3 ⟨rfl, g3⟩
      refine ⟨_, rfl, g3, ?_⟩
      simp only [Act.put, List.setIfInBounds_toArray, List.set_cons_zero, List.set_cons_succ]
      repeat (first
        | (refine wpS_move rfl ?_; simp only [Act.eval, Act.put, Array.getD_eq_getD_getElem?, List.getElem?_toArray, List.getElem?_cons_zero, List.getElem?_cons_succ, Option.getD_some, List.setIfInBounds_toArray, List.set_cons_zero, List.set_cons_succ])
        | (refine wpS_assign rfl ?_; simp only [Act.eval, Act.put, Array.getD_eq_getD_getElem?, List.getElem?_toArray, List.getElem?_cons_zero, List.getElem?_cons_succ, Option.getD_some, List.setIfInBounds_toArray, List.set_cons_zero, List.set_cons_succ])
        | (refine wpS_read (v := ?_) rfl ?_ ?_; rotate_left; (focus (intro w' hG; skip; go_simp; try (with_reducible rfl))); simp only [Act.put, List.setIfInBounds_toArray, List.set_cons_zero, List.set_cons_succ])
        | (refine wpS_skip rfl ?_; simp only [Act.put, List.setIfInBounds_toArray, List.set_cons_zero, List.set_cons_succ]))
      refine wpS_nil ?_
      go_wp2
      go_ret
      exact ⟨ret_bool (by simp [hd1, hd2]), ((HI.out.2.2.trans (Grow.refl w1).drew).trans g2).trans g3⟩
    · skip
      have hd1 : decide (x.b < y.b + 2 * y.g) = true := by simp; omega
      have hd2 : decide (y.b < x.b + 2 * x.g) = false := by simp; omega
      refine wp_region_sched (by kernel_rfl) [(0, false), (1, false), (2, false), (3, false), (4, false), (5, true), (6, false), (7, false), (8, false), (9, false), (10, false), (11, false), (12, false), (13, false), (14, true), (15, false), (16, false), (17, false), (18, false)] (by kernel_rfl) (by kernel_rfl) rfl (fun _ _ d _ _ h => by cases d <;> exact h) ?_
      simp only [inOrder, List.filterMap_cons, List.filterMap_nil, List.getElem?_toArray, List.getElem?_cons_zero, List.getElem?_cons_succ, Option.map_some]
      repeat (first
        | (refine wpS_move rfl ?_; simp only [Act.eval, Act.put, Array.getD_eq_getD_getElem?, List.getElem?_toArray, List.getElem?_cons_zero, List.getElem?_cons_succ, Option.getD_some, List.setIfInBounds_toArray, List.set_cons_zero, List.set_cons_succ])
        | (refine wpS_assign rfl ?_; simp only [Act.eval, Act.put, Array.getD_eq_getD_getElem?, List.getElem?_toArray, List.getElem?_cons_zero, List.getElem?_cons_succ, Option.getD_some, List.setIfInBounds_toArray, List.set_cons_zero, List.set_cons_succ])
        | (refine wpS_read (v := ?_) rfl ?_ ?_; rotate_left; (focus (intro w' hG; obtain ⟨⟨k0, k1, k2⟩, -⟩ := (kx w' hG).three; obtain ⟨⟨m0, m1, m2⟩, -⟩ := (ky w' hG).three; go_simp; try (with_reducible rfl))); simp only [Act.put, List.setIfInBounds_toArray, List.set_cons_zero, List.set_cons_succ])
        | (refine wpS_skip rfl ?_; simp only [Act.put, List.setIfInBounds_toArray, List.set_cons_zero, List.set_cons_succ]))
      refine wpS_call (f := ?_) (args := ?_) (by rfl) ?_ ?_
      rotate_left 2; focus (go_simp; constructor <;> with_reducible rfl)
      refine (hsy w1.drew).mono ?_
      rintro e w2 ⟨rfl, g2⟩
      refine ⟨_, rfl, g2, ?_⟩
      simp only [Act.put, List.setIfInBounds_toArray, List.set_cons_zero, List.set_cons_succ]
      have kx2 : ∀ w', Grow w2 w' → VarAt w' b1 [.int .i64 x.q, .int .i64 x.b, .int .i64 x.g] := fun w' h => kx w' (g2.trans h)
      have ky2 : ∀ w', Grow w2 w' → VarAt w' b2 [.int .i64 y.q, .int .i64 y.b, .int .i64 y.g] := fun w' h => ky w' (g2.trans h)
      repeat (first
        | (refine wpS_move rfl ?_; simp only [Act.eval, Act.put, Array.getD_eq_getD_getElem?, List.getElem?_toArray, List.getElem?_cons_zero, List.getElem?_cons_succ, Option.getD_some, List.setIfInBounds_toArray, List.set_cons_zero, List.set_cons_succ])
        | (refine wpS_assign rfl ?_; simp only [Act.eval, Act.put, Array.getD_eq_getD_getElem?, List.getElem?_toArray, List.getElem?_cons_zero, List.getElem?_cons_succ, Option.getD_some, List.setIfInBounds_toArray, List.set_cons_zero, List.set_cons_succ])
        | (refine wpS_read (v := ?_) rfl ?_ ?_; rotate_left; (focus (intro w' hG; obtain ⟨⟨k0, k1, k2⟩, -⟩ := (kx2 w' hG).three; obtain ⟨⟨m0, m1, m2⟩, -⟩ := (ky2 w' hG).three; go_simp; try (with_reducible rfl))); simp only [Act.put, List.setIfInBounds_toArray, List.set_cons_zero, List.set_cons_succ])
        | (refine wpS_skip rfl ?_; simp only [Act.put, List.setIfInBounds_toArray, List.set_cons_zero, List.set_cons_succ]))
      refine wpS_call (f := ?_) (args := ?_) (by rfl) ?_ ?_
      rotate_left 2; focus (go_simp; constructor <;> with_reducible rfl)
      refine (hsx w2).mono ?_
      rintro e w3 ⟨rfl, g3⟩
      refine ⟨_, rfl, g3, ?_⟩
      simp only [Act.put, List.setIfInBounds_toArray, List.set_cons_zero, List.set_cons_succ]
      repeat (first
        | (refine wpS_move rfl ?_; simp only [Act.eval, Act.put, Array.getD_eq_getD_getElem?, List.getElem?_toArray, List.getElem?_cons_zero, List.getElem?_cons_succ, Option.getD_some, List.setIfInBounds_toArray, List.set_cons_zero, List.set_cons_succ])
        | (refine wpS_assign rfl ?_; simp only [Act.eval, Act.put, Array.getD_eq_getD_getElem?, List.getElem?_toArray, List.getElem?_cons_zero, List.getElem?_cons_succ, Option.getD_some, List.setIfInBounds_toArray, List.set_cons_zero, List.set_cons_succ])
        | (refine wpS_read (v := ?_) rfl ?_ ?_; rotate_left; (focus (intro w' hG; skip; go_simp; try (with_reducible rfl))); simp only [Act.put, List.setIfInBounds_toArray, List.set_cons_zero, List.set_cons_succ])
        | (refine wpS_skip rfl ?_; simp only [Act.put, List.setIfInBounds_toArray, List.set_cons_zero, List.set_cons_succ]))
      refine wpS_nil ?_
      go_wp2
      go_ret
      exact ⟨ret_bool (by simp [hd1, hd2]), ((HI.out.2.2.trans (Grow.refl w1).drew).trans g2).trans g3⟩
  · skip
    have hd1 : decide (x.b < y.b + 2 * y.g) = false := by simp; omega
    refine wp_region_sched (by kernel_rfl) [(0, false), (1, false), (2, false), (3, false), (4, false), (5, true), (6, false), (7, false), (8, false), (9, false), (10, false), (11, false), (12, false), (13, false), (14, true), (15, false), (16, false), (17, false), (18, false)] (by kernel_rfl) (by kernel_rfl) rfl (fun _ _ d _ _ h => by cases d <;> exact h) ?_
    simp only [inOrder, List.filterMap_cons, List.filterMap_nil, List.getElem?_toArray, List.getElem?_cons_zero, List.getElem?_cons_succ, Option.map_some]
    repeat (first
      | (refine wpS_move rfl ?_; simp only [Act.eval, Act.put, Array.getD_eq_getD_getElem?, List.getElem?_toArray, List.getElem?_cons_zero, List.getElem?_cons_succ, Option.getD_some, List.setIfInBounds_toArray, List.set_cons_zero, List.set_cons_succ])
      | (refine wpS_assign rfl ?_; simp only [Act.eval, Act.put, Array.getD_eq_getD_getElem?, List.getElem?_toArray, List.getElem?_cons_zero, List.getElem?_cons_succ, Option.getD_some, List.setIfInBounds_toArray, List.set_cons_zero, List.set_cons_succ])
      | (refine wpS_read (v := ?_) rfl ?_ ?_; rotate_left; (focus (intro w' hG; obtain ⟨⟨k0, k1, k2⟩, -⟩ := (kx w' hG).three; obtain ⟨⟨m0, m1, m2⟩, -⟩ := (ky w' hG).three; go_simp; try (with_reducible rfl))); simp only [Act.put, List.setIfInBounds_toArray, List.set_cons_zero, List.set_cons_succ])
      | (refine wpS_skip rfl ?_; simp only [Act.put, List.setIfInBounds_toArray, List.set_cons_zero, List.set_cons_succ]))
    refine wpS_call (f := ?_) (args := ?_) (by rfl) ?_ ?_
    rotate_left 2; focus (go_simp; constructor <;> with_reducible rfl)
    refine (hsy w1.drew).mono ?_
    rintro e w2 ⟨rfl, g2⟩
    refine ⟨_, rfl, g2, ?_⟩
    simp only [Act.put, List.setIfInBounds_toArray, List.set_cons_zero, List.set_cons_succ]
    have kx2 : ∀ w', Grow w2 w' → VarAt w' b1 [.int .i64 x.q, .int .i64 x.b, .int .i64 x.g] := fun w' h => kx w' (g2.trans h)
    have ky2 : ∀ w', Grow w2 w' → VarAt w' b2 [.int .i64 y.q, .int .i64 y.b, .int .i64 y.g] := fun w' h => ky w' (g2.trans h)
    repeat (first
      | (refine wpS_move rfl ?_; simp only [Act.eval, Act.put, Array.getD_eq_getD_getElem?, List.getElem?_toArray, List.getElem?_cons_zero, List.getElem?_cons_succ, Option.getD_some, List.setIfInBounds_toArray, List.set_cons_zero, List.set_cons_succ])
      | (refine wpS_assign rfl ?_; simp only [Act.eval, Act.put, Array.getD_eq_getD_getElem?, List.getElem?_toArray, List.getElem?_cons_zero, List.getElem?_cons_succ, Option.getD_some, List.setIfInBounds_toArray, List.set_cons_zero, List.set_cons_succ])
      | (refine wpS_read (v := ?_) rfl ?_ ?_; rotate_left; (focus (intro w' hG; obtain ⟨⟨k0, k1, k2⟩, -⟩ := (kx2 w' hG).three; obtain ⟨⟨m0, m1, m2⟩, -⟩ := (ky2 w' hG).three; go_simp; try (with_reducible rfl))); simp only [Act.put, List.setIfInBounds_toArray, List.set_cons_zero, List.set_cons_succ])
      | (refine wpS_skip rfl ?_; simp only [Act.put, List.setIfInBounds_toArray, List.set_cons_zero, List.set_cons_succ]))
    refine wpS_nil ?_
    go_wp2
    go_ret
    exact ⟨ret_bool (by simp [hd1]), (HI.out.2.2.trans (Grow.refl w1).drew).trans g2⟩

set_option maxHeartbeats 4000000 in
theorem num_any (fr dp se : Int) (a : Option Addr) (n c : Nat) (w : World) :
    Calls Try.prog 52 #[.agg #[.int .i64 fr, .int .i64 dp, .int .i64 se, .slice a n c]] w fun e w' => e = .returned (.string (wh (numF n fr dp se))) ∧ Grow w w' := by
  by_cases h0 : 1 ≤ (n : Int) ∧ (n : Int) ≤ 16
  · skip
    by_cases h1 : 1 ≤ fr ∧ fr ≤ 64
    · skip
      by_cases h2 : 1 ≤ dp ∧ dp ≤ 8
      · skip
        by_cases h3 : 1 ≤ se ∧ se ≤ 1024
        · skip
          have e0 : decide (1 ≤ (n : Int) ∧ (n : Int) ≤ 16) = true := by simp; omega
          have c0 := fun w' => upto_any (n : Int) 16 w'
          rw [e0] at c0
          clear e0
          have e1 : decide (1 ≤ fr ∧ fr ≤ 64) = true := by simp; omega
          have c1 := fun w' => upto_any fr 64 w'
          rw [e1] at c1
          clear e1
          have e2 : decide (1 ≤ dp ∧ dp ≤ 8) = true := by simp; omega
          have c2 := fun w' => upto_any dp 8 w'
          rw [e2] at c2
          clear e2
          have e3 : decide (1 ≤ se ∧ se ≤ 1024) = true := by simp; omega
          have c3 := fun w' => upto_any se 1024 w'
          rw [e3] at c3
          clear e3
          have en : numF n fr dp se = 0 := by
            unfold numF
            rw [if_neg (by omega), if_neg (by omega), if_neg (by omega), if_neg (by omega)]
          rw [en]
          clear en
          clear h0 h1 h2 h3
          go_enter Try.func52, Try.ntmps52
          go_wp2_with fail
          refine (c0 _).mono ?_
          rintro e w' ⟨rfl, rfl⟩
          go_wp2_with fail
          refine (c1 _).mono ?_
          rintro e w' ⟨rfl, rfl⟩
          go_wp2_with fail
          refine (c2 _).mono ?_
          rintro e w' ⟨rfl, rfl⟩
          go_wp2_with fail
          refine (c3 _).mono ?_
          rintro e w' ⟨rfl, rfl⟩
          go_wp2
          go_ret
          exact ⟨rfl, (Grow.refl w).alloc _⟩
        · skip
          have e0 : decide (1 ≤ (n : Int) ∧ (n : Int) ≤ 16) = true := by simp; omega
          have c0 := fun w' => upto_any (n : Int) 16 w'
          rw [e0] at c0
          clear e0
          have e1 : decide (1 ≤ fr ∧ fr ≤ 64) = true := by simp; omega
          have c1 := fun w' => upto_any fr 64 w'
          rw [e1] at c1
          clear e1
          have e2 : decide (1 ≤ dp ∧ dp ≤ 8) = true := by simp; omega
          have c2 := fun w' => upto_any dp 8 w'
          rw [e2] at c2
          clear e2
          have e3 : decide (1 ≤ se ∧ se ≤ 1024) = false := by simp; omega
          have c3 := fun w' => upto_any se 1024 w'
          rw [e3] at c3
          clear e3
          have en : numF n fr dp se = 4 := by
            unfold numF
            rw [if_neg (by omega), if_neg (by omega), if_neg (by omega), if_pos (by omega)]
          rw [en]
          clear en
          clear h0 h1 h2 h3
          go_enter Try.func52, Try.ntmps52
          go_wp2_with fail
          refine (c0 _).mono ?_
          rintro e w' ⟨rfl, rfl⟩
          go_wp2_with fail
          refine (c1 _).mono ?_
          rintro e w' ⟨rfl, rfl⟩
          go_wp2_with fail
          refine (c2 _).mono ?_
          rintro e w' ⟨rfl, rfl⟩
          go_wp2_with fail
          refine (c3 _).mono ?_
          rintro e w' ⟨rfl, rfl⟩
          go_wp2
          go_ret
          exact ⟨rfl, (Grow.refl w).alloc _⟩
      · skip
        have e0 : decide (1 ≤ (n : Int) ∧ (n : Int) ≤ 16) = true := by simp; omega
        have c0 := fun w' => upto_any (n : Int) 16 w'
        rw [e0] at c0
        clear e0
        have e1 : decide (1 ≤ fr ∧ fr ≤ 64) = true := by simp; omega
        have c1 := fun w' => upto_any fr 64 w'
        rw [e1] at c1
        clear e1
        have e2 : decide (1 ≤ dp ∧ dp ≤ 8) = false := by simp; omega
        have c2 := fun w' => upto_any dp 8 w'
        rw [e2] at c2
        clear e2
        have en : numF n fr dp se = 3 := by
          unfold numF
          rw [if_neg (by omega), if_neg (by omega), if_pos (by omega)]
        rw [en]
        clear en
        clear h0 h1 h2
        go_enter Try.func52, Try.ntmps52
        go_wp2_with fail
        refine (c0 _).mono ?_
        rintro e w' ⟨rfl, rfl⟩
        go_wp2_with fail
        refine (c1 _).mono ?_
        rintro e w' ⟨rfl, rfl⟩
        go_wp2_with fail
        refine (c2 _).mono ?_
        rintro e w' ⟨rfl, rfl⟩
        go_wp2
        go_ret
        exact ⟨rfl, (Grow.refl w).alloc _⟩
    · skip
      have e0 : decide (1 ≤ (n : Int) ∧ (n : Int) ≤ 16) = true := by simp; omega
      have c0 := fun w' => upto_any (n : Int) 16 w'
      rw [e0] at c0
      clear e0
      have e1 : decide (1 ≤ fr ∧ fr ≤ 64) = false := by simp; omega
      have c1 := fun w' => upto_any fr 64 w'
      rw [e1] at c1
      clear e1
      have en : numF n fr dp se = 2 := by
        unfold numF
        rw [if_neg (by omega), if_pos (by omega)]
      rw [en]
      clear en
      clear h0 h1
      go_enter Try.func52, Try.ntmps52
      go_wp2_with fail
      refine (c0 _).mono ?_
      rintro e w' ⟨rfl, rfl⟩
      go_wp2_with fail
      refine (c1 _).mono ?_
      rintro e w' ⟨rfl, rfl⟩
      go_wp2
      go_ret
      exact ⟨rfl, (Grow.refl w).alloc _⟩
  · skip
    have e0 : decide (1 ≤ (n : Int) ∧ (n : Int) ≤ 16) = false := by simp; omega
    have c0 := fun w' => upto_any (n : Int) 16 w'
    rw [e0] at c0
    clear e0
    have en : numF n fr dp se = 1 := by
      unfold numF
      rw [if_pos (by omega)]
    rw [en]
    clear en
    clear h0
    go_enter Try.func52, Try.ntmps52
    go_wp2_with fail
    refine (c0 _).mono ?_
    rintro e w' ⟨rfl, rfl⟩
    go_wp2
    go_ret
    exact ⟨rfl, (Grow.refl w).alloc _⟩

set_option maxHeartbeats 4000000 in
theorem own_any (p : Pt) (se : Int) (w : World) (hse : 1 ≤ se ∧ se ≤ 1024) :
    Calls Try.prog 59 #[.agg #[.int .i64 p.q, .int .i64 p.b, .int .i64 p.g], .int .i64 se] w fun e w' => e = .returned (.string (wh (ownF p se))) ∧ Grow w w' := by
  by_cases h0 : 1 ≤ p.q ∧ p.q ≤ 64
  · by_cases h1 : 1 ≤ p.g ∧ p.g ≤ 64
    · by_cases h2 : p.b < 0
      · skip
        have e0 : decide (1 ≤ p.q ∧ p.q ≤ 64) = true := by simp; omega
        have c0 := fun w' => upto_any p.q 64 w'
        rw [e0] at c0
        clear e0
        have e1 : decide (1 ≤ p.g ∧ p.g ≤ 64) = true := by simp; omega
        have c1 := fun w' => upto_any p.g 64 w'
        rw [e1] at c1
        clear e1
        have en : ownF p se = 7 := by
          unfold ownF
          rw [if_neg (by omega), if_neg (by omega), if_pos (by omega)]
        rw [en]
        clear en
        have hsz := fun w' => size_any p w' (by omega) (by omega)
        have hw1 : IntKind.i64.wrap (se - 2 * p.g) = se - 2 * p.g := by rw [IntKind.wrap_i64]; omega
        clear h0 h1 hse
        go_enter Try.func59, Try.ntmps59
        go_wp2_with fail
        refine (c0 _).mono ?_
        rintro e w' ⟨rfl, rfl⟩
        go_wp2_with fail
        refine (c1 _).mono ?_
        rintro e w' ⟨rfl, rfl⟩
        have HI : Hid (VarAt (w.alloc (.cells #[.int .i64 p.q, .int .i64 p.b, .int .i64 p.g] 57)) w.heap.size [.int .i64 p.q, .int .i64 p.b, .int .i64 p.g] ∧ Grow w (w.alloc (.cells #[.int .i64 p.q, .int .i64 p.b, .int .i64 p.g] 57))) := ⟨VarAt.new w [.int .i64 p.q, .int .i64 p.b, .int .i64 p.g] _, (Grow.refl w).alloc _⟩
        go_wp2
        generalize w.alloc (.cells #[.int .i64 p.q, .int .i64 p.b, .int .i64 p.g] 57) = w1 at HI ⊢
        generalize w.heap.size = b1 at HI ⊢
        have kx : ∀ w', Grow w1.drew w' → VarAt w' b1 [.int .i64 p.q, .int .i64 p.b, .int .i64 p.g] := fun w' h => HI.out.1.grow ((Grow.refl w1).drew.trans h)
        have hd : decide (p.b < 0) = true := by simp; omega
        refine wp_region_sched (by kernel_rfl) [(0, false), (1, false), (2, false), (3, false), (4, false), (5, false), (6, false), (7, false), (8, true), (9, false), (10, false), (11, false), (12, false)] (by kernel_rfl) (by kernel_rfl) rfl (fun _ _ d _ _ h => by cases d <;> exact h) ?_
        simp only [inOrder, List.filterMap_cons, List.filterMap_nil, List.getElem?_toArray, List.getElem?_cons_zero, List.getElem?_cons_succ, Option.map_some]
        repeat (first
          | (refine wpS_move rfl ?_; simp only [Act.eval, Act.put, Array.getD_eq_getD_getElem?, List.getElem?_toArray, List.getElem?_cons_zero, List.getElem?_cons_succ, Option.getD_some, List.setIfInBounds_toArray, List.set_cons_zero, List.set_cons_succ])
          | (refine wpS_assign rfl ?_; simp only [Act.eval, Act.put, Array.getD_eq_getD_getElem?, List.getElem?_toArray, List.getElem?_cons_zero, List.getElem?_cons_succ, Option.getD_some, List.setIfInBounds_toArray, List.set_cons_zero, List.set_cons_succ])
          | (refine wpS_read (v := ?_) rfl ?_ ?_; rotate_left; (focus (intro w' hG; obtain ⟨⟨k0, k1, k2⟩, -⟩ := (kx w' hG).three; go_simp; try (with_reducible rfl))); simp only [Act.put, List.setIfInBounds_toArray, List.set_cons_zero, List.set_cons_succ])
          | (refine wpS_skip rfl ?_; simp only [Act.put, List.setIfInBounds_toArray, List.set_cons_zero, List.set_cons_succ]))
        refine wpS_nil ?_
        go_wp2
        go_ret
        exact ⟨rfl, HI.out.2.trans (Grow.refl w1).drew⟩
      · by_cases h3 : se - 2 * p.g < p.b
        · skip
          have e0 : decide (1 ≤ p.q ∧ p.q ≤ 64) = true := by simp; omega
          have c0 := fun w' => upto_any p.q 64 w'
          rw [e0] at c0
          clear e0
          have e1 : decide (1 ≤ p.g ∧ p.g ≤ 64) = true := by simp; omega
          have c1 := fun w' => upto_any p.g 64 w'
          rw [e1] at c1
          clear e1
          have en : ownF p se = 7 := by
            unfold ownF
            rw [if_neg (by omega), if_neg (by omega), if_pos (by omega)]
          rw [en]
          clear en
          have hsz := fun w' => size_any p w' (by omega) (by omega)
          have hw1 : IntKind.i64.wrap (se - 2 * p.g) = se - 2 * p.g := by rw [IntKind.wrap_i64]; omega
          clear h0 h1 hse
          go_enter Try.func59, Try.ntmps59
          go_wp2_with fail
          refine (c0 _).mono ?_
          rintro e w' ⟨rfl, rfl⟩
          go_wp2_with fail
          refine (c1 _).mono ?_
          rintro e w' ⟨rfl, rfl⟩
          have HI : Hid (VarAt (w.alloc (.cells #[.int .i64 p.q, .int .i64 p.b, .int .i64 p.g] 57)) w.heap.size [.int .i64 p.q, .int .i64 p.b, .int .i64 p.g] ∧ Grow w (w.alloc (.cells #[.int .i64 p.q, .int .i64 p.b, .int .i64 p.g] 57))) := ⟨VarAt.new w [.int .i64 p.q, .int .i64 p.b, .int .i64 p.g] _, (Grow.refl w).alloc _⟩
          go_wp2
          generalize w.alloc (.cells #[.int .i64 p.q, .int .i64 p.b, .int .i64 p.g] 57) = w1 at HI ⊢
          generalize w.heap.size = b1 at HI ⊢
          have kx : ∀ w', Grow w1.drew w' → VarAt w' b1 [.int .i64 p.q, .int .i64 p.b, .int .i64 p.g] := fun w' h => HI.out.1.grow ((Grow.refl w1).drew.trans h)
          have hd : decide (p.b < 0) = false := by simp; omega
          have hd2 : decide (se - 2 * p.g < p.b) = true := by simp; omega
          refine wp_region_sched (by kernel_rfl) [(0, false), (1, false), (2, false), (3, false), (4, false), (5, false), (6, false), (7, false), (8, true), (9, false), (10, false), (11, false), (12, false)] (by kernel_rfl) (by kernel_rfl) rfl (fun _ _ d _ _ h => by cases d <;> exact h) ?_
          simp only [inOrder, List.filterMap_cons, List.filterMap_nil, List.getElem?_toArray, List.getElem?_cons_zero, List.getElem?_cons_succ, Option.map_some]
          repeat (first
            | (refine wpS_move rfl ?_; simp only [Act.eval, Act.put, Array.getD_eq_getD_getElem?, List.getElem?_toArray, List.getElem?_cons_zero, List.getElem?_cons_succ, Option.getD_some, List.setIfInBounds_toArray, List.set_cons_zero, List.set_cons_succ])
            | (refine wpS_assign rfl ?_; simp only [Act.eval, Act.put, Array.getD_eq_getD_getElem?, List.getElem?_toArray, List.getElem?_cons_zero, List.getElem?_cons_succ, Option.getD_some, List.setIfInBounds_toArray, List.set_cons_zero, List.set_cons_succ])
            | (refine wpS_read (v := ?_) rfl ?_ ?_; rotate_left; (focus (intro w' hG; obtain ⟨⟨k0, k1, k2⟩, -⟩ := (kx w' hG).three; go_simp; try (with_reducible rfl))); simp only [Act.put, List.setIfInBounds_toArray, List.set_cons_zero, List.set_cons_succ])
            | (refine wpS_skip rfl ?_; simp only [Act.put, List.setIfInBounds_toArray, List.set_cons_zero, List.set_cons_succ]))
          refine wpS_call (f := ?_) (args := ?_) (by rfl) ?_ ?_
          rotate_left 2; focus (go_simp; constructor <;> with_reducible rfl)
          refine (hsz w1.drew).mono ?_
          rintro e w2 ⟨rfl, g2⟩
          refine ⟨_, rfl, g2, ?_⟩
          simp only [Act.put, List.setIfInBounds_toArray, List.set_cons_zero, List.set_cons_succ]
          repeat (first
            | (refine wpS_move rfl ?_; simp only [Act.eval, Act.put, Array.getD_eq_getD_getElem?, List.getElem?_toArray, List.getElem?_cons_zero, List.getElem?_cons_succ, Option.getD_some, List.setIfInBounds_toArray, List.set_cons_zero, List.set_cons_succ])
            | (refine wpS_assign rfl ?_; simp only [Act.eval, Act.put, Array.getD_eq_getD_getElem?, List.getElem?_toArray, List.getElem?_cons_zero, List.getElem?_cons_succ, Option.getD_some, List.setIfInBounds_toArray, List.set_cons_zero, List.set_cons_succ])
            | (refine wpS_read (v := ?_) rfl ?_ ?_; rotate_left; (focus (intro w' hG; skip; go_simp; try (with_reducible rfl))); simp only [Act.put, List.setIfInBounds_toArray, List.set_cons_zero, List.set_cons_succ])
            | (refine wpS_skip rfl ?_; simp only [Act.put, List.setIfInBounds_toArray, List.set_cons_zero, List.set_cons_succ]))
          refine wpS_nil ?_
          go_wp2
          go_ret
          exact ⟨rfl, (HI.out.2.trans (Grow.refl w1).drew).trans g2⟩
        · skip
          have e0 : decide (1 ≤ p.q ∧ p.q ≤ 64) = true := by simp; omega
          have c0 := fun w' => upto_any p.q 64 w'
          rw [e0] at c0
          clear e0
          have e1 : decide (1 ≤ p.g ∧ p.g ≤ 64) = true := by simp; omega
          have c1 := fun w' => upto_any p.g 64 w'
          rw [e1] at c1
          clear e1
          have en : ownF p se = 0 := by
            unfold ownF
            rw [if_neg (by omega), if_neg (by omega), if_neg (by omega)]
          rw [en]
          clear en
          have hsz := fun w' => size_any p w' (by omega) (by omega)
          have hw1 : IntKind.i64.wrap (se - 2 * p.g) = se - 2 * p.g := by rw [IntKind.wrap_i64]; omega
          clear h0 h1 hse
          go_enter Try.func59, Try.ntmps59
          go_wp2_with fail
          refine (c0 _).mono ?_
          rintro e w' ⟨rfl, rfl⟩
          go_wp2_with fail
          refine (c1 _).mono ?_
          rintro e w' ⟨rfl, rfl⟩
          have HI : Hid (VarAt (w.alloc (.cells #[.int .i64 p.q, .int .i64 p.b, .int .i64 p.g] 57)) w.heap.size [.int .i64 p.q, .int .i64 p.b, .int .i64 p.g] ∧ Grow w (w.alloc (.cells #[.int .i64 p.q, .int .i64 p.b, .int .i64 p.g] 57))) := ⟨VarAt.new w [.int .i64 p.q, .int .i64 p.b, .int .i64 p.g] _, (Grow.refl w).alloc _⟩
          go_wp2
          generalize w.alloc (.cells #[.int .i64 p.q, .int .i64 p.b, .int .i64 p.g] 57) = w1 at HI ⊢
          generalize w.heap.size = b1 at HI ⊢
          have kx : ∀ w', Grow w1.drew w' → VarAt w' b1 [.int .i64 p.q, .int .i64 p.b, .int .i64 p.g] := fun w' h => HI.out.1.grow ((Grow.refl w1).drew.trans h)
          have hd : decide (p.b < 0) = false := by simp; omega
          have hd2 : decide (se - 2 * p.g < p.b) = false := by simp; omega
          refine wp_region_sched (by kernel_rfl) [(0, false), (1, false), (2, false), (3, false), (4, false), (5, false), (6, false), (7, false), (8, true), (9, false), (10, false), (11, false), (12, false)] (by kernel_rfl) (by kernel_rfl) rfl (fun _ _ d _ _ h => by cases d <;> exact h) ?_
          simp only [inOrder, List.filterMap_cons, List.filterMap_nil, List.getElem?_toArray, List.getElem?_cons_zero, List.getElem?_cons_succ, Option.map_some]
          repeat (first
            | (refine wpS_move rfl ?_; simp only [Act.eval, Act.put, Array.getD_eq_getD_getElem?, List.getElem?_toArray, List.getElem?_cons_zero, List.getElem?_cons_succ, Option.getD_some, List.setIfInBounds_toArray, List.set_cons_zero, List.set_cons_succ])
            | (refine wpS_assign rfl ?_; simp only [Act.eval, Act.put, Array.getD_eq_getD_getElem?, List.getElem?_toArray, List.getElem?_cons_zero, List.getElem?_cons_succ, Option.getD_some, List.setIfInBounds_toArray, List.set_cons_zero, List.set_cons_succ])
            | (refine wpS_read (v := ?_) rfl ?_ ?_; rotate_left; (focus (intro w' hG; obtain ⟨⟨k0, k1, k2⟩, -⟩ := (kx w' hG).three; go_simp; try (with_reducible rfl))); simp only [Act.put, List.setIfInBounds_toArray, List.set_cons_zero, List.set_cons_succ])
            | (refine wpS_skip rfl ?_; simp only [Act.put, List.setIfInBounds_toArray, List.set_cons_zero, List.set_cons_succ]))
          refine wpS_call (f := ?_) (args := ?_) (by rfl) ?_ ?_
          rotate_left 2; focus (go_simp; constructor <;> with_reducible rfl)
          refine (hsz w1.drew).mono ?_
          rintro e w2 ⟨rfl, g2⟩
          refine ⟨_, rfl, g2, ?_⟩
          simp only [Act.put, List.setIfInBounds_toArray, List.set_cons_zero, List.set_cons_succ]
          repeat (first
            | (refine wpS_move rfl ?_; simp only [Act.eval, Act.put, Array.getD_eq_getD_getElem?, List.getElem?_toArray, List.getElem?_cons_zero, List.getElem?_cons_succ, Option.getD_some, List.setIfInBounds_toArray, List.set_cons_zero, List.set_cons_succ])
            | (refine wpS_assign rfl ?_; simp only [Act.eval, Act.put, Array.getD_eq_getD_getElem?, List.getElem?_toArray, List.getElem?_cons_zero, List.getElem?_cons_succ, Option.getD_some, List.setIfInBounds_toArray, List.set_cons_zero, List.set_cons_succ])
            | (refine wpS_read (v := ?_) rfl ?_ ?_; rotate_left; (focus (intro w' hG; skip; go_simp; try (with_reducible rfl))); simp only [Act.put, List.setIfInBounds_toArray, List.set_cons_zero, List.set_cons_succ])
            | (refine wpS_skip rfl ?_; simp only [Act.put, List.setIfInBounds_toArray, List.set_cons_zero, List.set_cons_succ]))
          refine wpS_nil ?_
          go_wp2
          go_ret
          exact ⟨rfl, (HI.out.2.trans (Grow.refl w1).drew).trans g2⟩
    · skip
      have e0 : decide (1 ≤ p.q ∧ p.q ≤ 64) = true := by simp; omega
      have c0 := fun w' => upto_any p.q 64 w'
      rw [e0] at c0
      clear e0
      have e1 : decide (1 ≤ p.g ∧ p.g ≤ 64) = false := by simp; omega
      have c1 := fun w' => upto_any p.g 64 w'
      rw [e1] at c1
      clear e1
      have en : ownF p se = 6 := by
        unfold ownF
        rw [if_neg (by omega), if_pos (by omega)]
      rw [en]
      clear en
      go_enter Try.func59, Try.ntmps59
      go_wp2_with fail
      refine (c0 _).mono ?_
      rintro e w' ⟨rfl, rfl⟩
      go_wp2_with fail
      refine (c1 _).mono ?_
      rintro e w' ⟨rfl, rfl⟩
      go_wp2
      go_ret
      exact ⟨rfl, (Grow.refl w).alloc _⟩
  · skip
    have e0 : decide (1 ≤ p.q ∧ p.q ≤ 64) = false := by simp; omega
    have c0 := fun w' => upto_any p.q 64 w'
    rw [e0] at c0
    clear e0
    have en : ownF p se = 5 := by
      unfold ownF
      rw [if_pos (by omega)]
    rw [en]
    clear en
    go_enter Try.func59, Try.ntmps59
    go_wp2_with fail
    refine (c0 _).mono ?_
    rintro e w' ⟨rfl, rfl⟩
    go_wp2
    go_ret
    exact ⟨rfl, (Grow.refl w).alloc _⟩

set_option maxHeartbeats 4000000 in
theorem quo_any {p : Nat → Prop} (v : Value) (ps : List Pt) (w : World) (h : RdP p w v ps) (hq : ∀ x ∈ ps, 0 ≤ x.q ∧ x.q ≤ 64) (hn : ps.length ≤ 16) :
    Calls Try.prog 54 #[v] w fun e w' => e = .returned (.int .i64 (qsum ps)) ∧ Grow w w' := by
  have HR : Hid (RdP p w v ps ∧ ∀ x ∈ ps, 0 ≤ x.q ∧ x.q ≤ 64) := ⟨h, hq⟩
  obtain ⟨a, cp, rfl, h1, h2, -⟩ := h
  unfold maxLen at h2
  clear hq
  go_enter Try.func54, Try.ntmps54
  go_wp2
  go_loopg [3, 8] ps.length (fun m sv iv wr => ∃ (j : Nat) (s : Int), m = ps.length - j ∧ j ≤ ps.length ∧ sv = .int .i64 s ∧ iv = .int .i64 j ∧ 0 ≤ s ∧ s ≤ 64 * j ∧ Hid (s = qsum (ps.take j) ∧ Grow w wr))
  case atStart => exact ⟨0, 0, by omega, by omega, rfl, rfl, by omega, by omega, rfl, Grow.refl w⟩
  case round =>
    obtain ⟨j, s, hk, hj, rfl, rfl, hs0, hs1, X⟩ := hrel
    by_cases hlt : j < ps.length
    · have hle : (j : Int) < (ps.length : Int) := by omega
      have HL : Hid (j < ps.length ∧ gk = ps.length - j) := ⟨hlt, hk⟩
      obtain ⟨bb, oo, rfl, _, _, hin⟩ := rdP_at HR.out.1 hlt
      have hdq := HR.out.2 _ (getD_mem hlt)
      have hsn := qsum_next ps j hlt
      generalize ps.getD j Pt.zero = d at hin hdq hsn
      have HN : Hid (qsum (ps.take (j + 1)) = qsum (ps.take j) + d.q) := hsn
      obtain ⟨k0, k1, k2⟩ := hin.grow X.out.2
      clear hin hsn
      have hw1 : IntKind.i64.wrap ((j : Int) + 1) = (j : Int) + 1 := by rw [IntKind.wrap_i64]; omega
      have hw2 : IntKind.i64.wrap (s + d.q) = s + d.q := by rw [IntKind.wrap_i64]; omega
      go_wp2
      go_roundg (ps.length - (j + 1))
      case measure => omega
      case rel => exact ⟨j + 1, s + d.q, rfl, HL.out.1, rfl, by go_num, by omega, by omega, by rw [HN.out, X.out.1], X.out.2.alloc _⟩
    · have hle : ¬ (j : Int) < (ps.length : Int) := by omega
      obtain rfl : j = ps.length := by omega
      have HS : Hid (s = qsum ps ∧ Grow w wr) := by
        have := X.out
        rw [List.take_length] at this
        exact this
      clear X
      go_wp2
      go_ret
      exact ⟨ret_int HS.out.1, HS.out.2⟩
end Go.Proofs.Ytlcphhlimcnnaaa
