/-
  The walks of slots' calls and of the document's Owner, Next, Count. Conditions: each theorem's own.
-/
import Derived.Test.YtfbhngmolifkaaaSloMath
import Derived.Test.YtfbhngmolifkaaaAround
import Derived.Test.YtfbhngmolifkaaaSched
import Derived.Test.YtfbhngmolifkaaaWords
import Derived.Test.YtfbhngmolifkaaaEnds
import Derived.Deep.LoopGhost
namespace Go.Proofs.Ytfbhngmolifkaaa
open Go.RowKit
set_option linter.unusedVariables false
set_option linter.unusedSimpArgs false

/-- a schedule of n tenants at b -/
def SAt (w : World) (b : Nat) (n : Int) : Prop := w.cell? ⟨b, 0, none⟩ = some (.int .i64 n)
theorem SAt.grow {w w' : World} {b : Nat} {n : Int} (h : SAt w b n) (g : Grow w w') : SAt w' b n := by
  unfold SAt at *
  rw [Below.cell (p := ⟨b, 0, none⟩) g (World.block_lt_of_cell? _ _ h)]; exact h
theorem SAt.new (w : World) (n : Int) (t : Nat) : SAt (w.alloc (.cells #[.int .i64 n] t)) w.heap.size n := (World.cell?_alloc_new w _ _ _).trans (by simp)

set_option maxHeartbeats 1000000 in
theorem new_no (n : Int) (w : World) (h : n < 1 ∨ 16 < n) :
    Calls Try.prog 10 #[.int .i64 n] w fun e w' => e = .returned (.tuple #[.pointer none, .int .i64 1]) ∧ w = w' := by
  by_cases h1 : n < 1
  · clear h
    go_enter Try.func10, Try.ntmps10
    go_wp2
    go_ret2
    exact ⟨rfl, rfl⟩
  · have h2 : 16 < n := by omega
    clear h
    go_enter Try.func10, Try.ntmps10
    go_wp2
    go_ret2
    exact ⟨rfl, rfl⟩

set_option maxHeartbeats 1000000 in
theorem new_yes (n : Int) (w : World) (h1 : 1 ≤ n) (h2 : n ≤ 16) :
    Calls Try.prog 10 #[.int .i64 n] w fun e w' => ∃ b, e = .returned (.tuple #[.pointer (some ⟨b, 0, none⟩), .int .i64 0]) ∧ SAt w' b n ∧ Grow w w' := by
  have g1 : ¬ n < 1 := by omega
  have g2 : ¬ 16 < n := by omega
  have H : Hid (SAt (w.alloc (.cells #[.int .i64 n] 40)) w.heap.size n) := SAt.new w n _
  go_enter Try.func10, Try.ntmps10
  go_wp2
  go_ret2
  exact ⟨_, rfl, H.out, (Grow.refl w).alloc _⟩


set_option maxHeartbeats 1000000 in
theorem len_any (w : World) (b : Nat) (n : Int) (h : SAt w b n) : Calls Try.prog 15 #[.pointer (some ⟨b, 0, none⟩)] w fun e w' => e = .returned (.int .i64 n) ∧ w = w' := by
  unfold SAt at h
  go_enter Try.func15, Try.ntmps15
  go_wp2
  go_ret
  exact ⟨rfl, rfl⟩

set_option maxHeartbeats 1000000 in
theorem owner_any (w : World) (b : Nat) (n : Int) (h : SAt w b n) (t : Int) (h1 : 1 ≤ n) (h2 : n ≤ 16) (h3 : 0 ≤ t) : Calls Try.prog 12 #[.pointer (some ⟨b, 0, none⟩), .int .i64 t] w fun e w' => e = .returned (.int .i64 (t % n)) ∧ w = w' := by
  unfold SAt at h
  have hb := own_bd (t := t) h1
  have hne : (n == 0) = false := by rw [beq_eq_false_iff_ne]; omega
  have hn0 : 0 ≤ n := by omega
  have hwm : IntKind.i64.wrap (t % n) = t % n := by rw [IntKind.wrap_i64]; omega
  go_enter Try.func12, Try.ntmps12
  go_wp2
  go_ret
  exact ⟨rfl, rfl⟩

set_option maxHeartbeats 1000000 in
theorem wait_any (w : World) (b : Nat) (n : Int) (h : SAt w b n) (k : Int) (h1 : 1 ≤ n) (h2 : n ≤ 16) (h3 : 0 ≤ k) (h4 : k ≤ 1048576) : Calls Try.prog 21 #[.pointer (some ⟨b, 0, none⟩), .int .i64 k] w fun e w' => e = .returned (.int .i64 (k * n)) ∧ w = w' := by
  unfold SAt at h
  have hk0 : 0 ≤ k * n := Int.mul_nonneg h3 (by omega)
  have hk1 : k * n ≤ 1048576 * 16 := Int.mul_le_mul h4 h2 (by omega) (by omega)
  have hwm : IntKind.i64.wrap (k * n) = k * n := by rw [IntKind.wrap_i64]; omega
  go_enter Try.func21, Try.ntmps21
  go_wp2
  go_ret
  exact ⟨rfl, rfl⟩

set_option maxHeartbeats 1000000 in
theorem next_any (w : World) (b : Nat) (n : Int) (h : SAt w b n) (t i : Int) (h1 : 1 ≤ n) (h2 : n ≤ 16) (h3 : 0 ≤ t) (h3' : t ≤ 4000000000000) (h4 : 0 ≤ i) (h5 : i < n) : Calls Try.prog 17 #[.pointer (some ⟨b, 0, none⟩), .int .i64 t, .int .i64 i] w fun e w' => e = .returned (.int .i64 (nxt n t i)) ∧ Grow w w' := by
  have ho := owner_any w.drew b n (h.grow (Grow.refl w).drew) t h1 h2 h3
  have kx : ∀ w', Grow w.drew w' → w'.cell? ⟨b, 0, none⟩ = some (.int .i64 n) := fun w' g => h.grow ((Grow.refl w).drew.trans g)
  have E : Hid (nxt n t i = t + (i - t % n + n) % n) := rfl
  rw [E.out]
  obtain ⟨hb0, hb1⟩ := own_bd (t := t) h1
  clear h E
  generalize t % n = m at ho hb0 hb1 ⊢
  obtain ⟨x, hx⟩ : ∃ x, x = i - m := ⟨_, rfl⟩
  obtain ⟨y, hy⟩ : ∃ y, y = x + n := ⟨_, rfl⟩
  have hw1 : IntKind.i64.wrap (i - m) = x := by rw [IntKind.wrap_i64]; omega
  have hw2 : IntKind.i64.wrap (x + n) = y := by rw [IntKind.wrap_i64]; omega
  have hy0 : 0 ≤ y := by omega
  rw [← hx, ← hy]
  clear hx hy
  obtain ⟨hc0, hc1⟩ := own_bd (t := y) h1
  have hw3 : IntKind.i64.wrap (y % n) = y % n := by rw [IntKind.wrap_i64]; omega
  have hw4 : IntKind.i64.wrap (t + y % n) = t + y % n := by rw [IntKind.wrap_i64]; omega
  have hne : (n == 0) = false := by rw [beq_eq_false_iff_ne]; omega
  have hn0 : 0 ≤ n := by omega
  have hn1 : ¬ n = 0 := by omega
  have htm : Int.tmod y n = y % n := Int.tmod_eq_emod_of_nonneg hy0
  go_enter Try.func17, Try.ntmps17
  go_wp2
  refine wp_region_sched (by kernel_rfl) [(0, false), (1, false), (2, false), (3, false), (6, false), (7, false), (8, false), (9, false), (11, false), (12, false), (13, false), (14, false), (4, true), (5, false), (10, false), (15, false), (16, false), (17, false)] (by kernel_rfl) (by kernel_rfl) rfl (fun _ _ d _ _ h => by cases d <;> exact h) ?_
  simp only [inOrder, List.filterMap_cons, List.filterMap_nil, List.getElem?_toArray, List.getElem?_cons_zero, List.getElem?_cons_succ, Option.map_some]
  repeat (first
    | (refine wpS_move rfl ?_; simp only [Act.eval, Act.put, Array.getD_eq_getD_getElem?, List.getElem?_toArray, List.getElem?_cons_zero, List.getElem?_cons_succ, Option.getD_some, List.setIfInBounds_toArray, List.set_cons_zero, List.set_cons_succ])
    | (refine wpS_assign rfl ?_; simp only [Act.eval, Act.put, Array.getD_eq_getD_getElem?, List.getElem?_toArray, List.getElem?_cons_zero, List.getElem?_cons_succ, Option.getD_some, List.setIfInBounds_toArray, List.set_cons_zero, List.set_cons_succ])
    | (refine wpS_read (v := ?_) rfl ?_ ?_; rotate_left; (focus (intro w' hG; have k1 := kx w' hG; go_simp; try (with_reducible rfl))); simp only [Act.put, List.setIfInBounds_toArray, List.set_cons_zero, List.set_cons_succ])
    | (refine wpS_skip rfl ?_; simp only [Act.put, List.setIfInBounds_toArray, List.set_cons_zero, List.set_cons_succ]))
  refine wpS_call (f := ?_) (args := ?_) (by rfl) ?_ ?_
  rotate_left 2; focus (go_simp; constructor <;> with_reducible rfl)
  refine (ho).mono ?_
  rintro e w1 ⟨rfl, rfl⟩
  refine ⟨_, rfl, Grow.refl _, ?_⟩
  simp only [Act.put, List.setIfInBounds_toArray, List.set_cons_zero, List.set_cons_succ]
  repeat (first
    | (refine wpS_move rfl ?_; simp only [Act.eval, Act.put, Array.getD_eq_getD_getElem?, List.getElem?_toArray, List.getElem?_cons_zero, List.getElem?_cons_succ, Option.getD_some, List.setIfInBounds_toArray, List.set_cons_zero, List.set_cons_succ])
    | (refine wpS_assign rfl ?_; simp only [Act.eval, Act.put, Array.getD_eq_getD_getElem?, List.getElem?_toArray, List.getElem?_cons_zero, List.getElem?_cons_succ, Option.getD_some, List.setIfInBounds_toArray, List.set_cons_zero, List.set_cons_succ])
    | (refine wpS_read (v := ?_) rfl ?_ ?_; rotate_left; (focus (intro w' hG; skip; go_simp; try (with_reducible rfl))); simp only [Act.put, List.setIfInBounds_toArray, List.set_cons_zero, List.set_cons_succ])
    | (refine wpS_skip rfl ?_; simp only [Act.put, List.setIfInBounds_toArray, List.set_cons_zero, List.set_cons_succ]))
  refine wpS_nil ?_
  clear kx ho
  go_wp2
  go_ret
  exact ⟨rfl, (Grow.refl w).drew⟩

set_option maxHeartbeats 1000000 in
theorem count_any (w : World) (b : Nat) (n : Int) (h : SAt w b n) (t u i : Int) (h1 : 1 ≤ n) (h2 : n ≤ 16) (h3 : 0 ≤ t) (h3' : t ≤ 4000000000000) (h6 : 0 ≤ u) (h6' : u ≤ 4000000000000) (h4 : 0 ≤ i) (h5 : i < n) : Calls Try.prog 19 #[.pointer (some ⟨b, 0, none⟩), .int .i64 t, .int .i64 u, .int .i64 i] w fun e w' => e = .returned (.int .i64 (cnt n t u i)) ∧ Grow w w' := by
  have hnx := next_any w b n h t i h1 h2 h3 h3' h4 h5
  obtain ⟨hb0, hb1⟩ := nxt_bd (t := t) (i := i) h1
  have H : Hid (SAt w b n) := h
  have E : Hid (cnt n t u i = if u ≤ nxt n t i then 0 else 1 + (u - 1 - nxt n t i) / n) := rfl
  rw [E.out]
  clear E
  generalize nxt n t i = f at hnx hb0 hb1 ⊢
  unfold SAt at h
  have hi0 : ¬ i < 0 := by omega
  have hin : ¬ n ≤ i := by omega
  by_cases hf : u ≤ f
  · rw [if_pos hf]
    go_enter Try.func19, Try.ntmps19
    go_wp2_with fail
    refine hnx.mono ?_
    rintro e w1 ⟨rfl, g1⟩
    go_wp2
    go_ret
    exact ⟨rfl, g1⟩
  · rw [if_neg hf]
    obtain ⟨x, hx⟩ : ∃ x, x = u - 1 := ⟨_, rfl⟩
    obtain ⟨y, hy⟩ : ∃ y, y = x - f := ⟨_, rfl⟩
    have hw1 : IntKind.i64.wrap (u - 1) = x := by rw [IntKind.wrap_i64]; omega
    have hw2 : IntKind.i64.wrap (x - f) = y := by rw [IntKind.wrap_i64]; omega
    have hy0 : 0 ≤ y := by omega
    have hy1 : y ≤ 5000000000000 := by omega
    rw [← hx, ← hy]
    clear hx hy
    have hq0 : 0 ≤ y / n := Int.ediv_nonneg hy0 (by omega)
    have hq1 : y / n ≤ y := Int.ediv_le_self _ hy0
    have hw3 : IntKind.i64.wrap (y / n) = y / n := by rw [IntKind.wrap_i64]; omega
    have hw4 : IntKind.i64.wrap (1 + y / n) = 1 + y / n := by rw [IntKind.wrap_i64]; omega
    have hne : (n == 0) = false := by rw [beq_eq_false_iff_ne]; omega
    have hn0 : 0 ≤ n := by omega
    go_enter Try.func19, Try.ntmps19
    go_wp2_with fail
    refine hnx.mono ?_
    rintro e w1 ⟨rfl, g1⟩
    have c1 : w1.cell? ⟨b, 0, none⟩ = some (.int .i64 n) := H.out.grow g1
    clear h
    go_wp2
    go_ret
    exact ⟨rfl, g1⟩

set_option maxHeartbeats 1000000 in
theorem rowner_any (w : World) (n t : Int) (h1 : 1 ≤ n) (h2 : n ≤ 16) (h3 : 0 ≤ t) (h4 : t ≤ 4000000000000) : Calls Try.prog 11 #[.int .i64 n, .int .i64 t] w fun e w' => e = .returned (.int .i64 (t % n)) ∧ w = w' := by
  have E : Hid (t % n = t - t / n * n) := (own_doc n t).symm
  have hb := own_bd (t := t) h1
  rw [E.out] at hb ⊢
  have hq0 : 0 ≤ t / n := Int.ediv_nonneg h3 (by omega)
  have hq1 : t / n ≤ t := Int.ediv_le_self _ h3
  have hw3 : IntKind.i64.wrap (t / n) = t / n := by rw [IntKind.wrap_i64]; omega
  have hw4 : IntKind.i64.wrap (t / n * n) = t / n * n := by rw [IntKind.wrap_i64]; omega
  have hw5 : IntKind.i64.wrap (t - t / n * n) = t - t / n * n := by rw [IntKind.wrap_i64]; omega
  have hne : (n == 0) = false := by rw [beq_eq_false_iff_ne]; omega
  have hn0 : 0 ≤ n := by omega
  clear hb
  go_enter Try.func11, Try.ntmps11
  go_wp2
  go_ret
  exact ⟨rfl, rfl⟩
end Go.Proofs.Ytfbhngmolifkaaa
