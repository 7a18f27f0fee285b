/-
  The walks of Check, May and the law's example. Conditions: each theorem's own.
-/
import Derived.Test.YtlcphhlimcnnaaaCfgPart
namespace Go.Proofs.Ytlcphhlimcnnaaa
open Go.RowKit
set_option linter.unusedVariables false
set_option linter.unusedSimpArgs false

theorem quota_all {se : Int} {ps : List Pt} (h : (pf se ps).1 = 0) : ∀ x ∈ ps, 0 ≤ x.q ∧ x.q ≤ 64 := by
  intro x hx
  obtain ⟨i, hi, e⟩ := mem_getD hx
  have := ownF_zero (faultAt_zero hi (pf_all h i hi)).1
  rw [e] at this
  omega

set_option maxHeartbeats 4000000 in
theorem check_any {p : Nat → Prop} (fr dp se : Int) (v : Value) (ps : List Pt) (w : World) (h : RdP p w v ps) :
    Calls Try.prog 43 #[.agg #[.int .i64 fr, .int .i64 dp, .int .i64 se, v]] w fun e w' => e = .returned (.tuple #[.string (wh (ck fr dp se ps).1), .int .i64 (ck fr dp se ps).2]) ∧ Grow w w' := by
  have HR : Hid (RdP p w v ps) := h
  have HI : Hid (VarAt (w.alloc (.cells #[.int .i64 fr, .int .i64 dp, .int .i64 se, v] 24)) w.heap.size [.int .i64 fr, .int .i64 dp, .int .i64 se, v] ∧ Grow w (w.alloc (.cells #[.int .i64 fr, .int .i64 dp, .int .i64 se, v] 24))) := ⟨VarAt.new w [.int .i64 fr, .int .i64 dp, .int .i64 se, v] _, (Grow.refl w).alloc _⟩
  obtain ⟨a, cp, rfl, h1, h2, -⟩ := h
  unfold maxLen at h2
  have hnum := fun w' => num_any fr dp se a ps.length cp w'
  by_cases hn : numF ps.length fr dp se = 0
  · have hb := numF_zero hn
    rw [hn] at hnum
    have hpart := fun w' (g : Grow w w') => part_any fr dp se _ ps w' (HR.out.grow g) ⟨by omega, by omega⟩ (by omega)
    by_cases hp : (pf se ps).1 = 0
    · have hq := fun w' (g : Grow w w') => quo_any _ ps w' (HR.out.grow g) (quota_all hp) (by omega)
      have e0 := pf_pair hp
      rw [e0] at hpart
      simp only at hpart
      have hne := wh_none
      have HC : Hid ((qsum ps = fr → ck fr dp se ps = (0, 0)) ∧ (qsum ps ≠ fr → ck fr dp se ps = (9, 0))) := ⟨fun hs => ck_ok hn hp hs, fun hs => ck_sum hn hp hs⟩
      generalize wh 0 = s0 at hnum hpart hne
      generalize qsum ps = S at hq HC
      clear hb hn hp e0
      by_cases hs : S = fr
      · have hd : (S == fr) = true := by simp [hs]
        have hd2 : (S != fr) = false := by simp [hs]
        have HP : Hid (ck fr dp se ps = (0, 0)) := HC.out.1 hs
        clear hs
        go_enter Try.func43, Try.ntmps43
        go_wp2_with fail
        refine (hnum _).mono ?_
        rintro e w2 ⟨rfl, g2⟩
        obtain ⟨⟨m0, m1, m2, m3⟩, -⟩ := (HI.out.1.grow g2).four
        go_wp2_with fail
        refine (hpart _ (HI.out.2.trans g2)).mono ?_
        rintro e w3 ⟨rfl, g3⟩
        have X : Hid (VarAt w3 w.heap.size [.int .i64 fr, .int .i64 dp, .int .i64 se, .slice a ps.length cp] ∧ Grow w w3) := ⟨(HI.out.1.grow g2).grow g3, (HI.out.2.trans g2).trans g3⟩
        clear m0 m1 m2 m3 g2 g3 HI
        generalize w.heap.size = b1 at X ⊢
        go_wp2
        have kx : ∀ w', Grow w3.drew w' → VarAt w' b1 [.int .i64 fr, .int .i64 dp, .int .i64 se, .slice a ps.length cp] := fun w' h => X.out.1.grow ((Grow.refl w3).drew.trans h)
        refine wp_region_sched (by kernel_rfl) [(0, false), (1, false), (3, false), (4, false), (2, true), (5, false)] (by kernel_rfl) (by kernel_rfl) rfl (fun _ _ d _ _ h => by cases d <;> exact h) ?_
        simp only [inOrder, List.filterMap_cons, List.filterMap_nil, List.getElem?_toArray, List.getElem?_cons_zero, List.getElem?_cons_succ, Option.map_some]
        repeat (first
          | (refine wpS_move rfl ?_; simp only [Act.eval, Act.put, Array.getD_eq_getD_getElem?, List.getElem?_toArray, List.getElem?_cons_zero, List.getElem?_cons_succ, Option.getD_some, List.setIfInBounds_toArray, List.set_cons_zero, List.set_cons_succ])
          | (refine wpS_assign rfl ?_; simp only [Act.eval, Act.put, Array.getD_eq_getD_getElem?, List.getElem?_toArray, List.getElem?_cons_zero, List.getElem?_cons_succ, Option.getD_some, List.setIfInBounds_toArray, List.set_cons_zero, List.set_cons_succ])
          | (refine wpS_read (v := ?_) rfl ?_ ?_; rotate_left; (focus (intro w' hG; obtain ⟨⟨k0, k1, k2, k3⟩, -⟩ := (kx w' hG).four; go_simp; try (with_reducible rfl))); simp only [Act.put, List.setIfInBounds_toArray, List.set_cons_zero, List.set_cons_succ])
          | (refine wpS_skip rfl ?_; simp only [Act.put, List.setIfInBounds_toArray, List.set_cons_zero, List.set_cons_succ]))
        refine wpS_call (f := ?_) (args := ?_) (by rfl) ?_ ?_
        rotate_left 2; focus (go_simp; constructor <;> with_reducible rfl)
        refine (hq w3.drew (X.out.2.trans (Grow.refl w3).drew)).mono ?_
        rintro e w4 ⟨rfl, g4⟩
        refine ⟨_, rfl, g4, ?_⟩
        simp only [Act.put, List.setIfInBounds_toArray, List.set_cons_zero, List.set_cons_succ]
        repeat (first
          | (refine wpS_move rfl ?_; simp only [Act.eval, Act.put, Array.getD_eq_getD_getElem?, List.getElem?_toArray, List.getElem?_cons_zero, List.getElem?_cons_succ, Option.getD_some, List.setIfInBounds_toArray, List.set_cons_zero, List.set_cons_succ])
          | (refine wpS_assign rfl ?_; simp only [Act.eval, Act.put, Array.getD_eq_getD_getElem?, List.getElem?_toArray, List.getElem?_cons_zero, List.getElem?_cons_succ, Option.getD_some, List.setIfInBounds_toArray, List.set_cons_zero, List.set_cons_succ])
          | (refine wpS_read (v := ?_) rfl ?_ ?_; rotate_left; (focus (intro w' hG; skip; go_simp; try (with_reducible rfl))); simp only [Act.put, List.setIfInBounds_toArray, List.set_cons_zero, List.set_cons_succ])
          | (refine wpS_skip rfl ?_; simp only [Act.put, List.setIfInBounds_toArray, List.set_cons_zero, List.set_cons_succ]))
        refine wpS_nil ?_
        go_wp2
        go_ret2
        exact ⟨ret_pair (by rw [HP.out]; rfl) (by rw [HP.out]), (X.out.2.trans (Grow.refl w3).drew).trans g4⟩
      · have hd : (S == fr) = false := by simp [hs]
        have hd2 : (S != fr) = true := by simp [hs]
        have HP : Hid (ck fr dp se ps = (9, 0)) := HC.out.2 hs
        clear hs
        go_enter Try.func43, Try.ntmps43
        go_wp2_with fail
        refine (hnum _).mono ?_
        rintro e w2 ⟨rfl, g2⟩
        obtain ⟨⟨m0, m1, m2, m3⟩, -⟩ := (HI.out.1.grow g2).four
        go_wp2_with fail
        refine (hpart _ (HI.out.2.trans g2)).mono ?_
        rintro e w3 ⟨rfl, g3⟩
        have X : Hid (VarAt w3 w.heap.size [.int .i64 fr, .int .i64 dp, .int .i64 se, .slice a ps.length cp] ∧ Grow w w3) := ⟨(HI.out.1.grow g2).grow g3, (HI.out.2.trans g2).trans g3⟩
        clear m0 m1 m2 m3 g2 g3 HI
        generalize w.heap.size = b1 at X ⊢
        go_wp2
        have kx : ∀ w', Grow w3.drew w' → VarAt w' b1 [.int .i64 fr, .int .i64 dp, .int .i64 se, .slice a ps.length cp] := fun w' h => X.out.1.grow ((Grow.refl w3).drew.trans h)
        refine wp_region_sched (by kernel_rfl) [(0, false), (1, false), (3, false), (4, false), (2, true), (5, false)] (by kernel_rfl) (by kernel_rfl) rfl (fun _ _ d _ _ h => by cases d <;> exact h) ?_
        simp only [inOrder, List.filterMap_cons, List.filterMap_nil, List.getElem?_toArray, List.getElem?_cons_zero, List.getElem?_cons_succ, Option.map_some]
        repeat (first
          | (refine wpS_move rfl ?_; simp only [Act.eval, Act.put, Array.getD_eq_getD_getElem?, List.getElem?_toArray, List.getElem?_cons_zero, List.getElem?_cons_succ, Option.getD_some, List.setIfInBounds_toArray, List.set_cons_zero, List.set_cons_succ])
          | (refine wpS_assign rfl ?_; simp only [Act.eval, Act.put, Array.getD_eq_getD_getElem?, List.getElem?_toArray, List.getElem?_cons_zero, List.getElem?_cons_succ, Option.getD_some, List.setIfInBounds_toArray, List.set_cons_zero, List.set_cons_succ])
          | (refine wpS_read (v := ?_) rfl ?_ ?_; rotate_left; (focus (intro w' hG; obtain ⟨⟨k0, k1, k2, k3⟩, -⟩ := (kx w' hG).four; go_simp; try (with_reducible rfl))); simp only [Act.put, List.setIfInBounds_toArray, List.set_cons_zero, List.set_cons_succ])
          | (refine wpS_skip rfl ?_; simp only [Act.put, List.setIfInBounds_toArray, List.set_cons_zero, List.set_cons_succ]))
        refine wpS_call (f := ?_) (args := ?_) (by rfl) ?_ ?_
        rotate_left 2; focus (go_simp; constructor <;> with_reducible rfl)
        refine (hq w3.drew (X.out.2.trans (Grow.refl w3).drew)).mono ?_
        rintro e w4 ⟨rfl, g4⟩
        refine ⟨_, rfl, g4, ?_⟩
        simp only [Act.put, List.setIfInBounds_toArray, List.set_cons_zero, List.set_cons_succ]
        repeat (first
          | (refine wpS_move rfl ?_; simp only [Act.eval, Act.put, Array.getD_eq_getD_getElem?, List.getElem?_toArray, List.getElem?_cons_zero, List.getElem?_cons_succ, Option.getD_some, List.setIfInBounds_toArray, List.set_cons_zero, List.set_cons_succ])
          | (refine wpS_assign rfl ?_; simp only [Act.eval, Act.put, Array.getD_eq_getD_getElem?, List.getElem?_toArray, List.getElem?_cons_zero, List.getElem?_cons_succ, Option.getD_some, List.setIfInBounds_toArray, List.set_cons_zero, List.set_cons_succ])
          | (refine wpS_read (v := ?_) rfl ?_ ?_; rotate_left; (focus (intro w' hG; skip; go_simp; try (with_reducible rfl))); simp only [Act.put, List.setIfInBounds_toArray, List.set_cons_zero, List.set_cons_succ])
          | (refine wpS_skip rfl ?_; simp only [Act.put, List.setIfInBounds_toArray, List.set_cons_zero, List.set_cons_succ]))
        refine wpS_nil ?_
        go_wp2
        go_ret2
        exact ⟨ret_pair (by rw [HP.out]; rfl) (by rw [HP.out]), (X.out.2.trans (Grow.refl w3).drew).trans g4⟩
    · have hne := wh_none
      have hne2 := wh_some hp
      have HP : Hid (ck fr dp se ps = pf se ps) := ck_part hn hp
      have HS : Hid (wh (ck fr dp se ps).1 = wh (pf se ps).1 ∧ (ck fr dp se ps).2 = (pf se ps).2) := by rw [HP.out]; exact ⟨rfl, rfl⟩
      generalize wh 0 = s0 at hnum hne
      generalize wh (pf se ps).1 = s1 at hpart hne2 HS
      generalize (pf se ps).2 = k1 at hpart HS
      clear hb hn hp
      go_enter Try.func43, Try.ntmps43
      go_wp2_with fail
      refine (hnum _).mono ?_
      rintro e w2 ⟨rfl, g2⟩
      obtain ⟨⟨m0, m1, m2, m3⟩, -⟩ := (HI.out.1.grow g2).four
      go_wp2_with fail
      refine (hpart _ (HI.out.2.trans g2)).mono ?_
      rintro e w3 ⟨rfl, g3⟩
      go_wp2
      go_ret2
      exact ⟨ret_pair HS.out.1.symm HS.out.2.symm, (HI.out.2.trans g2).trans g3⟩
  · have hne := wh_some hn
    have HS : Hid (wh (ck fr dp se ps).1 = wh (numF ps.length fr dp se) ∧ (ck fr dp se ps).2 = 0) := by rw [ck_num hn]; exact ⟨rfl, rfl⟩
    generalize wh (numF ps.length fr dp se) = s1 at hnum hne HS
    clear hn
    go_enter Try.func43, Try.ntmps43
    go_wp2_with fail
    refine (hnum _).mono ?_
    rintro e w2 ⟨rfl, g2⟩
    go_wp2
    go_ret2
    exact ⟨ret_pair HS.out.1.symm HS.out.2.symm, HI.out.2.trans g2⟩

theorem wh_empty (k : Nat) : (wh k).toList.isEmpty = decide (k = 0) := by
  by_cases h : k = 0
  · subst h; rw [wh_none]; rfl
  · rw [wh_some h]; simp [h]

set_option maxHeartbeats 4000000 in
theorem may_any {p : Nat → Prop} (fr dp se : Int) (v : Value) (ps : List Pt) (w : World) (h : RdP p w v ps) :
    Calls Try.prog 27 #[.agg #[.int .i64 fr, .int .i64 dp, .int .i64 se, v]] w fun e w' => e = .returned (.bool (decide ((ck fr dp se ps).1 = 0))) ∧ Grow w w' := by
  have HR : Hid (RdP p w v ps) := h
  have HG : Hid (Grow w (w.alloc (.cells #[.int .i64 fr, .int .i64 dp, .int .i64 se, v] 24))) := (Grow.refl w).alloc _
  obtain ⟨a, cp, rfl, h1, h2, -⟩ := h
  have hc := fun w' (g : Grow w w') => check_any fr dp se _ ps w' (HR.out.grow g)
  have hne := wh_empty (ck fr dp se ps).1
  generalize wh (ck fr dp se ps).1 = s1 at hc hne
  generalize (ck fr dp se ps).2 = k1 at hc
  generalize decide ((ck fr dp se ps).1 = 0) = t at hne ⊢
  go_enter Try.func27, Try.ntmps27
  go_wp2_with fail
  refine (hc _ HG.out).mono ?_
  rintro e w2 ⟨rfl, g2⟩
  go_wp2
  go_ret
  exact ⟨rfl, HG.out.trans g2⟩

end Go.Proofs.Ytlcphhlimcnnaaa
