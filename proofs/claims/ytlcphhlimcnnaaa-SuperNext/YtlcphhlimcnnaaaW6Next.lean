/-
  The walk of the law SuperNext. Conditions: the theorem's own.
-/
import Derived.Test.YtlcphhlimcnnaaaSupNext
namespace Go.Proofs.Ytlcphhlimcnnaaa
open Go.RowKit
set_option linter.unusedVariables false
set_option linter.unusedSimpArgs false

set_option maxHeartbeats 8000000 in
theorem superNext_walk {p : Nat → Prop} (ep fr dp se : Int) (v : Value) (ps : List Pt) (w : World) (h : RdP p w v ps) (hok : ∀ x ∈ ps, x.Ok) (hep : (Lit.int .i64 ep).wf = true) (hdp : W64 dp) (hse : W64 se) :
    Calls Try.prog 5 #[.int .i64 ep, .agg #[.int .i64 fr, .int .i64 dp, .int .i64 se, v]] w fun e w' => e = .returned (.bool true) ∧ Below w.heap.size w w' := by
  have HG : Hid (Grow w (w.alloc (.cells #[.int .i64 fr, .int .i64 dp, .int .i64 se, v] 24))) := (Grow.refl w).alloc _
  have hgood := fun w' (g : Grow w w') => qgood_any ep fr dp se v ps w' (RdS.grow h g) hok hep hdp hse
  obtain ⟨a, cp, rfl, h1, h2, -⟩ := h
  clear hok hdp hse hep h1 h2
  go_enter Try.func5, Try.ntmps5
  go_wp2_with fail
  refine (hgood _ HG.out).mono ?_
  rintro e w2 ⟨e1, f1, d1, s1, v1, q1, rfl, hE, hG, hR, g2⟩
  have HR : Hid (RdP (fun _ => True) w2 v1 q1 ∧ Grow w w2) := ⟨RdS.mono hR (fun _ _ _ => trivial), HG.out.trans g2⟩
  obtain ⟨a1, c1, rfl⟩ := hR.shape
  have X : Hid (VarAt (w2.alloc (.cells #[.int .i64 e1, .int .i64 f1, .int .i64 d1, .int .i64 s1, .slice a1 q1.length c1] 26)) w2.heap.size [.int .i64 e1, .int .i64 f1, .int .i64 d1, .int .i64 s1, .slice a1 q1.length c1] ∧ RdP (fun _ => True) (w2.alloc (.cells #[.int .i64 e1, .int .i64 f1, .int .i64 d1, .int .i64 s1, .slice a1 q1.length c1] 26)) (.slice a1 q1.length c1) q1 ∧ Grow w (w2.alloc (.cells #[.int .i64 e1, .int .i64 f1, .int .i64 d1, .int .i64 s1, .slice a1 q1.length c1] 26))) := ⟨VarAt.new w2 [.int .i64 e1, .int .i64 f1, .int .i64 d1, .int .i64 s1, .slice a1 q1.length c1] _, RdS.grow HR.out.1 ((Grow.refl _).alloc _), HR.out.2.alloc _⟩
  have hb := hG.bounds
  have hq4 : q1.length ≤ 4 := by omega
  have hw1 : IntKind.i64.wrap (e1 + 1) = e1 + 1 := by rw [IntKind.wrap_i64]; omega
  have HM : Hid (∀ x, 1 ≤ x → x ≤ 1073741824 → mayS x f1 d1 s1 q1 = true) := fun x h1 h2 => mayS_good h1 h2 hG
  clear hR g2 hgood HG hG HR hb
  go_wp2_with fail
  generalize w2.alloc (.cells #[.int .i64 e1, .int .i64 f1, .int .i64 d1, .int .i64 s1, .slice a1 q1.length c1] 26) = w3 at X ⊢
  generalize w2.heap.size = b5 at X ⊢
  refine (of_any e1 f1 d1 s1 a1 _ c1 w3).mono ?_
  rintro e w4 ⟨rfl, g4⟩
  by_cases hA : e1 < 1073741824
  · have hm1 := HM.out (e1 + 1) (by omega) (by omega)
    have hnx := next_yes e1 f1 d1 s1 _ q1 w4 (RdS.grow X.out.2.1 g4) (by omega) hA (by omega)
    go_wp2_with fail
    refine hnx.mono ?_
    rintro e w5 ⟨v6, rfl, hR6, g5⟩
    obtain ⟨a6, c6, rfl⟩ := hR6.shape
    have HR6 : Hid (RdP (fun _ => True) w5 (.slice a6 q1.length c6) q1) := RdS.mono hR6 (fun _ _ _ => trivial)
    clear hR6 hnx
    have Y0 : Hid (VarAt w5 b5 [.int .i64 e1, .int .i64 f1, .int .i64 d1, .int .i64 s1, .slice a1 q1.length c1] ∧ RdP (fun _ => True) w5 (.slice a1 q1.length c1) q1 ∧ Grow w w5) := ⟨X.out.1.grow (g4.trans g5), RdS.grow X.out.2.1 (g4.trans g5), X.out.2.2.trans (g4.trans g5)⟩
    have Y1 : Hid (VarAt (w5.alloc (.cells #[.int .i64 (e1 + 1), .int .i64 f1, .int .i64 d1, .int .i64 s1, .slice a6 q1.length c6] 36)) b5 [.int .i64 e1, .int .i64 f1, .int .i64 d1, .int .i64 s1, .slice a1 q1.length c1]) := Y0.out.1.old _
    have Y2 : Hid (VarAt ((w5.alloc (.cells #[.int .i64 (e1 + 1), .int .i64 f1, .int .i64 d1, .int .i64 s1, .slice a6 q1.length c6] 36)).alloc (.cells #[.int .i64 (e1 + 1), .int .i64 f1, .int .i64 d1, .int .i64 s1, .slice a1 q1.length c1] 26)) b5 [.int .i64 e1, .int .i64 f1, .int .i64 d1, .int .i64 s1, .slice a1 q1.length c1]) := Y1.out.old _
    have Y3 : Hid (VarAt (((w5.alloc (.cells #[.int .i64 (e1 + 1), .int .i64 f1, .int .i64 d1, .int .i64 s1, .slice a6 q1.length c6] 36)).alloc (.cells #[.int .i64 (e1 + 1), .int .i64 f1, .int .i64 d1, .int .i64 s1, .slice a1 q1.length c1] 26)).alloc (.cells #[.int .i64 1073741824, .int .i64 f1, .int .i64 d1, .int .i64 s1, .slice a1 q1.length c1] 26)) b5 [.int .i64 e1, .int .i64 f1, .int .i64 d1, .int .i64 s1, .slice a1 q1.length c1] ∧ VarAt (((w5.alloc (.cells #[.int .i64 (e1 + 1), .int .i64 f1, .int .i64 d1, .int .i64 s1, .slice a6 q1.length c6] 36)).alloc (.cells #[.int .i64 (e1 + 1), .int .i64 f1, .int .i64 d1, .int .i64 s1, .slice a1 q1.length c1] 26)).alloc (.cells #[.int .i64 1073741824, .int .i64 f1, .int .i64 d1, .int .i64 s1, .slice a1 q1.length c1] 26)) w5.heap.size [.int .i64 (e1 + 1), .int .i64 f1, .int .i64 d1, .int .i64 s1, .slice a6 q1.length c6] ∧ VarAt (((w5.alloc (.cells #[.int .i64 (e1 + 1), .int .i64 f1, .int .i64 d1, .int .i64 s1, .slice a6 q1.length c6] 36)).alloc (.cells #[.int .i64 (e1 + 1), .int .i64 f1, .int .i64 d1, .int .i64 s1, .slice a1 q1.length c1] 26)).alloc (.cells #[.int .i64 1073741824, .int .i64 f1, .int .i64 d1, .int .i64 s1, .slice a1 q1.length c1] 26)) (w5.heap.size + 1) [.int .i64 (e1 + 1), .int .i64 f1, .int .i64 d1, .int .i64 s1, .slice a1 q1.length c1] ∧ Grow w5 (((w5.alloc (.cells #[.int .i64 (e1 + 1), .int .i64 f1, .int .i64 d1, .int .i64 s1, .slice a6 q1.length c6] 36)).alloc (.cells #[.int .i64 (e1 + 1), .int .i64 f1, .int .i64 d1, .int .i64 s1, .slice a1 q1.length c1] 26)).alloc (.cells #[.int .i64 1073741824, .int .i64 f1, .int .i64 d1, .int .i64 s1, .slice a1 q1.length c1] 26))) := ⟨Y2.out.old _, ((VarAt.new w5 [.int .i64 (e1 + 1), .int .i64 f1, .int .i64 d1, .int .i64 s1, .slice a6 q1.length c6] _).old _).old _, (VarAt.new2 w5 _ [.int .i64 (e1 + 1), .int .i64 f1, .int .i64 d1, .int .i64 s1, .slice a1 q1.length c1] _).old _, (((Grow.refl w5).alloc _).alloc _).alloc _⟩
    obtain ⟨⟨m0, m1, m2, m3, m4⟩, -⟩ := Y1.out.five
    obtain ⟨⟨n0, n1, n2, n3, n4⟩, -⟩ := Y2.out.five
    clear X g4 g5
    go_wp2_with fail
    clear m0 m1 m2 m3 m4 n0 n1 n2 n3 n4 Y1 Y2
    obtain ⟨b8, hb8⟩ : ∃ b8, b8 = w5.heap.size + 1 := ⟨_, rfl⟩
    rw [← hb8] at Y3 ⊢
    clear hb8
    generalize (((w5.alloc (.cells #[.int .i64 (e1 + 1), .int .i64 f1, .int .i64 d1, .int .i64 s1, .slice a6 q1.length c6] 36)).alloc (.cells #[.int .i64 (e1 + 1), .int .i64 f1, .int .i64 d1, .int .i64 s1, .slice a1 q1.length c1] 26)).alloc (.cells #[.int .i64 1073741824, .int .i64 f1, .int .i64 d1, .int .i64 s1, .slice a1 q1.length c1] 26)) = u3 at Y3 ⊢
    generalize w5.heap.size = b6 at Y3 ⊢
    refine (of_any 1073741824 f1 d1 s1 a1 _ c1 _).mono ?_
    rintro e w7 ⟨rfl, g7⟩
    go_wp2_with fail
    refine (next_no 1073741824 f1 d1 s1 a1 _ c1 w7 (by omega)).mono ?_
    rintro e w8 ⟨rfl, g8⟩
    have Z0 : Hid (VarAt w8 b5 [.int .i64 e1, .int .i64 f1, .int .i64 d1, .int .i64 s1, .slice a1 q1.length c1] ∧ VarAt w8 b6 [.int .i64 (e1 + 1), .int .i64 f1, .int .i64 d1, .int .i64 s1, .slice a6 q1.length c6] ∧ VarAt w8 b8 [.int .i64 (e1 + 1), .int .i64 f1, .int .i64 d1, .int .i64 s1, .slice a1 q1.length c1] ∧ Grow w5 w8) := ⟨Y3.out.1.grow (g7.trans g8), Y3.out.2.1.grow (g7.trans g8), Y3.out.2.2.1.grow (g7.trans g8), Y3.out.2.2.2.trans (g7.trans g8)⟩
    clear Y3 g7 g8
    have Z : Hid (VarAt (w8.alloc (.cells #[.int .i64 (0 : Int), .int .i64 (0 : Int), .int .i64 (0 : Int), .int .i64 (0 : Int), .slice none 0 0] 36)) b5 [.int .i64 e1, .int .i64 f1, .int .i64 d1, .int .i64 s1, .slice a1 q1.length c1] ∧ VarAt (w8.alloc (.cells #[.int .i64 (0 : Int), .int .i64 (0 : Int), .int .i64 (0 : Int), .int .i64 (0 : Int), .slice none 0 0] 36)) b6 [.int .i64 (e1 + 1), .int .i64 f1, .int .i64 d1, .int .i64 s1, .slice a6 q1.length c6] ∧ VarAt (w8.alloc (.cells #[.int .i64 (0 : Int), .int .i64 (0 : Int), .int .i64 (0 : Int), .int .i64 (0 : Int), .slice none 0 0] 36)) b8 [.int .i64 (e1 + 1), .int .i64 f1, .int .i64 d1, .int .i64 s1, .slice a1 q1.length c1] ∧ VarAt (w8.alloc (.cells #[.int .i64 (0 : Int), .int .i64 (0 : Int), .int .i64 (0 : Int), .int .i64 (0 : Int), .slice none 0 0] 36)) w8.heap.size [.int .i64 (0 : Int), .int .i64 (0 : Int), .int .i64 (0 : Int), .int .i64 (0 : Int), .slice none 0 0] ∧ Grow w5 (w8.alloc (.cells #[.int .i64 (0 : Int), .int .i64 (0 : Int), .int .i64 (0 : Int), .int .i64 (0 : Int), .slice none 0 0] 36))) := ⟨Z0.out.1.old _, Z0.out.2.1.old _, Z0.out.2.2.1.old _, VarAt.new w8 [.int .i64 (0 : Int), .int .i64 (0 : Int), .int .i64 (0 : Int), .int .i64 (0 : Int), .slice none 0 0] _, Z0.out.2.2.2.alloc _⟩
    clear Z0
    go_wp2
    generalize w8.alloc (.cells #[.int .i64 (0 : Int), .int .i64 (0 : Int), .int .i64 (0 : Int), .int .i64 (0 : Int), .slice none 0 0] 36) = w9 at Z ⊢
    generalize w8.heap.size = b10 at Z ⊢
    have kx : ∀ w', Grow w9.drew w' → VarAt w' b5 [.int .i64 e1, .int .i64 f1, .int .i64 d1, .int .i64 s1, .slice a1 q1.length c1] ∧ VarAt w' b6 [.int .i64 (e1 + 1), .int .i64 f1, .int .i64 d1, .int .i64 s1, .slice a6 q1.length c6] ∧ VarAt w' b8 [.int .i64 (e1 + 1), .int .i64 f1, .int .i64 d1, .int .i64 s1, .slice a1 q1.length c1] := fun w' h => ⟨Z.out.1.grow ((Grow.refl w9).drew.trans h), Z.out.2.1.grow ((Grow.refl w9).drew.trans h), Z.out.2.2.1.grow ((Grow.refl w9).drew.trans h)⟩
    refine wp_region_sched (by kernel_rfl) [(0, false), (1, false), (2, false), (3, false), (4, false), (5, false), (6, false), (7, false), (9, false), (8, true), (10, true), (11, false), (12, false), (13, false), (14, false), (15, true), (16, false), (17, false), (18, false)] (by kernel_rfl) (by kernel_rfl) rfl (fun _ _ d _ _ h => by cases d <;> exact h) ?_
    simp only [inOrder, List.filterMap_cons, List.filterMap_nil, List.getElem?_toArray, List.getElem?_cons_zero, List.getElem?_cons_succ, Option.map_some]
    repeat (first
      | (refine wpS_move rfl ?_; simp only [Act.eval, Act.put, Array.getD_eq_getD_getElem?, List.getElem?_toArray, List.getElem?_cons_zero, List.getElem?_cons_succ, Option.getD_some, List.setIfInBounds_toArray, List.set_cons_zero, List.set_cons_succ])
      | (refine wpS_assign rfl ?_; simp only [Act.eval, Act.put, Array.getD_eq_getD_getElem?, List.getElem?_toArray, List.getElem?_cons_zero, List.getElem?_cons_succ, Option.getD_some, List.setIfInBounds_toArray, List.set_cons_zero, List.set_cons_succ])
      | (refine wpS_read (v := ?_) rfl ?_ ?_; rotate_left; (focus (intro w' hG; obtain ⟨⟨k0, k1, k2, k3, k4⟩, -⟩ := (kx w' hG).1.five; obtain ⟨⟨l0, l1, l2, l3, l4⟩, -⟩ := (kx w' hG).2.1.five; obtain ⟨⟨o0, o1, o2, o3, o4⟩, -⟩ := (kx w' hG).2.2.five; go_simp; try (with_reducible rfl))); simp only [Act.put, List.setIfInBounds_toArray, List.set_cons_zero, List.set_cons_succ])
      | (refine wpS_skip rfl ?_; simp only [Act.put, List.setIfInBounds_toArray, List.set_cons_zero, List.set_cons_succ]))
    refine wpS_call (f := ?_) (args := ?_) (by rfl) ?_ ?_
    rotate_left 2; focus (go_simp; constructor <;> with_reducible rfl)
    refine (as_any (e1 + 1) f1 d1 s1 a6 _ c6 _).mono ?_
    rintro e u1 ⟨rfl, j1⟩
    refine ⟨_, rfl, j1, ?_⟩
    simp only [Act.put, List.setIfInBounds_toArray, List.set_cons_zero, List.set_cons_succ]
    repeat (first
      | (refine wpS_move rfl ?_; simp only [Act.eval, Act.put, Array.getD_eq_getD_getElem?, List.getElem?_toArray, List.getElem?_cons_zero, List.getElem?_cons_succ, Option.getD_some, List.setIfInBounds_toArray, List.set_cons_zero, List.set_cons_succ])
      | (refine wpS_assign rfl ?_; simp only [Act.eval, Act.put, Array.getD_eq_getD_getElem?, List.getElem?_toArray, List.getElem?_cons_zero, List.getElem?_cons_succ, Option.getD_some, List.setIfInBounds_toArray, List.set_cons_zero, List.set_cons_succ])
      | (refine wpS_read (v := ?_) rfl ?_ ?_; rotate_left; (focus (intro w' hG; skip; go_simp; try (with_reducible rfl))); simp only [Act.put, List.setIfInBounds_toArray, List.set_cons_zero, List.set_cons_succ])
      | (refine wpS_skip rfl ?_; simp only [Act.put, List.setIfInBounds_toArray, List.set_cons_zero, List.set_cons_succ]))
    have gg1 : Grow w5 u1 := (Z.out.2.2.2.2.trans (Grow.refl w9).drew).trans j1
    have hsm := qsame_any (e1 + 1) f1 d1 s1 _ q1 (e1 + 1) f1 d1 s1 _ q1 u1 (RdS.grow HR6.out gg1) (RdS.grow Y0.out.2.1 gg1)
    rw [sameS_self] at hsm
    refine wpS_call (f := ?_) (args := ?_) (by rfl) ?_ ?_
    rotate_left 2; focus (go_simp; constructor <;> with_reducible rfl)
    refine (hsm).mono ?_
    rintro e u2 ⟨rfl, j2⟩
    refine ⟨_, rfl, j2, ?_⟩
    simp only [Act.put, List.setIfInBounds_toArray, List.set_cons_zero, List.set_cons_succ]
    have kx2 : ∀ w', Grow u2 w' → VarAt w' b6 [.int .i64 (e1 + 1), .int .i64 f1, .int .i64 d1, .int .i64 s1, .slice a6 q1.length c6] := fun w' h => (kx w' ((j1.trans j2).trans h)).2.1
    repeat (first
      | (refine wpS_move rfl ?_; simp only [Act.eval, Act.put, Array.getD_eq_getD_getElem?, List.getElem?_toArray, List.getElem?_cons_zero, List.getElem?_cons_succ, Option.getD_some, List.setIfInBounds_toArray, List.set_cons_zero, List.set_cons_succ])
      | (refine wpS_assign rfl ?_; simp only [Act.eval, Act.put, Array.getD_eq_getD_getElem?, List.getElem?_toArray, List.getElem?_cons_zero, List.getElem?_cons_succ, Option.getD_some, List.setIfInBounds_toArray, List.set_cons_zero, List.set_cons_succ])
      | (refine wpS_read (v := ?_) rfl ?_ ?_; rotate_left; (focus (intro w' hG; obtain ⟨⟨l0, l1, l2, l3, l4⟩, -⟩ := (kx2 w' hG).five; go_simp; try (with_reducible rfl))); simp only [Act.put, List.setIfInBounds_toArray, List.set_cons_zero, List.set_cons_succ])
      | (refine wpS_skip rfl ?_; simp only [Act.put, List.setIfInBounds_toArray, List.set_cons_zero, List.set_cons_succ]))
    have gg2 : Grow w5 u2 := gg1.trans j2
    have hmy := smay_any (e1 + 1) f1 d1 s1 _ q1 u2 (RdS.grow HR6.out gg2)
    rw [hm1] at hmy
    refine wpS_call (f := ?_) (args := ?_) (by rfl) ?_ ?_
    rotate_left 2; focus (go_simp; constructor <;> with_reducible rfl)
    refine (hmy).mono ?_
    rintro e u3 ⟨rfl, j3⟩
    refine ⟨_, rfl, j3, ?_⟩
    simp only [Act.put, List.setIfInBounds_toArray, List.set_cons_zero, List.set_cons_succ]
    repeat (first
      | (refine wpS_move rfl ?_; simp only [Act.eval, Act.put, Array.getD_eq_getD_getElem?, List.getElem?_toArray, List.getElem?_cons_zero, List.getElem?_cons_succ, Option.getD_some, List.setIfInBounds_toArray, List.set_cons_zero, List.set_cons_succ])
      | (refine wpS_assign rfl ?_; simp only [Act.eval, Act.put, Array.getD_eq_getD_getElem?, List.getElem?_toArray, List.getElem?_cons_zero, List.getElem?_cons_succ, Option.getD_some, List.setIfInBounds_toArray, List.set_cons_zero, List.set_cons_succ])
      | (refine wpS_read (v := ?_) rfl ?_ ?_; rotate_left; (focus (intro w' hG; skip; go_simp; try (with_reducible rfl))); simp only [Act.put, List.setIfInBounds_toArray, List.set_cons_zero, List.set_cons_succ])
      | (refine wpS_skip rfl ?_; simp only [Act.put, List.setIfInBounds_toArray, List.set_cons_zero, List.set_cons_succ]))
    refine wpS_nil ?_
    have hZ : Hid (VarAt u3 b10 [.int .i64 (0 : Int), .int .i64 (0 : Int), .int .i64 (0 : Int), .int .i64 (0 : Int), .slice none 0 0] ∧ Grow w u3) := ⟨Z.out.2.2.2.1.grow ((Grow.refl w9).drew.trans ((j1.trans j2).trans j3)), Y0.out.2.2.trans (gg2.trans j3)⟩
    clear hsm hmy kx kx2 j1 j2 j3 gg1 gg2 Z Y0 HR6
    obtain ⟨⟨k0, k1, k2, k3, k4⟩, -⟩ := hZ.out.1.five
    go_wp2_with fail
    refine (lives_any u3).mono ?_
    rintro e w6 ⟨rfl, g6⟩
    go_wp2
    go_ret
    exact ⟨rfl, hZ.out.2.trans g6⟩
  · have hge : (1073741824 : Int) ≤ e1 := by omega
    have hdf : decide (e1 < 1073741824) = false := decide_eq_false hA
    have hnx := next_no e1 f1 d1 s1 a1 q1.length c1 w4 (by omega)
    go_wp2_with fail
    refine hnx.mono ?_
    rintro e w5 ⟨rfl, g5⟩
    clear hnx
    have Y0 : Hid (VarAt w5 b5 [.int .i64 e1, .int .i64 f1, .int .i64 d1, .int .i64 s1, .slice a1 q1.length c1] ∧ RdP (fun _ => True) w5 (.slice a1 q1.length c1) q1 ∧ Grow w w5) := ⟨X.out.1.grow (g4.trans g5), RdS.grow X.out.2.1 (g4.trans g5), X.out.2.2.trans (g4.trans g5)⟩
    have Y1 : Hid (VarAt (w5.alloc (.cells #[.int .i64 (0 : Int), .int .i64 (0 : Int), .int .i64 (0 : Int), .int .i64 (0 : Int), .slice none 0 0] 36)) b5 [.int .i64 e1, .int .i64 f1, .int .i64 d1, .int .i64 s1, .slice a1 q1.length c1]) := Y0.out.1.old _
    have Y2 : Hid (VarAt ((w5.alloc (.cells #[.int .i64 (0 : Int), .int .i64 (0 : Int), .int .i64 (0 : Int), .int .i64 (0 : Int), .slice none 0 0] 36)).alloc (.cells #[.int .i64 (e1 + 1), .int .i64 f1, .int .i64 d1, .int .i64 s1, .slice a1 q1.length c1] 26)) b5 [.int .i64 e1, .int .i64 f1, .int .i64 d1, .int .i64 s1, .slice a1 q1.length c1]) := Y1.out.old _
    have Y3 : Hid (VarAt (((w5.alloc (.cells #[.int .i64 (0 : Int), .int .i64 (0 : Int), .int .i64 (0 : Int), .int .i64 (0 : Int), .slice none 0 0] 36)).alloc (.cells #[.int .i64 (e1 + 1), .int .i64 f1, .int .i64 d1, .int .i64 s1, .slice a1 q1.length c1] 26)).alloc (.cells #[.int .i64 1073741824, .int .i64 f1, .int .i64 d1, .int .i64 s1, .slice a1 q1.length c1] 26)) b5 [.int .i64 e1, .int .i64 f1, .int .i64 d1, .int .i64 s1, .slice a1 q1.length c1] ∧ VarAt (((w5.alloc (.cells #[.int .i64 (0 : Int), .int .i64 (0 : Int), .int .i64 (0 : Int), .int .i64 (0 : Int), .slice none 0 0] 36)).alloc (.cells #[.int .i64 (e1 + 1), .int .i64 f1, .int .i64 d1, .int .i64 s1, .slice a1 q1.length c1] 26)).alloc (.cells #[.int .i64 1073741824, .int .i64 f1, .int .i64 d1, .int .i64 s1, .slice a1 q1.length c1] 26)) w5.heap.size [.int .i64 (0 : Int), .int .i64 (0 : Int), .int .i64 (0 : Int), .int .i64 (0 : Int), .slice none 0 0] ∧ VarAt (((w5.alloc (.cells #[.int .i64 (0 : Int), .int .i64 (0 : Int), .int .i64 (0 : Int), .int .i64 (0 : Int), .slice none 0 0] 36)).alloc (.cells #[.int .i64 (e1 + 1), .int .i64 f1, .int .i64 d1, .int .i64 s1, .slice a1 q1.length c1] 26)).alloc (.cells #[.int .i64 1073741824, .int .i64 f1, .int .i64 d1, .int .i64 s1, .slice a1 q1.length c1] 26)) (w5.heap.size + 1) [.int .i64 (e1 + 1), .int .i64 f1, .int .i64 d1, .int .i64 s1, .slice a1 q1.length c1] ∧ Grow w5 (((w5.alloc (.cells #[.int .i64 (0 : Int), .int .i64 (0 : Int), .int .i64 (0 : Int), .int .i64 (0 : Int), .slice none 0 0] 36)).alloc (.cells #[.int .i64 (e1 + 1), .int .i64 f1, .int .i64 d1, .int .i64 s1, .slice a1 q1.length c1] 26)).alloc (.cells #[.int .i64 1073741824, .int .i64 f1, .int .i64 d1, .int .i64 s1, .slice a1 q1.length c1] 26))) := ⟨Y2.out.old _, ((VarAt.new w5 [.int .i64 (0 : Int), .int .i64 (0 : Int), .int .i64 (0 : Int), .int .i64 (0 : Int), .slice none 0 0] _).old _).old _, (VarAt.new2 w5 _ [.int .i64 (e1 + 1), .int .i64 f1, .int .i64 d1, .int .i64 s1, .slice a1 q1.length c1] _).old _, (((Grow.refl w5).alloc _).alloc _).alloc _⟩
    obtain ⟨⟨m0, m1, m2, m3, m4⟩, -⟩ := Y1.out.five
    obtain ⟨⟨n0, n1, n2, n3, n4⟩, -⟩ := Y2.out.five
    clear X g4 g5
    go_wp2_with fail
    clear m0 m1 m2 m3 m4 n0 n1 n2 n3 n4 Y1 Y2
    obtain ⟨b8, hb8⟩ : ∃ b8, b8 = w5.heap.size + 1 := ⟨_, rfl⟩
    rw [← hb8] at Y3 ⊢
    clear hb8
    generalize (((w5.alloc (.cells #[.int .i64 (0 : Int), .int .i64 (0 : Int), .int .i64 (0 : Int), .int .i64 (0 : Int), .slice none 0 0] 36)).alloc (.cells #[.int .i64 (e1 + 1), .int .i64 f1, .int .i64 d1, .int .i64 s1, .slice a1 q1.length c1] 26)).alloc (.cells #[.int .i64 1073741824, .int .i64 f1, .int .i64 d1, .int .i64 s1, .slice a1 q1.length c1] 26)) = u3 at Y3 ⊢
    generalize w5.heap.size = b6 at Y3 ⊢
    refine (of_any 1073741824 f1 d1 s1 a1 _ c1 _).mono ?_
    rintro e w7 ⟨rfl, g7⟩
    go_wp2_with fail
    refine (next_no 1073741824 f1 d1 s1 a1 _ c1 w7 (by omega)).mono ?_
    rintro e w8 ⟨rfl, g8⟩
    have Z0 : Hid (VarAt w8 b5 [.int .i64 e1, .int .i64 f1, .int .i64 d1, .int .i64 s1, .slice a1 q1.length c1] ∧ VarAt w8 b6 [.int .i64 (0 : Int), .int .i64 (0 : Int), .int .i64 (0 : Int), .int .i64 (0 : Int), .slice none 0 0] ∧ VarAt w8 b8 [.int .i64 (e1 + 1), .int .i64 f1, .int .i64 d1, .int .i64 s1, .slice a1 q1.length c1] ∧ Grow w5 w8) := ⟨Y3.out.1.grow (g7.trans g8), Y3.out.2.1.grow (g7.trans g8), Y3.out.2.2.1.grow (g7.trans g8), Y3.out.2.2.2.trans (g7.trans g8)⟩
    clear Y3 g7 g8
    have Z : Hid (VarAt (w8.alloc (.cells #[.int .i64 (0 : Int), .int .i64 (0 : Int), .int .i64 (0 : Int), .int .i64 (0 : Int), .slice none 0 0] 36)) b5 [.int .i64 e1, .int .i64 f1, .int .i64 d1, .int .i64 s1, .slice a1 q1.length c1] ∧ VarAt (w8.alloc (.cells #[.int .i64 (0 : Int), .int .i64 (0 : Int), .int .i64 (0 : Int), .int .i64 (0 : Int), .slice none 0 0] 36)) b6 [.int .i64 (0 : Int), .int .i64 (0 : Int), .int .i64 (0 : Int), .int .i64 (0 : Int), .slice none 0 0] ∧ VarAt (w8.alloc (.cells #[.int .i64 (0 : Int), .int .i64 (0 : Int), .int .i64 (0 : Int), .int .i64 (0 : Int), .slice none 0 0] 36)) b8 [.int .i64 (e1 + 1), .int .i64 f1, .int .i64 d1, .int .i64 s1, .slice a1 q1.length c1] ∧ VarAt (w8.alloc (.cells #[.int .i64 (0 : Int), .int .i64 (0 : Int), .int .i64 (0 : Int), .int .i64 (0 : Int), .slice none 0 0] 36)) w8.heap.size [.int .i64 (0 : Int), .int .i64 (0 : Int), .int .i64 (0 : Int), .int .i64 (0 : Int), .slice none 0 0] ∧ Grow w5 (w8.alloc (.cells #[.int .i64 (0 : Int), .int .i64 (0 : Int), .int .i64 (0 : Int), .int .i64 (0 : Int), .slice none 0 0] 36))) := ⟨Z0.out.1.old _, Z0.out.2.1.old _, Z0.out.2.2.1.old _, VarAt.new w8 [.int .i64 (0 : Int), .int .i64 (0 : Int), .int .i64 (0 : Int), .int .i64 (0 : Int), .slice none 0 0] _, Z0.out.2.2.2.alloc _⟩
    clear Z0
    go_wp2
    generalize w8.alloc (.cells #[.int .i64 (0 : Int), .int .i64 (0 : Int), .int .i64 (0 : Int), .int .i64 (0 : Int), .slice none 0 0] 36) = w9 at Z ⊢
    generalize w8.heap.size = b10 at Z ⊢
    have kx : ∀ w', Grow w9.drew w' → VarAt w' b5 [.int .i64 e1, .int .i64 f1, .int .i64 d1, .int .i64 s1, .slice a1 q1.length c1] ∧ VarAt w' b6 [.int .i64 (0 : Int), .int .i64 (0 : Int), .int .i64 (0 : Int), .int .i64 (0 : Int), .slice none 0 0] ∧ VarAt w' b8 [.int .i64 (e1 + 1), .int .i64 f1, .int .i64 d1, .int .i64 s1, .slice a1 q1.length c1] := fun w' h => ⟨Z.out.1.grow ((Grow.refl w9).drew.trans h), Z.out.2.1.grow ((Grow.refl w9).drew.trans h), Z.out.2.2.1.grow ((Grow.refl w9).drew.trans h)⟩
    refine wp_region_sched (by kernel_rfl) [(0, false), (1, false), (2, false), (3, false), (4, false), (5, false), (6, false), (7, false), (9, false), (8, true), (10, true), (11, false), (12, false), (13, false), (14, false), (15, true), (16, false), (17, false), (18, false)] (by kernel_rfl) (by kernel_rfl) rfl (fun _ _ d _ _ h => by cases d <;> exact h) ?_
    simp only [inOrder, List.filterMap_cons, List.filterMap_nil, List.getElem?_toArray, List.getElem?_cons_zero, List.getElem?_cons_succ, Option.map_some]
    repeat (first
      | (refine wpS_move rfl ?_; simp only [Act.eval, Act.put, Array.getD_eq_getD_getElem?, List.getElem?_toArray, List.getElem?_cons_zero, List.getElem?_cons_succ, Option.getD_some, List.setIfInBounds_toArray, List.set_cons_zero, List.set_cons_succ])
      | (refine wpS_assign rfl ?_; simp only [Act.eval, Act.put, Array.getD_eq_getD_getElem?, List.getElem?_toArray, List.getElem?_cons_zero, List.getElem?_cons_succ, Option.getD_some, List.setIfInBounds_toArray, List.set_cons_zero, List.set_cons_succ])
      | (refine wpS_read (v := ?_) rfl ?_ ?_; rotate_left; (focus (intro w' hG; obtain ⟨⟨k0, k1, k2, k3, k4⟩, -⟩ := (kx w' hG).1.five; obtain ⟨⟨l0, l1, l2, l3, l4⟩, -⟩ := (kx w' hG).2.1.five; obtain ⟨⟨o0, o1, o2, o3, o4⟩, -⟩ := (kx w' hG).2.2.five; go_simp; try (with_reducible rfl))); simp only [Act.put, List.setIfInBounds_toArray, List.set_cons_zero, List.set_cons_succ])
      | (refine wpS_skip rfl ?_; simp only [Act.put, List.setIfInBounds_toArray, List.set_cons_zero, List.set_cons_succ]))
    refine wpS_nil ?_
    have hZ : Hid (VarAt w9.drew b10 [.int .i64 (0 : Int), .int .i64 (0 : Int), .int .i64 (0 : Int), .int .i64 (0 : Int), .slice none 0 0] ∧ Grow w w9.drew) := ⟨Z.out.2.2.2.1.grow (Grow.refl w9).drew, Y0.out.2.2.trans (Z.out.2.2.2.2.trans (Grow.refl w9).drew)⟩
    clear kx Z Y0
    generalize w9.drew = u3 at hZ ⊢
    obtain ⟨⟨k0, k1, k2, k3, k4⟩, -⟩ := hZ.out.1.five
    go_wp2_with fail
    refine (lives_any u3).mono ?_
    rintro e w6 ⟨rfl, g6⟩
    go_wp2
    go_ret
    exact ⟨rfl, hZ.out.2.trans g6⟩
end Go.Proofs.Ytlcphhlimcnnaaa
