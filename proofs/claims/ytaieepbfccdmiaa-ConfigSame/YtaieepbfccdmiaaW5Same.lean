/-
  The walk of the law ConfigSame. Conditions: the theorem's own.
-/
import Derived.Test.YtaieepbfccdmiaaCfgGood
import Derived.Test.YtaieepbfccdmiaaCfgSame
import Derived.Test.YtaieepbfccdmiaaCfgOdd
import Derived.Test.YtaieepbfccdmiaaW5Apart
namespace Go.Proofs.Ytaieepbfccdmiaa
open Go.RowKit
set_option linter.unusedVariables false
set_option linter.unusedSimpArgs false

set_option maxHeartbeats 4000000 in
theorem configSame_walk {p p2 : Nat → Prop} (f1 d1 s1 : Int) (v1 : Value) (ps : List Pt) (f2 d2 s2 : Int) (v2 : Value) (qs : List Pt) (which n : Int) (w : World) (h : RdP p w v1 ps) (hok : ∀ x ∈ ps, x.Ok) (hd1 : W64 d1) (hs1 : W64 s1)
    (h' : RdP p2 w v2 qs) (hok' : ∀ x ∈ qs, x.Ok) (hd2 : W64 d2) (hs2 : W64 s2) (hwh : W64 which) :
    Calls Try.prog 6 #[.agg #[.int .i64 f1, .int .i64 d1, .int .i64 s1, v1], .agg #[.int .i64 f2, .int .i64 d2, .int .i64 s2, v2], .int .i64 which, .int .i64 n] w fun e w' => e = .returned (.bool true) ∧ Below w.heap.size w w' := by
  have HI : Hid (VarAt ((w.alloc (.cells #[.int .i64 f1, .int .i64 d1, .int .i64 s1, v1] 24)).alloc (.cells #[.int .i64 f2, .int .i64 d2, .int .i64 s2, v2] 24)) w.heap.size [.int .i64 f1, .int .i64 d1, .int .i64 s1, v1] ∧ VarAt ((w.alloc (.cells #[.int .i64 f1, .int .i64 d1, .int .i64 s1, v1] 24)).alloc (.cells #[.int .i64 f2, .int .i64 d2, .int .i64 s2, v2] 24)) (w.heap.size + 1) [.int .i64 f2, .int .i64 d2, .int .i64 s2, v2] ∧ Grow w ((w.alloc (.cells #[.int .i64 f1, .int .i64 d1, .int .i64 s1, v1] 24)).alloc (.cells #[.int .i64 f2, .int .i64 d2, .int .i64 s2, v2] 24))) := two_boxes
  have hga := fun w' (g : Grow w w') => good_any f1 d1 s1 v1 ps w' (RdS.grow h g) hok hd1 hs1
  have hgb := fun w' (g : Grow w w') => good_any f2 d2 s2 v2 qs w' (RdS.grow h' g) hok' hd2 hs2
  have hfew := fun w' (g : Grow w w') => few_any f1 d1 s1 v1 ps w' (RdS.grow h g)
  obtain ⟨a1, cp1, rfl, h1, h2, -⟩ := h
  obtain ⟨a2, cp2, rfl, h12, h22, -⟩ := h'
  clear hok hd1 hs1 hok' hd2 hs2 h1 h2 h12 h22
  go_enter Try.func6, Try.ntmps6
  go_wp2_with fail
  obtain ⟨b5, hb5⟩ : ∃ b5, b5 = w.heap.size + 1 := ⟨_, rfl⟩
  rw [← hb5] at HI ⊢
  clear hb5
  generalize ((w.alloc (.cells #[.int .i64 f1, .int .i64 d1, .int .i64 s1, .slice a1 ps.length cp1] 24)).alloc (.cells #[.int .i64 f2, .int .i64 d2, .int .i64 s2, .slice a2 qs.length cp2] 24)) = w1 at HI ⊢
  generalize w.heap.size = b4 at HI ⊢
  refine (hga _ HI.out.2.2).mono ?_
  rintro e w2 ⟨f0, d0, s0, v0, q0, rfl, G0, R0, g2⟩
  have HG0 : Hid (GoodC f0 d0 s0 q0) := G0
  have HR0 : Hid (HasPs w2 ⟨f0, d0, s0, v0⟩ q0) := hasPs_of R0
  obtain ⟨a0, c0, rfl⟩ := R0.shape
  have X1 : Hid (VarAt (w2.alloc (.cells #[.int .i64 f0, .int .i64 d0, .int .i64 s0, .slice a0 q0.length c0] 24)) b4 [.int .i64 f1, .int .i64 d1, .int .i64 s1, .slice a1 ps.length cp1] ∧ VarAt (w2.alloc (.cells #[.int .i64 f0, .int .i64 d0, .int .i64 s0, .slice a0 q0.length c0] 24)) b5 [.int .i64 f2, .int .i64 d2, .int .i64 s2, .slice a2 qs.length cp2] ∧ VarAt (w2.alloc (.cells #[.int .i64 f0, .int .i64 d0, .int .i64 s0, .slice a0 q0.length c0] 24)) w2.heap.size [.int .i64 f0, .int .i64 d0, .int .i64 s0, .slice a0 q0.length c0] ∧ HasPs (w2.alloc (.cells #[.int .i64 f0, .int .i64 d0, .int .i64 s0, .slice a0 q0.length c0] 24)) ⟨f0, d0, s0, .slice a0 q0.length c0⟩ q0 ∧ Grow w (w2.alloc (.cells #[.int .i64 f0, .int .i64 d0, .int .i64 s0, .slice a0 q0.length c0] 24))) :=
    ⟨HI.out.1.grow (g2.alloc _), HI.out.2.1.grow (g2.alloc _), VarAt.new w2 [.int .i64 f0, .int .i64 d0, .int .i64 s0, .slice a0 q0.length c0] _, HR0.out.grow ((Grow.refl _).alloc _), (HI.out.2.2.trans g2).alloc _⟩
  clear G0 R0 g2 HI hga HR0
  obtain ⟨⟨n0, n1, n2, n3⟩, -⟩ := X1.out.2.1.four
  go_wp2_with fail
  clear n0 n1 n2 n3
  generalize w2.alloc (.cells #[.int .i64 f0, .int .i64 d0, .int .i64 s0, .slice a0 q0.length c0] 24) = w3 at X1 ⊢
  generalize w2.heap.size = b9 at X1 ⊢
  refine (hgb _ X1.out.2.2.2.2).mono ?_
  rintro e w4 ⟨f3, d3, s3, v3, q3, rfl, G3, R3, g4⟩
  have HR3 : Hid (HasPs w4 ⟨f3, d3, s3, v3⟩ q3) := hasPs_of R3
  obtain ⟨a3, c3, rfl⟩ := R3.shape
  have X2 : Hid (VarAt (w4.alloc (.cells #[.int .i64 f3, .int .i64 d3, .int .i64 s3, .slice a3 q3.length c3] 24)) b4 [.int .i64 f1, .int .i64 d1, .int .i64 s1, .slice a1 ps.length cp1] ∧ VarAt (w4.alloc (.cells #[.int .i64 f3, .int .i64 d3, .int .i64 s3, .slice a3 q3.length c3] 24)) w4.heap.size [.int .i64 f3, .int .i64 d3, .int .i64 s3, .slice a3 q3.length c3] ∧ VarAt (w4.alloc (.cells #[.int .i64 f3, .int .i64 d3, .int .i64 s3, .slice a3 q3.length c3] 24)) b9 [.int .i64 f0, .int .i64 d0, .int .i64 s0, .slice a0 q0.length c0] ∧ HasPs (w4.alloc (.cells #[.int .i64 f3, .int .i64 d3, .int .i64 s3, .slice a3 q3.length c3] 24)) ⟨f0, d0, s0, .slice a0 q0.length c0⟩ q0 ∧ HasPs (w4.alloc (.cells #[.int .i64 f3, .int .i64 d3, .int .i64 s3, .slice a3 q3.length c3] 24)) ⟨f3, d3, s3, .slice a3 q3.length c3⟩ q3 ∧ Grow w (w4.alloc (.cells #[.int .i64 f3, .int .i64 d3, .int .i64 s3, .slice a3 q3.length c3] 24))) :=
    ⟨X1.out.1.grow (g4.alloc _), VarAt.new w4 [.int .i64 f3, .int .i64 d3, .int .i64 s3, .slice a3 q3.length c3] _, X1.out.2.2.1.grow (g4.alloc _), X1.out.2.2.2.1.grow (g4.alloc _), HR3.out.grow ((Grow.refl _).alloc _), (X1.out.2.2.2.2.trans g4).alloc _⟩
  clear G3 R3 g4 X1 hgb HR3
  go_wp2
  generalize w4.alloc (.cells #[.int .i64 f3, .int .i64 d3, .int .i64 s3, .slice a3 q3.length c3] 24) = w5 at X2 ⊢
  generalize w4.heap.size = b10 at X2 ⊢
  have hlen : q0.length ≤ 1000 := by have := HG0.out.bounds; omega
  have hodd := fun w' (g : Grow w5 w') => odd_any f0 d0 s0 _ q0 which n w' (X2.out.2.2.2.1.grow g) hlen hwh
  have kx : ∀ w', Grow w5.drew w' → VarAt w' b4 [.int .i64 f1, .int .i64 d1, .int .i64 s1, .slice a1 ps.length cp1] ∧ VarAt w' b9 [.int .i64 f0, .int .i64 d0, .int .i64 s0, .slice a0 q0.length c0] ∧ VarAt w' b10 [.int .i64 f3, .int .i64 d3, .int .i64 s3, .slice a3 q3.length c3] := fun w' h => ⟨X2.out.1.grow ((Grow.refl w5).drew.trans h), X2.out.2.2.1.grow ((Grow.refl w5).drew.trans h), X2.out.2.1.grow ((Grow.refl w5).drew.trans h)⟩
  refine wp_region_sched (by kernel_rfl) [(0, false), (1, false), (2, false), (4, false), (5, false), (6, false), (3, true), (7, true), (8, true), (9, false)] (by kernel_rfl) (by kernel_rfl) rfl (fun _ _ d _ _ h => by cases d <;> exact h) ?_
  simp only [inOrder, List.filterMap_cons, List.filterMap_nil, List.getElem?_toArray, List.getElem?_cons_zero, List.getElem?_cons_succ, Option.map_some]
  repeat (first
    | (refine wpS_move rfl ?_; simp only [Act.eval, Act.put, Array.getD_eq_getD_getElem?, List.getElem?_toArray, List.getElem?_cons_zero, List.getElem?_cons_succ, Option.getD_some, List.setIfInBounds_toArray, List.set_cons_zero, List.set_cons_succ])
    | (refine wpS_assign rfl ?_; simp only [Act.eval, Act.put, Array.getD_eq_getD_getElem?, List.getElem?_toArray, List.getElem?_cons_zero, List.getElem?_cons_succ, Option.getD_some, List.setIfInBounds_toArray, List.set_cons_zero, List.set_cons_succ])
    | (refine wpS_read (v := ?_) rfl ?_ ?_; rotate_left; (focus (intro w' hG; obtain ⟨⟨k0, k1, k2, k3⟩, -⟩ := (kx w' hG).1.four; obtain ⟨⟨m0, m1, m2, m3⟩, -⟩ := (kx w' hG).2.1.four; obtain ⟨⟨n0, n1, n2, n3⟩, -⟩ := (kx w' hG).2.2.four; go_simp; try (with_reducible rfl))); simp only [Act.put, List.setIfInBounds_toArray, List.set_cons_zero, List.set_cons_succ])
    | (refine wpS_skip rfl ?_; simp only [Act.put, List.setIfInBounds_toArray, List.set_cons_zero, List.set_cons_succ]))
  refine wpS_call (f := ?_) (args := ?_) (by rfl) ?_ ?_
  rotate_left 2; focus (go_simp; constructor <;> with_reducible rfl)
  refine (hfew w5.drew (X2.out.2.2.2.2.2.trans (Grow.refl w5).drew)).mono ?_
  rintro e w6 ⟨v4, rfl, R4, g6⟩
  have G6 : Grow w5 w6 := (Grow.refl w5).drew.trans g6
  generalize ps.take 5 = q4 at R4
  obtain ⟨a4, c4, rfl⟩ := R4.shape
  refine ⟨_, rfl, g6, ?_⟩
  simp only [Act.put, List.setIfInBounds_toArray, List.set_cons_zero, List.set_cons_succ]
  repeat (first
    | (refine wpS_move rfl ?_; simp only [Act.eval, Act.put, Array.getD_eq_getD_getElem?, List.getElem?_toArray, List.getElem?_cons_zero, List.getElem?_cons_succ, Option.getD_some, List.setIfInBounds_toArray, List.set_cons_zero, List.set_cons_succ])
    | (refine wpS_assign rfl ?_; simp only [Act.eval, Act.put, Array.getD_eq_getD_getElem?, List.getElem?_toArray, List.getElem?_cons_zero, List.getElem?_cons_succ, Option.getD_some, List.setIfInBounds_toArray, List.set_cons_zero, List.set_cons_succ])
    | (refine wpS_read (v := ?_) rfl ?_ ?_; rotate_left; (focus (intro w' hG; skip; go_simp; try (with_reducible rfl))); simp only [Act.put, List.setIfInBounds_toArray, List.set_cons_zero, List.set_cons_succ])
    | (refine wpS_skip rfl ?_; simp only [Act.put, List.setIfInBounds_toArray, List.set_cons_zero, List.set_cons_succ]))
  refine wpS_call (f := ?_) (args := ?_) (by rfl) ?_ ?_
  rotate_left 2; focus (go_simp; constructor <;> with_reducible rfl)
  refine (hodd w6 G6).mono ?_
  rintro e w7 ⟨f5, d5, s5, v5, q5, rfl, R5, l5, g7⟩
  obtain ⟨a5, c5, rfl⟩ := R5.shape
  clear l5
  refine ⟨_, rfl, g7, ?_⟩
  simp only [Act.put, List.setIfInBounds_toArray, List.set_cons_zero, List.set_cons_succ]
  repeat (first
    | (refine wpS_move rfl ?_; simp only [Act.eval, Act.put, Array.getD_eq_getD_getElem?, List.getElem?_toArray, List.getElem?_cons_zero, List.getElem?_cons_succ, Option.getD_some, List.setIfInBounds_toArray, List.set_cons_zero, List.set_cons_succ])
    | (refine wpS_assign rfl ?_; simp only [Act.eval, Act.put, Array.getD_eq_getD_getElem?, List.getElem?_toArray, List.getElem?_cons_zero, List.getElem?_cons_succ, Option.getD_some, List.setIfInBounds_toArray, List.set_cons_zero, List.set_cons_succ])
    | (refine wpS_read (v := ?_) rfl ?_ ?_; rotate_left; (focus (intro w' hG; skip; go_simp; try (with_reducible rfl))); simp only [Act.put, List.setIfInBounds_toArray, List.set_cons_zero, List.set_cons_succ])
    | (refine wpS_skip rfl ?_; simp only [Act.put, List.setIfInBounds_toArray, List.set_cons_zero, List.set_cons_succ]))
  refine wpS_act rfl (exec_cfg4 rfl rfl rfl rfl rfl) ((Grow.refl _).alloc _) ?_
  simp only [Act.put, List.setIfInBounds_toArray, List.set_cons_zero, List.set_cons_succ]
  have hall := rdG_new4 w7 (f0 := f0) (d0 := d0) (s0 := s0) (a0 := a0) (n0 := q0.length) (c0 := c0) (f1 := f3) (d1 := d3) (s1 := s3) (a1 := a3) (n1 := q3.length) (c1 := c3) (f2 := f1) (d2 := d1) (s2 := s1) (a2 := a4) (n2 := q4.length) (c2 := c4) (f3 := f5) (d3 := d5) (s3 := s5) (a3 := a5) (n3 := q5.length) (c3 := c5)
  have HA : Hid (RdG (fun _ => True) (w7.alloc (.cells #[.int .i64 f0, .int .i64 d0, .int .i64 s0, .slice a0 q0.length c0, .int .i64 f3, .int .i64 d3, .int .i64 s3, .slice a3 q3.length c3, .int .i64 f1, .int .i64 d1, .int .i64 s1, .slice a4 q4.length c4, .int .i64 f5, .int .i64 d5, .int .i64 s5, .slice a5 q5.length c5] 24)) (.slice (some ⟨w7.heap.size, 0, none⟩) 4 4) [(⟨f0, d0, s0, .slice a0 q0.length c0⟩ : Cg), ⟨f3, d3, s3, .slice a3 q3.length c3⟩, ⟨f1, d1, s1, .slice a4 q4.length c4⟩, ⟨f5, d5, s5, .slice a5 q5.length c5⟩] ∧ (∀ c ∈ [(⟨f0, d0, s0, .slice a0 q0.length c0⟩ : Cg), ⟨f3, d3, s3, .slice a3 q3.length c3⟩, ⟨f1, d1, s1, .slice a4 q4.length c4⟩, ⟨f5, d5, s5, .slice a5 q5.length c5⟩], ∃ q, HasPs (w7.alloc (.cells #[.int .i64 f0, .int .i64 d0, .int .i64 s0, .slice a0 q0.length c0, .int .i64 f3, .int .i64 d3, .int .i64 s3, .slice a3 q3.length c3, .int .i64 f1, .int .i64 d1, .int .i64 s1, .slice a4 q4.length c4, .int .i64 f5, .int .i64 d5, .int .i64 s5, .slice a5 q5.length c5] 24)) c q) ∧ VarAt (w7.alloc (.cells #[.int .i64 f0, .int .i64 d0, .int .i64 s0, .slice a0 q0.length c0, .int .i64 f3, .int .i64 d3, .int .i64 s3, .slice a3 q3.length c3, .int .i64 f1, .int .i64 d1, .int .i64 s1, .slice a4 q4.length c4, .int .i64 f5, .int .i64 d5, .int .i64 s5, .slice a5 q5.length c5] 24)) b9 [.int .i64 f0, .int .i64 d0, .int .i64 s0, .slice a0 q0.length c0] ∧ HasPs (w7.alloc (.cells #[.int .i64 f0, .int .i64 d0, .int .i64 s0, .slice a0 q0.length c0, .int .i64 f3, .int .i64 d3, .int .i64 s3, .slice a3 q3.length c3, .int .i64 f1, .int .i64 d1, .int .i64 s1, .slice a4 q4.length c4, .int .i64 f5, .int .i64 d5, .int .i64 s5, .slice a5 q5.length c5] 24)) ⟨f0, d0, s0, .slice a0 q0.length c0⟩ q0 ∧ Grow w (w7.alloc (.cells #[.int .i64 f0, .int .i64 d0, .int .i64 s0, .slice a0 q0.length c0, .int .i64 f3, .int .i64 d3, .int .i64 s3, .slice a3 q3.length c3, .int .i64 f1, .int .i64 d1, .int .i64 s1, .slice a4 q4.length c4, .int .i64 f5, .int .i64 d5, .int .i64 s5, .slice a5 q5.length c5] 24))) := by
    have gg : Grow w5 (w7.alloc (.cells #[.int .i64 f0, .int .i64 d0, .int .i64 s0, .slice a0 q0.length c0, .int .i64 f3, .int .i64 d3, .int .i64 s3, .slice a3 q3.length c3, .int .i64 f1, .int .i64 d1, .int .i64 s1, .slice a4 q4.length c4, .int .i64 f5, .int .i64 d5, .int .i64 s5, .slice a5 q5.length c5] 24)) := (G6.trans g7).alloc _
    refine ⟨RdS.mono hall (fun _ _ _ => trivial), fun c hc => ?_, X2.out.2.2.1.grow gg, X2.out.2.2.2.1.grow gg, X2.out.2.2.2.2.2.trans gg⟩
    simp only [List.mem_cons, List.not_mem_nil, or_false] at hc
    rcases hc with rfl | rfl | rfl | rfl
    · exact ⟨q0, X2.out.2.2.2.1.grow gg⟩
    · exact ⟨q3, X2.out.2.2.2.2.1.grow gg⟩
    · exact ⟨q4, hasPs_of (RdS.grow R4 (g7.alloc _))⟩
    · exact ⟨q5, hasPs_of (RdS.grow R5 ((Grow.refl _).alloc _))⟩
  clear hall hfew hodd kx R4 R5 g6 G6 g7
  generalize w7.alloc (.cells #[.int .i64 f0, .int .i64 d0, .int .i64 s0, .slice a0 q0.length c0, .int .i64 f3, .int .i64 d3, .int .i64 s3, .slice a3 q3.length c3, .int .i64 f1, .int .i64 d1, .int .i64 s1, .slice a4 q4.length c4, .int .i64 f5, .int .i64 d5, .int .i64 s5, .slice a5 q5.length c5] 24) = w8 at HA ⊢
  generalize hgs : [(⟨f0, d0, s0, .slice a0 q0.length c0⟩ : Cg), ⟨f3, d3, s3, .slice a3 q3.length c3⟩, ⟨f1, d1, s1, .slice a4 q4.length c4⟩, ⟨f5, d5, s5, .slice a5 q5.length c5⟩] = gs at HA
  have HLn : Hid (gs.length = 4) := by rw [← hgs]; exact rfl
  clear hgs
  generalize w7.heap.size = b8 at HA ⊢
  repeat (first
    | (refine wpS_move rfl ?_; simp only [Act.eval, Act.put, Array.getD_eq_getD_getElem?, List.getElem?_toArray, List.getElem?_cons_zero, List.getElem?_cons_succ, Option.getD_some, List.setIfInBounds_toArray, List.set_cons_zero, List.set_cons_succ])
    | (refine wpS_assign rfl ?_; simp only [Act.eval, Act.put, Array.getD_eq_getD_getElem?, List.getElem?_toArray, List.getElem?_cons_zero, List.getElem?_cons_succ, Option.getD_some, List.setIfInBounds_toArray, List.set_cons_zero, List.set_cons_succ])
    | (refine wpS_read (v := ?_) rfl ?_ ?_; rotate_left; (focus (intro w' hG; skip; go_simp; try (with_reducible rfl))); simp only [Act.put, List.setIfInBounds_toArray, List.set_cons_zero, List.set_cons_succ])
    | (refine wpS_skip rfl ?_; simp only [Act.put, List.setIfInBounds_toArray, List.set_cons_zero, List.set_cons_succ]))
  refine wpS_nil ?_
  have OG : Hid (∀ u u', (RdG (fun _ => True) u (.slice (some ⟨b8, 0, none⟩) 4 4) gs ∧ (∀ c ∈ gs, ∃ q, HasPs u c q) ∧ VarAt u b9 [.int .i64 f0, .int .i64 d0, .int .i64 s0, .slice a0 q0.length c0] ∧ HasPs u ⟨f0, d0, s0, .slice a0 q0.length c0⟩ q0 ∧ Grow w u) → Grow u u' → RdG (fun _ => True) u' (.slice (some ⟨b8, 0, none⟩) 4 4) gs ∧ (∀ c ∈ gs, ∃ q, HasPs u' c q) ∧ VarAt u' b9 [.int .i64 f0, .int .i64 d0, .int .i64 s0, .slice a0 q0.length c0] ∧ HasPs u' ⟨f0, d0, s0, .slice a0 q0.length c0⟩ q0 ∧ Grow w u') := fun u u' o g =>
    ⟨RdS.grow o.1 g, fun c hc => by obtain ⟨q, hq⟩ := o.2.1 c hc; exact ⟨q, hq.grow g⟩, o.2.2.1.grow g, o.2.2.2.1.grow g, o.2.2.2.2.trans g⟩
  clear X2
  go_wp2
  go_loopg [12] 4 (fun m iv u => ∃ i : Nat, m = 4 - i ∧ i ≤ 4 ∧ iv = .int .i64 i ∧ Hid (RdG (fun _ => True) u (.slice (some ⟨b8, 0, none⟩) 4 4) gs ∧ (∀ c ∈ gs, ∃ q, HasPs u c q) ∧ VarAt u b9 [.int .i64 f0, .int .i64 d0, .int .i64 s0, .slice a0 q0.length c0] ∧ HasPs u ⟨f0, d0, s0, .slice a0 q0.length c0⟩ q0 ∧ Grow w u))
  case atStart => exact ⟨0, by omega, by omega, rfl, HA⟩
  case round =>
    clear HA
    obtain ⟨i, hk, hi4, rfl, O⟩ := hrel
    by_cases hlt : i < 4
    · have hle : (i : Int) < 4 := by omega
      have HL : Hid (i < 4 ∧ gk = 4 - i) := ⟨hlt, hk⟩
      have hw1 : IntKind.i64.wrap ((i : Int) + 1) = (i : Int) + 1 := by rw [IntKind.wrap_i64]; omega
      clear hk hi4 hlt
      go_wp2
      go_loopg [13] 4 (fun m kv u => ∃ k : Nat, m = 4 - k ∧ k ≤ 4 ∧ kv = .int .i64 k ∧ Hid (RdG (fun _ => True) u (.slice (some ⟨b8, 0, none⟩) 4 4) gs ∧ (∀ c ∈ gs, ∃ q, HasPs u c q) ∧ VarAt u b9 [.int .i64 f0, .int .i64 d0, .int .i64 s0, .slice a0 q0.length c0] ∧ HasPs u ⟨f0, d0, s0, .slice a0 q0.length c0⟩ q0 ∧ Grow w u))
      case atStart => exact ⟨0, by omega, by omega, rfl, O⟩
      case round =>
        clear O
        obtain ⟨k, hk, hk4, rfl, O⟩ := hrel
        by_cases hlt : k < 4
        · have hle2 : (k : Int) < 4 := by omega
          have HK : Hid (k < 4 ∧ gk = 4 - k) := ⟨hlt, hk⟩
          have hw2 : IntKind.i64.wrap ((k : Int) + 1) = (k : Int) + 1 := by rw [IntKind.wrap_i64]; omega
          have hi4 : i < 4 := HL.out.1
          have hxg : i < gs.length := by have := HLn.out; omega
          obtain ⟨bbx, oox, halx, _, _, hinx⟩ := rdG_at O.out.1 hxg
          injection halx with halx
          injection halx with e1x e2x
          subst e1x e2x
          rw [Nat.zero_add] at hinx
          obtain ⟨qx, hqx⟩ := O.out.2.1 _ (getG_mem hxg)
          generalize gs.getD i Cg.zero = cx at hinx hqx
          obtain ⟨xf, xd, xs, xv⟩ := cx
          have HVx : Hid (HasPs wr ⟨xf, xd, xs, xv⟩ qx) := hqx
          obtain ⟨xa, xc, hcvx⟩ := RdS.shape hqx
          have hcwx : xv = .slice xa qx.length xc := hcvx
          subst hcwx
          have HNx : Hid (GIn wr b8 (i * 4) ⟨xf, xd, xs, .slice xa qx.length xc⟩) := hinx
          clear hinx hqx hcvx hxg
          have hyg : k < gs.length := by have := HLn.out; omega
          obtain ⟨bby, ooy, haly, _, _, hiny⟩ := rdG_at O.out.1 hyg
          injection haly with haly
          injection haly with e1y e2y
          subst e1y e2y
          rw [Nat.zero_add] at hiny
          obtain ⟨qy, hqy⟩ := O.out.2.1 _ (getG_mem hyg)
          generalize gs.getD k Cg.zero = cy at hiny hqy
          obtain ⟨yf, yd, ys, yv⟩ := cy
          have HVy : Hid (HasPs wr ⟨yf, yd, ys, yv⟩ qy) := hqy
          obtain ⟨ya, yc, hcvy⟩ := RdS.shape hqy
          have hcwy : yv = .slice ya qy.length yc := hcvy
          subst hcwy
          have HNy : Hid (GIn wr b8 (k * 4) ⟨yf, yd, ys, .slice ya qy.length yc⟩) := hiny
          clear hiny hqy hcvy hyg
          clear hk hk4 hlt hi4
          have hs1 := fun w' (g : Grow wr w') => csame_any xf xd xs _ qx yf yd ys _ qy w' (HVx.out.grow g) (HVy.out.grow g)
          have hs2 := fun w' (g : Grow wr w') => rsame_any xf xd xs _ qx yf yd ys _ qy w' (HVx.out.grow g) (HVy.out.grow g)
          generalize sameG xf xd xs qx yf yd ys qy = B at hs1 hs2
          simp only at hs1 hs2
          go_wp2
          have kx : ∀ w', Grow wr.drew w' → GIn w' b8 (i * 4) ⟨xf, xd, xs, .slice xa qx.length xc⟩ ∧ GIn w' b8 (k * 4) ⟨yf, yd, ys, .slice ya qy.length yc⟩ := fun w' h => ⟨HNx.out.up ((Grow.refl wr).drew.trans h), HNy.out.up ((Grow.refl wr).drew.trans h)⟩
          simp only [GIn] at kx
          refine wp_region_sched (by kernel_rfl) [(0, false), (1, false), (2, false), (3, false), (4, false), (5, false), (6, false), (7, false), (9, false), (10, false), (11, false), (12, false), (13, false), (14, false), (15, false), (16, false), (8, true), (17, true), (18, false)] (by kernel_rfl) (by kernel_rfl) rfl (fun _ _ d _ _ h => by cases d <;> exact h) ?_
          simp only [inOrder, List.filterMap_cons, List.filterMap_nil, List.getElem?_toArray, List.getElem?_cons_zero, List.getElem?_cons_succ, Option.map_some]
          repeat (first
            | (refine wpS_move rfl ?_; simp only [Act.eval, Act.put, Array.getD_eq_getD_getElem?, List.getElem?_toArray, List.getElem?_cons_zero, List.getElem?_cons_succ, Option.getD_some, List.setIfInBounds_toArray, List.set_cons_zero, List.set_cons_succ])
            | (refine wpS_assign rfl ?_; simp only [Act.eval, Act.put, Array.getD_eq_getD_getElem?, List.getElem?_toArray, List.getElem?_cons_zero, List.getElem?_cons_succ, Option.getD_some, List.setIfInBounds_toArray, List.set_cons_zero, List.set_cons_succ])
            | (refine wpS_read (v := ?_) rfl ?_ ?_; rotate_left; (focus (intro w' hG; obtain ⟨⟨k0, k1, k2, k3⟩, m0, m1, m2, m3⟩ := kx w' hG; go_simp; try (with_reducible rfl))); simp only [Act.put, List.setIfInBounds_toArray, List.set_cons_zero, List.set_cons_succ])
            | (refine wpS_skip rfl ?_; simp only [Act.put, List.setIfInBounds_toArray, List.set_cons_zero, List.set_cons_succ]))
          refine wpS_call (f := ?_) (args := ?_) (by rfl) ?_ ?_
          rotate_left 2; focus (go_simp; constructor <;> with_reducible rfl)
          refine (hs1 wr.drew (Grow.refl wr).drew).mono ?_
          rintro e u1 ⟨rfl, j1⟩
          refine ⟨_, rfl, j1, ?_⟩
          simp only [Act.put, List.setIfInBounds_toArray, List.set_cons_zero, List.set_cons_succ]
          repeat (first
            | (refine wpS_move rfl ?_; simp only [Act.eval, Act.put, Array.getD_eq_getD_getElem?, List.getElem?_toArray, List.getElem?_cons_zero, List.getElem?_cons_succ, Option.getD_some, List.setIfInBounds_toArray, List.set_cons_zero, List.set_cons_succ])
            | (refine wpS_assign rfl ?_; simp only [Act.eval, Act.put, Array.getD_eq_getD_getElem?, List.getElem?_toArray, List.getElem?_cons_zero, List.getElem?_cons_succ, Option.getD_some, List.setIfInBounds_toArray, List.set_cons_zero, List.set_cons_succ])
            | (refine wpS_read (v := ?_) rfl ?_ ?_; rotate_left; (focus (intro w' hG; skip; go_simp; try (with_reducible rfl))); simp only [Act.put, List.setIfInBounds_toArray, List.set_cons_zero, List.set_cons_succ])
            | (refine wpS_skip rfl ?_; simp only [Act.put, List.setIfInBounds_toArray, List.set_cons_zero, List.set_cons_succ]))
          refine wpS_call (f := ?_) (args := ?_) (by rfl) ?_ ?_
          rotate_left 2; focus (go_simp; constructor <;> with_reducible rfl)
          refine (hs2 u1 ((Grow.refl wr).drew.trans j1)).mono ?_
          rintro e u2 ⟨rfl, j2⟩
          refine ⟨_, rfl, j2, ?_⟩
          simp only [Act.put, List.setIfInBounds_toArray, List.set_cons_zero, List.set_cons_succ]
          repeat (first
            | (refine wpS_move rfl ?_; simp only [Act.eval, Act.put, Array.getD_eq_getD_getElem?, List.getElem?_toArray, List.getElem?_cons_zero, List.getElem?_cons_succ, Option.getD_some, List.setIfInBounds_toArray, List.set_cons_zero, List.set_cons_succ])
            | (refine wpS_assign rfl ?_; simp only [Act.eval, Act.put, Array.getD_eq_getD_getElem?, List.getElem?_toArray, List.getElem?_cons_zero, List.getElem?_cons_succ, Option.getD_some, List.setIfInBounds_toArray, List.set_cons_zero, List.set_cons_succ])
            | (refine wpS_read (v := ?_) rfl ?_ ?_; rotate_left; (focus (intro w' hG; skip; go_simp; try (with_reducible rfl))); simp only [Act.put, List.setIfInBounds_toArray, List.set_cons_zero, List.set_cons_succ])
            | (refine wpS_skip rfl ?_; simp only [Act.put, List.setIfInBounds_toArray, List.set_cons_zero, List.set_cons_succ]))
          refine wpS_nil ?_
          have O2 : Hid (RdG (fun _ => True) u2 (.slice (some ⟨b8, 0, none⟩) 4 4) gs ∧ (∀ c ∈ gs, ∃ q, HasPs u2 c q) ∧ VarAt u2 b9 [.int .i64 f0, .int .i64 d0, .int .i64 s0, .slice a0 q0.length c0] ∧ HasPs u2 ⟨f0, d0, s0, .slice a0 q0.length c0⟩ q0 ∧ Grow w u2) := OG.out _ _ O.out (((Grow.refl wr).drew.trans j1).trans j2)
          go_wp2
          go_roundg (4 - (k + 1))
          case measure => have := HK.out; omega
          case rel => exact ⟨k + 1, rfl, HK.out.1, by go_num, O2⟩
        · have hle2 : ¬ (k : Int) < 4 := by omega
          go_wp2
          go_roundg (4 - (i + 1))
          case measure => have := HL.out; omega
          case rel => exact ⟨i + 1, rfl, HL.out.1, by go_num, O⟩
    · have hle : ¬ (i : Int) < 4 := by omega
      clear hk hi4 hlt
      have hb := HG0.out.bounds
      have hq0 : 0 < q0.length := by omega
      have hql : q0.length ≤ 4 := by omega
      have hz : ((q0.length : Int) == 0) = false := by rw [beq_eq_false_iff_ne]; omega
      have hz2 : (0 : Int) < (q0.length : Int) := by omega
      obtain ⟨bx, ox, hax, _, hbx, hinx⟩ := rdP_at O.out.2.2.2.1 hq0
      have hsm := HG0.out.2.2.2.2.2.1 _ (getD_mem hq0)
      rw [Nat.zero_mul, Nat.add_zero] at hinx
      obtain ⟨sq1, sq3, _, _⟩ := hsm
      subst hax
      have HWR : Hid (w.heap.size ≤ wr.heap.size) := O.out.2.2.2.2.size
      have E0 : Hid (PIn wr bx ox (q0.getD 0 Pt.zero) ∧ bx < wr.heap.size ∧ b9 < wr.heap.size) := ⟨hinx, hbx, O.out.2.2.1.lt⟩
      have hcl := clone_any f0 d0 s0 _ q0 wr O.out.2.2.2.1 (by omega)
      simp only at hcl
      clear hb hinx hbx
      obtain ⟨⟨m0, m1, m2, m3⟩, -⟩ := O.out.2.2.1.four
      go_wp2_with fail
      refine hcl.mono ?_
      rintro e u1 ⟨v6, rfl, O6, j1⟩
      clear hcl m0 m1 m2 m3
      have HO6 : Hid (OwnP (fun i => wr.heap.size ≤ i) u1 v6 q0) := O6
      obtain ⟨a6, c6, rfl⟩ := O6.shape
      have gU : Grow u1 (u1.alloc (.cells #[.int .i64 f0, .int .i64 d0, .int .i64 s0, .slice a6 q0.length c6] 24)) := (Grow.refl u1).alloc _
      have Y1 : Hid (VarAt (u1.alloc (.cells #[.int .i64 f0, .int .i64 d0, .int .i64 s0, .slice a6 q0.length c6] 24)) u1.heap.size [.int .i64 f0, .int .i64 d0, .int .i64 s0, .slice a6 q0.length c6] ∧ VarAt (u1.alloc (.cells #[.int .i64 f0, .int .i64 d0, .int .i64 s0, .slice a6 q0.length c6] 24)) b9 [.int .i64 f0, .int .i64 d0, .int .i64 s0, .slice (some ⟨bx, ox, none⟩) q0.length c0] ∧ OwnP (fun i => wr.heap.size ≤ i) (u1.alloc (.cells #[.int .i64 f0, .int .i64 d0, .int .i64 s0, .slice a6 q0.length c6] 24)) (.slice a6 q0.length c6) q0 ∧ HasPs (u1.alloc (.cells #[.int .i64 f0, .int .i64 d0, .int .i64 s0, .slice a6 q0.length c6] 24)) ⟨f0, d0, s0, .slice (some ⟨bx, ox, none⟩) q0.length c0⟩ q0 ∧ PIn (u1.alloc (.cells #[.int .i64 f0, .int .i64 d0, .int .i64 s0, .slice a6 q0.length c6] 24)) bx ox (q0.getD 0 Pt.zero) ∧ Grow w (u1.alloc (.cells #[.int .i64 f0, .int .i64 d0, .int .i64 s0, .slice a6 q0.length c6] 24))) :=
        ⟨VarAt.new u1 [.int .i64 f0, .int .i64 d0, .int .i64 s0, .slice a6 q0.length c6] _, O.out.2.2.1.grow (j1.trans gU), OwnS.grow HO6.out gU, O.out.2.2.2.1.grow (j1.trans gU), E0.out.1.grow (j1.trans gU), O.out.2.2.2.2.trans (j1.trans gU)⟩
      have hrs := rsame_any f0 d0 s0 _ q0 f0 d0 s0 _ q0 _ (Y1.out.2.2.1.rd) (Y1.out.2.2.2.1)
      rw [sameG_self] at hrs
      simp only at hrs
      obtain ⟨⟨m0, m1, m2, m3⟩, -⟩ := Y1.out.2.1.four
      go_wp2_with fail
      refine hrs.mono ?_
      rintro e u2 ⟨rfl, j2⟩
      clear hrs gU O6 HO6 O m0 m1 m2 m3
      have Y2 : Hid (VarAt u2 u1.heap.size [.int .i64 f0, .int .i64 d0, .int .i64 s0, .slice a6 q0.length c6] ∧ VarAt u2 b9 [.int .i64 f0, .int .i64 d0, .int .i64 s0, .slice (some ⟨bx, ox, none⟩) q0.length c0] ∧ OwnP (fun i => wr.heap.size ≤ i) u2 (.slice a6 q0.length c6) q0 ∧ PIn u2 bx ox (q0.getD 0 Pt.zero) ∧ Grow w u2) :=
        ⟨Y1.out.1.grow j2, Y1.out.2.1.grow j2, OwnS.grow Y1.out.2.2.1 j2, Y1.out.2.2.2.2.1.grow j2, Y1.out.2.2.2.2.2.trans j2⟩
      clear Y1 j2
      generalize u1.heap.size = b14 at Y2 ⊢
      obtain ⟨gg, oo, cc, he, hgg, hglt, _, _, hcell, hfro, _⟩ := OwnS.row Y2.out.2.2.1 Pt.cs_length Pt.zero (i := 0) hq0
      injection he with ea en ec
      subst ea
      have k0 : u2.cell? ⟨gg, oo, none⟩ = some (.int .i64 (q0.getD 0 Pt.zero).q) := by have := hcell 0 (by omega); rw [Nat.zero_mul, Nat.add_zero] at this; exact this
      have k1 : u2.frozen? ⟨gg, oo, none⟩ = false := by have := hfro 0 (by omega); rw [Nat.zero_mul, Nat.add_zero] at this; exact this
      have hgw : wr.heap.size ≤ gg := hgg
      have HU : Hid (UpdS (fun k => k = gg) u2 (u2.setCell ⟨gg, oo, none⟩ (.int .i64 99))) := upd_one u2 gg oo _
      have Y3 : Hid (VarAt (u2.setCell ⟨gg, oo, none⟩ (.int .i64 99)) b9 [.int .i64 f0, .int .i64 d0, .int .i64 s0, .slice (some ⟨bx, ox, none⟩) q0.length c0] ∧ PIn (u2.setCell ⟨gg, oo, none⟩ (.int .i64 99)) bx ox (q0.getD 0 Pt.zero)) :=
        ⟨Y2.out.2.1.upd HU.out (by have := E0.out.2.2; omega), Y2.out.2.2.2.1.upd HU.out (by have := E0.out.2.1; omega)⟩
      have hwg : w.heap.size ≤ gg := by
        have h0 := E0.out.2
        exact Nat.le_trans HWR.out hgw
      have HGR : Hid (Grow w (u2.setCell ⟨gg, oo, none⟩ (.int .i64 99))) := UpdS.new Y2.out.2.2.2.2 HU.out (fun i hi => by omega)
      have ne1 : ¬ gg = b9 := by have := E0.out.2.2; omega
      have ne2 : ¬ b9 = gg := by have := E0.out.2.2; omega
      have ne3 : ¬ gg = bx := by have := E0.out.2.1; omega
      have ne4 : ¬ bx = gg := by have := E0.out.2.1; omega
      clear hcell hfro hgg hglt en ec hwg hgw HU
      obtain ⟨⟨n0, n1, n2, n3⟩, -⟩ := Y2.out.1.four
      obtain ⟨⟨m0, m1, m2, m3⟩, -⟩ := Y2.out.2.1.four
      obtain ⟨x0, x1, x2⟩ := Y2.out.2.2.2.1
      generalize q0.getD 0 Pt.zero = d at k0 Y3 sq1 sq3 x0 x1 x2
      have hq1 : (d.q == 99) = false := by rw [beq_eq_false_iff_ne]; omega
      have hq2 : (d.q != 99) = true := by simp [bne, hq1]
      go_wp2_with fail
      generalize u2.setCell ⟨gg, oo, none⟩ (.int .i64 99) = u3 at Y3 HGR ⊢
      refine (lives_any _).mono ?_
      rintro e u4 ⟨rfl, j4⟩
      go_wp2
      go_ret
      exact ⟨rfl, HGR.out.trans j4⟩
end Go.Proofs.Ytaieepbfccdmiaa
