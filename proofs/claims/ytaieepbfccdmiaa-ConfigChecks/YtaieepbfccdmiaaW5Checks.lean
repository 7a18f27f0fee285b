/-
  The walk of the law ConfigChecks. Conditions: the theorem's own.
-/
import Derived.Test.YtaieepbfccdmiaaCfgGood
import Derived.Test.YtaieepbfccdmiaaCfgOdd
import Derived.Test.YtaieepbfccdmiaaCfgAll
namespace Go.Proofs.Ytaieepbfccdmiaa
open Go.RowKit
set_option linter.unusedVariables false
set_option linter.unusedSimpArgs false

theorem GIn.grow {w w' : World} {b o : Nat} {c : Cg} (h : GIn w b o c) (hu : Grow w w') : GIn w' b o c := by
  have hlt : b < w.heap.size := World.block_lt_of_cell? _ _ h.1
  have hs := hu.s (S := fun _ => False)
  obtain ⟨h0, h1, h2, h3⟩ := h
  refine ⟨?_, ?_, ?_, ?_⟩
  · rw [hs.cell (p := ⟨b, o, none⟩) hlt (fun f => f)]; exact h0
  · rw [hs.cell (p := ⟨b, o + 1, none⟩) hlt (fun f => f)]; exact h1
  · rw [hs.cell (p := ⟨b, o + 2, none⟩) hlt (fun f => f)]; exact h2
  · rw [hs.cell (p := ⟨b, o + 3, none⟩) hlt (fun f => f)]; exact h3
theorem tup_pair {S T : ByteArray} : True := trivial

set_option maxHeartbeats 4000000 in
theorem configChecks_walk {p : Nat → Prop} (fr dp se : Int) (v : Value) (ps : List Pt) (which n : Int) (w : World) (h : RdP p w v ps) (hok : ∀ x ∈ ps, x.Ok) (hdp : W64 dp) (hse : W64 se) (hwh : W64 which) (hn : W64 n) :
    Calls Try.prog 3 #[.agg #[.int .i64 fr, .int .i64 dp, .int .i64 se, v], .int .i64 which, .int .i64 n] w fun e w' => e = .returned (.bool true) ∧ Below w.heap.size w w' := by
  have hA13 := fun w' => around_any n 13 w' (wf_of hn) (by omega) (by omega)
  have hA70 := fun w' => around_any which 70 w' (wf_of hwh) (by omega) (by omega)
  generalize around n 13 = A13 at hA13
  generalize around which 70 = A70 at hA70
  have HI : Hid (VarAt (w.alloc (.cells #[.int .i64 fr, .int .i64 dp, .int .i64 se, v] 24)) w.heap.size [.int .i64 fr, .int .i64 dp, .int .i64 se, v] ∧ RdP p w v ps) := ⟨VarAt.new w [.int .i64 fr, .int .i64 dp, .int .i64 se, v] _, h⟩
  have HG : Hid (Grow w (w.alloc (.cells #[.int .i64 fr, .int .i64 dp, .int .i64 se, v] 24))) := (Grow.refl w).alloc _
  have hgood := fun w' (g : Grow w w') => good_any fr dp se v ps w' (RdS.grow h g) hok hdp hse
  obtain ⟨a, cp, rfl, h1, h2, -⟩ := h
  clear hok hdp hse
  go_enter Try.func3, Try.ntmps3
  go_wp2_with fail
  refine (hgood _ HG.out).mono ?_
  rintro e w2 ⟨fr', dp', se', v', ps', rfl, hG, hR, g2⟩
  have HR : Hid (GoodC fr' dp' se' ps' ∧ RdP (fun i => (w.alloc (.cells #[.int .i64 fr, .int .i64 dp, .int .i64 se, .slice a ps.length cp] 24)).heap.size ≤ i) w2 v' ps' ∧ Grow w w2) := ⟨hG, hR, HG.out.trans g2⟩
  obtain ⟨a', c', rfl, _, _, -⟩ := hR
  have HGW := g2
  clear hG hgood HG
  have X : Hid (VarAt (w2.alloc (.cells #[.int .i64 fr', .int .i64 dp', .int .i64 se', .slice a' ps'.length c'] 24)) w2.heap.size [.int .i64 fr', .int .i64 dp', .int .i64 se', .slice a' ps'.length c'] ∧ Grow w2 (w2.alloc (.cells #[.int .i64 fr', .int .i64 dp', .int .i64 se', .slice a' ps'.length c'] 24))) := ⟨VarAt.new w2 [.int .i64 fr', .int .i64 dp', .int .i64 se', .slice a' ps'.length c'] _, (Grow.refl w2).alloc _⟩
  have Y : Hid (VarAt (w2.alloc (.cells #[.int .i64 fr', .int .i64 dp', .int .i64 se', .slice a' ps'.length c'] 24)) w.heap.size [.int .i64 fr, .int .i64 dp, .int .i64 se, .slice a ps.length cp]) := by
    have := HR.out.2.2
    exact VarAt.grow (VarAt.grow HI.out.1 HGW) X.out.2
  go_wp2
  generalize w2.alloc (.cells #[.int .i64 fr', .int .i64 dp', .int .i64 se', .slice a' ps'.length c'] 24) = w3 at X Y ⊢
  generalize w2.heap.size = b7 at X ⊢
  have HW : Hid (Grow w w3) := HR.out.2.2.trans X.out.2
  have HP : Hid (RdP p w (.slice a ps.length cp) ps) := HI.out.2
  clear HI
  have hfew := fun w' (g : Grow w w') => few_any fr dp se _ ps w' (RdS.grow HP.out g)
  generalize w.heap.size = b3 at Y ⊢
  have hlen : ps'.length ≤ 1000 := by have := HR.out.1.bounds; omega
  have hodd := fun m w' (g : Grow w3 w') => odd_any fr' dp' se' _ ps' which m w' (RdS.grow HR.out.2.1 (X.out.2.trans g)) hlen hwh
  have kx : ∀ w', Grow w3.drew w' → VarAt w' b3 [.int .i64 fr, .int .i64 dp, .int .i64 se, .slice a ps.length cp] ∧ VarAt w' b7 [.int .i64 fr', .int .i64 dp', .int .i64 se', .slice a' ps'.length c'] := fun w' h => ⟨Y.out.grow ((Grow.refl w3).drew.trans h), X.out.1.grow ((Grow.refl w3).drew.trans h)⟩
  refine wp_region_sched (by kernel_rfl) [(0, false), (2, false), (3, false), (4, false), (5, false), (7, false), (8, false), (9, false), (12, false), (13, false), (14, false), (16, false), (17, false), (1, true), (6, true), (10, true), (11, true), (15, true), (18, true), (19, true), (20, true), (21, false)] (by kernel_rfl) (by kernel_rfl) rfl (fun _ _ d _ _ h => by cases d <;> exact h) ?_
  simp only [inOrder, List.filterMap_cons, List.filterMap_nil, List.getElem?_toArray, List.getElem?_cons_zero, List.getElem?_cons_succ, Option.map_some]
  repeat (first
    | (refine wpS_move rfl ?_; simp only [Act.eval, Act.put, Array.getD_eq_getD_getElem?, List.getElem?_toArray, List.getElem?_cons_zero, List.getElem?_cons_succ, Option.getD_some, List.setIfInBounds_toArray, List.set_cons_zero, List.set_cons_succ])
    | (refine wpS_assign rfl ?_; simp only [Act.eval, Act.put, Array.getD_eq_getD_getElem?, List.getElem?_toArray, List.getElem?_cons_zero, List.getElem?_cons_succ, Option.getD_some, List.setIfInBounds_toArray, List.set_cons_zero, List.set_cons_succ])
    | (refine wpS_read (v := ?_) rfl ?_ ?_; rotate_left; (focus (intro w' hG; obtain ⟨⟨k0, k1, k2, k3⟩, -⟩ := (kx w' hG).1.four; obtain ⟨⟨m0, m1, m2, m3⟩, -⟩ := (kx w' hG).2.four; go_simp; try (with_reducible rfl))); simp only [Act.put, List.setIfInBounds_toArray, List.set_cons_zero, List.set_cons_succ])
    | (refine wpS_skip rfl ?_; simp only [Act.put, List.setIfInBounds_toArray, List.set_cons_zero, List.set_cons_succ]))
  refine wpS_call (f := ?_) (args := ?_) (by rfl) ?_ ?_
  rotate_left 2; focus (go_simp; constructor <;> with_reducible rfl)
  refine (hfew w3.drew (HW.out.trans (Grow.refl w3).drew)).mono ?_
  rintro e w4 ⟨v1, rfl, R1, g4⟩
  have G4 : Grow w3 w4 := (Grow.refl w3).drew.trans g4
  generalize ps.take 5 = q1 at R1
  obtain ⟨a1, c1, rfl⟩ := R1.shape
  refine ⟨_, rfl, g4, ?_⟩
  simp only [Act.put, List.setIfInBounds_toArray, List.set_cons_zero, List.set_cons_succ]
  repeat (first
    | (refine wpS_move rfl ?_; simp only [Act.eval, Act.put, Array.getD_eq_getD_getElem?, List.getElem?_toArray, List.getElem?_cons_zero, List.getElem?_cons_succ, Option.getD_some, List.setIfInBounds_toArray, List.set_cons_zero, List.set_cons_succ])
    | (refine wpS_assign rfl ?_; simp only [Act.eval, Act.put, Array.getD_eq_getD_getElem?, List.getElem?_toArray, List.getElem?_cons_zero, List.getElem?_cons_succ, Option.getD_some, List.setIfInBounds_toArray, List.set_cons_zero, List.set_cons_succ])
    | (refine wpS_read (v := ?_) rfl ?_ ?_; rotate_left; (focus (intro w' hG; skip; go_simp; try (with_reducible rfl))); simp only [Act.put, List.setIfInBounds_toArray, List.set_cons_zero, List.set_cons_succ])
    | (refine wpS_skip rfl ?_; simp only [Act.put, List.setIfInBounds_toArray, List.set_cons_zero, List.set_cons_succ]))
  refine wpS_call (f := ?_) (args := ?_) (by rfl) ?_ ?_
  rotate_left 2; focus (go_simp; constructor <;> with_reducible rfl)
  refine (hodd n w4 G4).mono ?_
  rintro e w5 ⟨f2, d2, s2, v2, q2, rfl, R2, l2, g5⟩
  obtain ⟨a2, c2, rfl⟩ := R2.shape
  clear l2
  refine ⟨_, rfl, g5, ?_⟩
  simp only [Act.put, List.setIfInBounds_toArray, List.set_cons_zero, List.set_cons_succ]
  repeat (first
    | (refine wpS_move rfl ?_; simp only [Act.eval, Act.put, Array.getD_eq_getD_getElem?, List.getElem?_toArray, List.getElem?_cons_zero, List.getElem?_cons_succ, Option.getD_some, List.setIfInBounds_toArray, List.set_cons_zero, List.set_cons_succ])
    | (refine wpS_assign rfl ?_; simp only [Act.eval, Act.put, Array.getD_eq_getD_getElem?, List.getElem?_toArray, List.getElem?_cons_zero, List.getElem?_cons_succ, Option.getD_some, List.setIfInBounds_toArray, List.set_cons_zero, List.set_cons_succ])
    | (refine wpS_read (v := ?_) rfl ?_ ?_; rotate_left; (focus (intro w' hG; skip; go_simp; try (with_reducible rfl))); simp only [Act.put, List.setIfInBounds_toArray, List.set_cons_zero, List.set_cons_succ])
    | (refine wpS_skip rfl ?_; simp only [Act.put, List.setIfInBounds_toArray, List.set_cons_zero, List.set_cons_succ]))
  refine wpS_call (f := ?_) (args := ?_) (by rfl) ?_ ?_
  rotate_left 2; focus (go_simp; constructor <;> with_reducible rfl)
  refine (hA13 w5).mono ?_
  rintro e w6 ⟨rfl, rfl⟩
  refine ⟨_, rfl, Grow.refl _, ?_⟩
  simp only [Act.put, List.setIfInBounds_toArray, List.set_cons_zero, List.set_cons_succ]
  repeat (first
    | (refine wpS_move rfl ?_; simp only [Act.eval, Act.put, Array.getD_eq_getD_getElem?, List.getElem?_toArray, List.getElem?_cons_zero, List.getElem?_cons_succ, Option.getD_some, List.setIfInBounds_toArray, List.set_cons_zero, List.set_cons_succ])
    | (refine wpS_assign rfl ?_; simp only [Act.eval, Act.put, Array.getD_eq_getD_getElem?, List.getElem?_toArray, List.getElem?_cons_zero, List.getElem?_cons_succ, Option.getD_some, List.setIfInBounds_toArray, List.set_cons_zero, List.set_cons_succ])
    | (refine wpS_read (v := ?_) rfl ?_ ?_; rotate_left; (focus (intro w' hG; skip; go_simp; try (with_reducible rfl))); simp only [Act.put, List.setIfInBounds_toArray, List.set_cons_zero, List.set_cons_succ])
    | (refine wpS_skip rfl ?_; simp only [Act.put, List.setIfInBounds_toArray, List.set_cons_zero, List.set_cons_succ]))
  refine wpS_call (f := ?_) (args := ?_) (by rfl) ?_ ?_
  rotate_left 2; focus (go_simp; constructor <;> with_reducible rfl)
  refine (hodd A13 w5 (G4.trans g5)).mono ?_
  rintro e w6 ⟨f3, d3, s3, v3, q3, rfl, R3, l3, g6⟩
  obtain ⟨a3, c3, rfl⟩ := R3.shape
  clear l3
  refine ⟨_, rfl, g6, ?_⟩
  simp only [Act.put, List.setIfInBounds_toArray, List.set_cons_zero, List.set_cons_succ]
  repeat (first
    | (refine wpS_move rfl ?_; simp only [Act.eval, Act.put, Array.getD_eq_getD_getElem?, List.getElem?_toArray, List.getElem?_cons_zero, List.getElem?_cons_succ, Option.getD_some, List.setIfInBounds_toArray, List.set_cons_zero, List.set_cons_succ])
    | (refine wpS_assign rfl ?_; simp only [Act.eval, Act.put, Array.getD_eq_getD_getElem?, List.getElem?_toArray, List.getElem?_cons_zero, List.getElem?_cons_succ, Option.getD_some, List.setIfInBounds_toArray, List.set_cons_zero, List.set_cons_succ])
    | (refine wpS_read (v := ?_) rfl ?_ ?_; rotate_left; (focus (intro w' hG; skip; go_simp; try (with_reducible rfl))); simp only [Act.put, List.setIfInBounds_toArray, List.set_cons_zero, List.set_cons_succ])
    | (refine wpS_skip rfl ?_; simp only [Act.put, List.setIfInBounds_toArray, List.set_cons_zero, List.set_cons_succ]))
  refine wpS_call (f := ?_) (args := ?_) (by rfl) ?_ ?_
  rotate_left 2; focus (go_simp; constructor <;> with_reducible rfl)
  refine (hodd n w6 ((G4.trans g5).trans g6)).mono ?_
  rintro e w7 ⟨f4, d4, s4, v4, q4, rfl, R4, l4, g7⟩
  have HL4 : Hid (q4.length = ps'.length) := l4
  clear l4
  refine ⟨_, rfl, g7, ?_⟩
  simp only [Act.put, List.setIfInBounds_toArray, List.set_cons_zero, List.set_cons_succ]
  repeat (first
    | (refine wpS_move rfl ?_; simp only [Act.eval, Act.put, Array.getD_eq_getD_getElem?, List.getElem?_toArray, List.getElem?_cons_zero, List.getElem?_cons_succ, Option.getD_some, List.setIfInBounds_toArray, List.set_cons_zero, List.set_cons_succ])
    | (refine wpS_assign rfl ?_; simp only [Act.eval, Act.put, Array.getD_eq_getD_getElem?, List.getElem?_toArray, List.getElem?_cons_zero, List.getElem?_cons_succ, Option.getD_some, List.setIfInBounds_toArray, List.set_cons_zero, List.set_cons_succ])
    | (refine wpS_read (v := ?_) rfl ?_ ?_; rotate_left; (focus (intro w' hG; skip; go_simp; try (with_reducible rfl))); simp only [Act.put, List.setIfInBounds_toArray, List.set_cons_zero, List.set_cons_succ])
    | (refine wpS_skip rfl ?_; simp only [Act.put, List.setIfInBounds_toArray, List.set_cons_zero, List.set_cons_succ]))
  refine wpS_call (f := ?_) (args := ?_) (by rfl) ?_ ?_
  rotate_left 2; focus (go_simp; constructor <;> with_reducible rfl)
  refine (hA70 w7).mono ?_
  rintro e w8 ⟨rfl, rfl⟩
  refine ⟨_, rfl, Grow.refl _, ?_⟩
  simp only [Act.put, List.setIfInBounds_toArray, List.set_cons_zero, List.set_cons_succ]
  repeat (first
    | (refine wpS_move rfl ?_; simp only [Act.eval, Act.put, Array.getD_eq_getD_getElem?, List.getElem?_toArray, List.getElem?_cons_zero, List.getElem?_cons_succ, Option.getD_some, List.setIfInBounds_toArray, List.set_cons_zero, List.set_cons_succ])
    | (refine wpS_assign rfl ?_; simp only [Act.eval, Act.put, Array.getD_eq_getD_getElem?, List.getElem?_toArray, List.getElem?_cons_zero, List.getElem?_cons_succ, Option.getD_some, List.setIfInBounds_toArray, List.set_cons_zero, List.set_cons_succ])
    | (refine wpS_read (v := ?_) rfl ?_ ?_; rotate_left; (focus (intro w' hG; skip; go_simp; try (with_reducible rfl))); simp only [Act.put, List.setIfInBounds_toArray, List.set_cons_zero, List.set_cons_succ])
    | (refine wpS_skip rfl ?_; simp only [Act.put, List.setIfInBounds_toArray, List.set_cons_zero, List.set_cons_succ]))
  refine wpS_call (f := ?_) (args := ?_) (by rfl) ?_ ?_
  rotate_left 2; focus (go_simp; constructor <;> with_reducible rfl)
  refine (odd_any f4 d4 s4 v4 q4 n A70 w7 R4 (by have := HL4.out; omega) hn).mono ?_
  rintro e w8 ⟨f5, d5, s5, v5, q5, rfl, R5, l5, g8⟩
  obtain ⟨a5, c5, rfl⟩ := R5.shape
  clear l5
  refine ⟨_, rfl, g8, ?_⟩
  simp only [Act.put, List.setIfInBounds_toArray, List.set_cons_zero, List.set_cons_succ]
  repeat (first
    | (refine wpS_move rfl ?_; simp only [Act.eval, Act.put, Array.getD_eq_getD_getElem?, List.getElem?_toArray, List.getElem?_cons_zero, List.getElem?_cons_succ, Option.getD_some, List.setIfInBounds_toArray, List.set_cons_zero, List.set_cons_succ])
    | (refine wpS_assign rfl ?_; simp only [Act.eval, Act.put, Array.getD_eq_getD_getElem?, List.getElem?_toArray, List.getElem?_cons_zero, List.getElem?_cons_succ, Option.getD_some, List.setIfInBounds_toArray, List.set_cons_zero, List.set_cons_succ])
    | (refine wpS_read (v := ?_) rfl ?_ ?_; rotate_left; (focus (intro w' hG; skip; go_simp; try (with_reducible rfl))); simp only [Act.put, List.setIfInBounds_toArray, List.set_cons_zero, List.set_cons_succ])
    | (refine wpS_skip rfl ?_; simp only [Act.put, List.setIfInBounds_toArray, List.set_cons_zero, List.set_cons_succ]))
  refine wpS_act rfl (exec_cfg5 rfl rfl rfl rfl rfl rfl) ((Grow.refl _).alloc _) ?_
  simp only [Act.put, List.setIfInBounds_toArray, List.set_cons_zero, List.set_cons_succ]
  have hall := rdG_new5 w8 (f0 := fr) (d0 := dp) (s0 := se) (a0 := a1) (n0 := q1.length) (c0 := c1) (f1 := fr') (d1 := dp') (s1 := se') (a1 := a') (n1 := ps'.length) (c1 := c') (f2 := f2) (d2 := d2) (s2 := s2) (a2 := a2) (n2 := q2.length) (c2 := c2) (f3 := f3) (d3 := d3) (s3 := s3) (a3 := a3) (n3 := q3.length) (c3 := c3) (f4 := f5) (d4 := d5) (s4 := s5) (a4 := a5) (n4 := q5.length) (c4 := c5)
  have gal : ∀ o, Grow w8 (w8.alloc o) := fun o => (Grow.refl w8).alloc o
  have hps : ∀ o, ∀ c ∈ [(⟨fr, dp, se, .slice a1 q1.length c1⟩ : Cg), ⟨fr', dp', se', .slice a' ps'.length c'⟩, ⟨f2, d2, s2, .slice a2 q2.length c2⟩, ⟨f3, d3, s3, .slice a3 q3.length c3⟩, ⟨f5, d5, s5, .slice a5 q5.length c5⟩], ∃ qs, HasPs (w8.alloc o) c qs := by
    intro o c hc
    simp only [List.mem_cons, List.not_mem_nil, or_false] at hc
    rcases hc with rfl | rfl | rfl | rfl | rfl
    · exact ⟨q1, hasPs_of (RdS.grow R1 ((((g5.trans g6).trans g7).trans g8).trans (gal o)))⟩
    · exact ⟨ps', hasPs_of (RdS.grow HR.out.2.1 ((((((X.out.2.trans G4).trans g5).trans g6).trans g7).trans g8).trans (gal o)))⟩
    · exact ⟨q2, hasPs_of (RdS.grow R2 (((g6.trans g7).trans g8).trans (gal o)))⟩
    · exact ⟨q3, hasPs_of (RdS.grow R3 ((g7.trans g8).trans (gal o)))⟩
    · exact ⟨q5, hasPs_of (RdS.grow R5 (gal o))⟩
  have HA : Hid (RdG (fun _ => True) (w8.alloc (.cells #[.int .i64 fr, .int .i64 dp, .int .i64 se, .slice a1 q1.length c1, .int .i64 fr', .int .i64 dp', .int .i64 se', .slice a' ps'.length c', .int .i64 f2, .int .i64 d2, .int .i64 s2, .slice a2 q2.length c2, .int .i64 f3, .int .i64 d3, .int .i64 s3, .slice a3 q3.length c3, .int .i64 f5, .int .i64 d5, .int .i64 s5, .slice a5 q5.length c5] 24)) (.slice (some ⟨w8.heap.size, 0, none⟩) 5 5) [(⟨fr, dp, se, .slice a1 q1.length c1⟩ : Cg), ⟨fr', dp', se', .slice a' ps'.length c'⟩, ⟨f2, d2, s2, .slice a2 q2.length c2⟩, ⟨f3, d3, s3, .slice a3 q3.length c3⟩, ⟨f5, d5, s5, .slice a5 q5.length c5⟩] ∧ (∀ c ∈ [(⟨fr, dp, se, .slice a1 q1.length c1⟩ : Cg), ⟨fr', dp', se', .slice a' ps'.length c'⟩, ⟨f2, d2, s2, .slice a2 q2.length c2⟩, ⟨f3, d3, s3, .slice a3 q3.length c3⟩, ⟨f5, d5, s5, .slice a5 q5.length c5⟩], ∃ qs, HasPs (w8.alloc (.cells #[.int .i64 fr, .int .i64 dp, .int .i64 se, .slice a1 q1.length c1, .int .i64 fr', .int .i64 dp', .int .i64 se', .slice a' ps'.length c', .int .i64 f2, .int .i64 d2, .int .i64 s2, .slice a2 q2.length c2, .int .i64 f3, .int .i64 d3, .int .i64 s3, .slice a3 q3.length c3, .int .i64 f5, .int .i64 d5, .int .i64 s5, .slice a5 q5.length c5] 24)) c qs) ∧ Grow w (w8.alloc (.cells #[.int .i64 fr, .int .i64 dp, .int .i64 se, .slice a1 q1.length c1, .int .i64 fr', .int .i64 dp', .int .i64 se', .slice a' ps'.length c', .int .i64 f2, .int .i64 d2, .int .i64 s2, .slice a2 q2.length c2, .int .i64 f3, .int .i64 d3, .int .i64 s3, .slice a3 q3.length c3, .int .i64 f5, .int .i64 d5, .int .i64 s5, .slice a5 q5.length c5] 24))) :=
    ⟨RdS.mono hall (fun _ _ _ => trivial), hps _, (((((HW.out.trans G4).trans g5).trans g6).trans g7).trans g8).alloc _⟩
  clear hall gal hps kx hodd hfew hA13 hA70 R1 R2 R3 R4 R5 g4 g5 g6 g7 g8 G4
  generalize w8.alloc (.cells #[.int .i64 fr, .int .i64 dp, .int .i64 se, .slice a1 q1.length c1, .int .i64 fr', .int .i64 dp', .int .i64 se', .slice a' ps'.length c', .int .i64 f2, .int .i64 d2, .int .i64 s2, .slice a2 q2.length c2, .int .i64 f3, .int .i64 d3, .int .i64 s3, .slice a3 q3.length c3, .int .i64 f5, .int .i64 d5, .int .i64 s5, .slice a5 q5.length c5] 24) = w9 at HA ⊢
  generalize hgs : [(⟨fr, dp, se, .slice a1 q1.length c1⟩ : Cg), ⟨fr', dp', se', .slice a' ps'.length c'⟩, ⟨f2, d2, s2, .slice a2 q2.length c2⟩, ⟨f3, d3, s3, .slice a3 q3.length c3⟩, ⟨f5, d5, s5, .slice a5 q5.length c5⟩] = gs at HA
  have HLn : Hid (gs.length = 5) := by rw [← hgs]; exact rfl
  clear hgs
  generalize w8.heap.size = b8 at HA ⊢
  repeat (first
    | (refine wpS_move rfl ?_; simp only [Act.eval, Act.put, Array.getD_eq_getD_getElem?, List.getElem?_toArray, List.getElem?_cons_zero, List.getElem?_cons_succ, Option.getD_some, List.setIfInBounds_toArray, List.set_cons_zero, List.set_cons_succ])
    | (refine wpS_assign rfl ?_; simp only [Act.eval, Act.put, Array.getD_eq_getD_getElem?, List.getElem?_toArray, List.getElem?_cons_zero, List.getElem?_cons_succ, Option.getD_some, List.setIfInBounds_toArray, List.set_cons_zero, List.set_cons_succ])
    | (refine wpS_read (v := ?_) rfl ?_ ?_; rotate_left; (focus (intro w' hG; skip; go_simp; try (with_reducible rfl))); simp only [Act.put, List.setIfInBounds_toArray, List.set_cons_zero, List.set_cons_succ])
    | (refine wpS_skip rfl ?_; simp only [Act.put, List.setIfInBounds_toArray, List.set_cons_zero, List.set_cons_succ]))
  refine wpS_nil ?_
  go_wp2
  go_loopg [9] 5 (fun m iv wr => ∃ i : Nat, m = 5 - i ∧ i ≤ 5 ∧ iv = .int .i64 i ∧ Hid (RdG (fun _ => True) wr (.slice (some ⟨b8, 0, none⟩) 5 5) gs ∧ (∀ c ∈ gs, ∃ qs, HasPs wr c qs) ∧ Grow w wr))
  case atStart => exact ⟨0, by omega, by omega, rfl, HA.out.1, HA.out.2.1, HA.out.2.2⟩
  case round =>
    clear HA
    obtain ⟨i, hk, hi5, rfl, Z⟩ := hrel
    by_cases hlt : i < 5
    · have hle : (i : Int) < 5 := by omega
      have HL : Hid (i < 5 ∧ gk = 5 - i) := ⟨hlt, hk⟩
      have hw1 : IntKind.i64.wrap ((i : Int) + 1) = (i : Int) + 1 := by rw [IntKind.wrap_i64]; omega
      have hig : i < gs.length := by have := HLn.out; omega
      obtain ⟨bb, oo, hal, _, _, hin⟩ := rdG_at Z.out.1 hig
      injection hal with hal
      injection hal with e1 e2
      subst e1 e2
      rw [Nat.zero_add] at hin
      obtain ⟨qs, hqs⟩ := Z.out.2.1 _ (getG_mem hig)
      generalize gs.getD i Cg.zero = c at hin hqs
      obtain ⟨cf, cd, cse, cv⟩ := c
      have HV : Hid (HasPs wr ⟨cf, cd, cse, cv⟩ qs) := hqs
      obtain ⟨ca, cc, hcv⟩ := RdS.shape hqs
      have hcv' : cv = .slice ca qs.length cc := hcv
      subst hcv'
      have HIN : Hid (GIn wr b8 (i * 4) ⟨cf, cd, cse, .slice ca qs.length cc⟩) := hin
      have hc := fun w' (g : Grow wr w') => check_any cf cd cse _ qs w' (HV.out.grow g)
      have hr := fun w' (g : Grow wr w') => rcheck_any cf cd cse _ qs w' (HV.out.grow g)
      have hm := fun w' (g : Grow wr w') => may_any cf cd cse _ qs w' (HV.out.grow g)
      have hne := wh_empty (ck cf cd cse qs).1
      generalize wh (ck cf cd cse qs).1 = S at hc hr hne
      generalize (ck cf cd cse qs).2 = k at hc hr
      generalize decide ((ck cf cd cse qs).1 = 0) = t at hm hne
      simp only at hc hr hm
      clear hin hqs hcv hk hi5 hlt hig
      obtain ⟨x0, x1, x2, x3⟩ := HIN.out
      simp only at x0 x1 x2 x3
      go_wp2_with fail
      refine (hc _ (Grow.refl _)).mono ?_
      rintro e y1 ⟨rfl, j1⟩
      obtain ⟨y0, yy1, y2, y3⟩ := HIN.out.grow j1
      simp only at y0 yy1 y2 y3
      go_wp2_with fail
      refine (hr _ j1).mono ?_
      rintro e z1 ⟨rfl, j2⟩
      obtain ⟨z0, zz1, z2, z3⟩ := HIN.out.grow (j1.trans j2)
      simp only at z0 zz1 z2 z3
      go_wp2_with fail
      refine (hm _ (j1.trans j2)).mono ?_
      rintro e u1 ⟨rfl, j3⟩
      have ZZ : Hid (RdG (fun _ => True) u1 (.slice (some ⟨b8, 0, none⟩) 5 5) gs ∧ (∀ c ∈ gs, ∃ qs, HasPs u1 c qs) ∧ Grow w u1) := by
        have g := (j1.trans j2).trans j3
        exact ⟨RdS.grow Z.out.1 g, fun c hc => by obtain ⟨q, hq⟩ := Z.out.2.1 c hc; exact ⟨q, hq.grow g⟩, Z.out.2.2.trans g⟩
      go_wp2
      go_roundg (5 - (i + 1))
      case measure => have := HL.out; omega
      case rel => exact ⟨i + 1, rfl, HL.out.1, by go_num, ZZ⟩
    · have hle : ¬ (i : Int) < 5 := by omega
      go_wp2_with fail
      refine (lives_any _).mono ?_
      rintro e u1 ⟨rfl, j1⟩
      go_wp2
      go_ret
      exact ⟨rfl, Z.out.2.2.trans j1⟩
end Go.Proofs.Ytaieepbfccdmiaa
