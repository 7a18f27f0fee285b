/-
  The walk of the law ConfigFree. Conditions: the theorem's own.
-/
import Derived.Test.YtaieepbfccdmiaaCfgGood
import Derived.Test.YtaieepbfccdmiaaCfgFree
namespace Go.Proofs.Ytaieepbfccdmiaa
open Go.RowKit
set_option linter.unusedVariables false
set_option linter.unusedSimpArgs false

set_option maxHeartbeats 4000000 in
theorem configFree_walk {p : Nat → Prop} (fr dp se : Int) (v : Value) (ps : List Pt) (w : World) (h : RdP p w v ps) (hok : ∀ x ∈ ps, x.Ok) (hdp : W64 dp) (hse : W64 se) :
    Calls Try.prog 7 #[.agg #[.int .i64 fr, .int .i64 dp, .int .i64 se, v]] w fun e w' => e = .returned (.bool true) ∧ Below w.heap.size w w' := by
  have HG : Hid (Grow w (w.alloc (.cells #[.int .i64 fr, .int .i64 dp, .int .i64 se, v] 24))) := (Grow.refl w).alloc _
  have hgood := fun w' (g : Grow w w') => good_any fr dp se v ps w' (RdS.grow h g) hok hdp hse
  obtain ⟨a, cp, rfl, h1, h2, -⟩ := h
  clear hok hdp hse
  go_enter Try.func7, Try.ntmps7
  go_wp2_with fail
  refine (hgood _ HG.out).mono ?_
  rintro e w2 ⟨fr', dp', se', v', ps', rfl, hG, hR, g2⟩
  have HR : Hid (GoodC fr' dp' se' ps' ∧ RdP (fun i => (w.alloc (.cells #[.int .i64 fr, .int .i64 dp, .int .i64 se, .slice a ps.length cp] 24)).heap.size ≤ i) w2 v' ps' ∧ Grow w w2) := ⟨hG, hR, HG.out.trans g2⟩
  obtain ⟨a', c', rfl, _, _, -⟩ := hR
  clear hG g2 hgood HG
  have X : Hid (VarAt (w2.alloc (.cells #[.int .i64 fr', .int .i64 dp', .int .i64 se', .slice a' ps'.length c'] 24)) w2.heap.size [.int .i64 fr', .int .i64 dp', .int .i64 se', .slice a' ps'.length c'] ∧ Grow w2 (w2.alloc (.cells #[.int .i64 fr', .int .i64 dp', .int .i64 se', .slice a' ps'.length c'] 24))) := ⟨VarAt.new w2 [.int .i64 fr', .int .i64 dp', .int .i64 se', .slice a' ps'.length c'] _, (Grow.refl w2).alloc _⟩
  go_wp2
  generalize w2.alloc (.cells #[.int .i64 fr', .int .i64 dp', .int .i64 se', .slice a' ps'.length c'] 24) = w3 at X ⊢
  generalize w2.heap.size = b3 at X ⊢
  have hf1 := fun w' (g : Grow w3 w') => cfree_any fr' dp' se' _ ps' w' (RdS.grow HR.out.2.1 (X.out.2.trans g)) HR.out.1
  have hf2 := fun w' (g : Grow w3 w') => rfree_any fr' dp' se' _ ps' w' (RdS.grow HR.out.2.1 (X.out.2.trans g)) HR.out.1
  generalize se' - gsum ps' = F at hf1 hf2
  have kx : ∀ w', Grow w3.drew w' → VarAt w' b3 [.int .i64 fr', .int .i64 dp', .int .i64 se', .slice a' ps'.length c'] := fun w' h => X.out.1.grow ((Grow.refl w3).drew.trans h)
  have HW : Hid (Grow w w3) := HR.out.2.2.trans X.out.2
  refine wp_region_sched (by kernel_rfl) [(0, false), (2, false), (1, true), (3, true), (4, false), (5, false), (6, true), (7, false), (8, false)] (by kernel_rfl) (by kernel_rfl) rfl (fun _ _ d _ _ h => by cases d <;> exact h) ?_
  simp only [inOrder, List.filterMap_cons, List.filterMap_nil, List.getElem?_toArray, List.getElem?_cons_zero, List.getElem?_cons_succ, Option.map_some]
  repeat (first
    | (refine wpS_move rfl ?_; simp only [Act.eval, Act.put, Array.getD_eq_getD_getElem?, List.getElem?_toArray, List.getElem?_cons_zero, List.getElem?_cons_succ, Option.getD_some, List.setIfInBounds_toArray, List.set_cons_zero, List.set_cons_succ])
    | (refine wpS_assign rfl ?_; simp only [Act.eval, Act.put, Array.getD_eq_getD_getElem?, List.getElem?_toArray, List.getElem?_cons_zero, List.getElem?_cons_succ, Option.getD_some, List.setIfInBounds_toArray, List.set_cons_zero, List.set_cons_succ])
    | (refine wpS_read (v := ?_) rfl ?_ ?_; rotate_left; (focus (intro w' hG; obtain ⟨⟨k0, k1, k2, k3⟩, -⟩ := (kx w' hG).four; go_simp; try (with_reducible rfl))); simp only [Act.put, List.setIfInBounds_toArray, List.set_cons_zero, List.set_cons_succ])
    | (refine wpS_skip rfl ?_; simp only [Act.put, List.setIfInBounds_toArray, List.set_cons_zero, List.set_cons_succ]))
  refine wpS_call (f := ?_) (args := ?_) (by rfl) ?_ ?_
  rotate_left 2; focus (go_simp; constructor <;> with_reducible rfl)
  refine (hf1 w3.drew (Grow.refl w3).drew).mono ?_
  rintro e w4 ⟨rfl, g4⟩
  refine ⟨_, rfl, g4, ?_⟩
  simp only [Act.put, List.setIfInBounds_toArray, List.set_cons_zero, List.set_cons_succ]
  repeat (first
    | (refine wpS_move rfl ?_; simp only [Act.eval, Act.put, Array.getD_eq_getD_getElem?, List.getElem?_toArray, List.getElem?_cons_zero, List.getElem?_cons_succ, Option.getD_some, List.setIfInBounds_toArray, List.set_cons_zero, List.set_cons_succ])
    | (refine wpS_assign rfl ?_; simp only [Act.eval, Act.put, Array.getD_eq_getD_getElem?, List.getElem?_toArray, List.getElem?_cons_zero, List.getElem?_cons_succ, Option.getD_some, List.setIfInBounds_toArray, List.set_cons_zero, List.set_cons_succ])
    | (refine wpS_read (v := ?_) rfl ?_ ?_; rotate_left; (focus (intro w' hG; skip; go_simp; try (with_reducible rfl))); simp only [Act.put, List.setIfInBounds_toArray, List.set_cons_zero, List.set_cons_succ])
    | (refine wpS_skip rfl ?_; simp only [Act.put, List.setIfInBounds_toArray, List.set_cons_zero, List.set_cons_succ]))
  refine wpS_call (f := ?_) (args := ?_) (by rfl) ?_ ?_
  rotate_left 2; focus (go_simp; constructor <;> with_reducible rfl)
  refine (hf2 w4 ((Grow.refl w3).drew.trans g4)).mono ?_
  rintro e w5 ⟨rfl, g5⟩
  refine ⟨_, rfl, g5, ?_⟩
  simp only [Act.put, List.setIfInBounds_toArray, List.set_cons_zero, List.set_cons_succ]
  repeat (first
    | (refine wpS_move rfl ?_; simp only [Act.eval, Act.put, Array.getD_eq_getD_getElem?, List.getElem?_toArray, List.getElem?_cons_zero, List.getElem?_cons_succ, Option.getD_some, List.setIfInBounds_toArray, List.set_cons_zero, List.set_cons_succ])
    | (refine wpS_assign rfl ?_; simp only [Act.eval, Act.put, Array.getD_eq_getD_getElem?, List.getElem?_toArray, List.getElem?_cons_zero, List.getElem?_cons_succ, Option.getD_some, List.setIfInBounds_toArray, List.set_cons_zero, List.set_cons_succ])
    | (refine wpS_read (v := ?_) rfl ?_ ?_; rotate_left; (focus (intro w' hG; skip; go_simp; try (with_reducible rfl))); simp only [Act.put, List.setIfInBounds_toArray, List.set_cons_zero, List.set_cons_succ])
    | (refine wpS_skip rfl ?_; simp only [Act.put, List.setIfInBounds_toArray, List.set_cons_zero, List.set_cons_succ]))
  refine wpS_call (f := ?_) (args := ?_) (by rfl) ?_ ?_
  rotate_left 2; focus (go_simp; constructor <;> with_reducible rfl)
  refine (lives_any w5).mono ?_
  rintro e w6 ⟨rfl, g6⟩
  refine ⟨_, rfl, g6, ?_⟩
  simp only [Act.put, List.setIfInBounds_toArray, List.set_cons_zero, List.set_cons_succ]
  repeat (first
    | (refine wpS_move rfl ?_; simp only [Act.eval, Act.put, Array.getD_eq_getD_getElem?, List.getElem?_toArray, List.getElem?_cons_zero, List.getElem?_cons_succ, Option.getD_some, List.setIfInBounds_toArray, List.set_cons_zero, List.set_cons_succ])
    | (refine wpS_assign rfl ?_; simp only [Act.eval, Act.put, Array.getD_eq_getD_getElem?, List.getElem?_toArray, List.getElem?_cons_zero, List.getElem?_cons_succ, Option.getD_some, List.setIfInBounds_toArray, List.set_cons_zero, List.set_cons_succ])
    | (refine wpS_read (v := ?_) rfl ?_ ?_; rotate_left; (focus (intro w' hG; skip; go_simp; try (with_reducible rfl))); simp only [Act.put, List.setIfInBounds_toArray, List.set_cons_zero, List.set_cons_succ])
    | (refine wpS_skip rfl ?_; simp only [Act.put, List.setIfInBounds_toArray, List.set_cons_zero, List.set_cons_succ]))
  refine wpS_nil ?_
  go_wp2
  go_ret
  exact ⟨rfl, ((((HW.out.trans (Grow.refl w3).drew).trans g4).trans g5).trans g6)⟩
end Go.Proofs.Ytaieepbfccdmiaa
