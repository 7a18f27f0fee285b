/-
  The walk of Next. Conditions: each theorem's own.
-/
import Derived.Test.YtlcphhlimcnnaaaSupGood
import Derived.Test.YtlcphhlimcnnaaaCfgOdd
namespace Go.Proofs.Ytlcphhlimcnnaaa
open Go.RowKit
set_option linter.unusedVariables false
set_option linter.unusedSimpArgs false

theorem sup_two {w : World} {ep fr dp se : Int} {v : Value} : VarAt ((w.alloc (.cells #[.int .i64 ep, .int .i64 fr, .int .i64 dp, .int .i64 se, v] 36)).alloc (.cells #[.int .i64 (0 : Int), .int .i64 (0 : Int), .int .i64 (0 : Int), .int .i64 (0 : Int), .slice none 0 0] 36)) w.heap.size [.int .i64 ep, .int .i64 fr, .int .i64 dp, .int .i64 se, v] ∧ VarAt ((w.alloc (.cells #[.int .i64 ep, .int .i64 fr, .int .i64 dp, .int .i64 se, v] 36)).alloc (.cells #[.int .i64 (0 : Int), .int .i64 (0 : Int), .int .i64 (0 : Int), .int .i64 (0 : Int), .slice none 0 0] 36)) (w.heap.size + 1) [.int .i64 (0 : Int), .int .i64 (0 : Int), .int .i64 (0 : Int), .int .i64 (0 : Int), .slice none 0 0] ∧ Grow w ((w.alloc (.cells #[.int .i64 ep, .int .i64 fr, .int .i64 dp, .int .i64 se, v] 36)).alloc (.cells #[.int .i64 (0 : Int), .int .i64 (0 : Int), .int .i64 (0 : Int), .int .i64 (0 : Int), .slice none 0 0] 36)) :=
  ⟨(VarAt.new w [.int .i64 ep, .int .i64 fr, .int .i64 dp, .int .i64 se, v] _).old _, VarAt.new2 w _ [.int .i64 (0 : Int), .int .i64 (0 : Int), .int .i64 (0 : Int), .int .i64 (0 : Int), .slice none 0 0] _, ((Grow.refl w).alloc _).alloc _⟩

set_option maxHeartbeats 4000000 in
theorem next_no (ep fr dp se : Int) (a : Option Addr) (n cp : Nat) (w : World) (hep : 1073741824 ≤ ep) :
    Calls Try.prog 20 #[.agg #[.int .i64 ep, .int .i64 fr, .int .i64 dp, .int .i64 se, .slice a n cp]] w fun e w' => e = .returned (.tuple #[.agg #[.int .i64 0, .int .i64 0, .int .i64 0, .int .i64 0, .slice none 0 0], .int .i64 13]) ∧ Grow w w' := by
  have X0 := sup_two (w := w) (ep := ep) (fr := fr) (dp := dp) (se := se) (v := .slice a n cp)
  have HX : Hid (VarAt ((w.alloc (.cells #[.int .i64 ep, .int .i64 fr, .int .i64 dp, .int .i64 se, .slice a n cp] 36)).alloc (.cells #[.int .i64 (0 : Int), .int .i64 (0 : Int), .int .i64 (0 : Int), .int .i64 (0 : Int), .slice none 0 0] 36)) w.heap.size [.int .i64 ep, .int .i64 fr, .int .i64 dp, .int .i64 se, .slice a n cp] ∧ VarAt ((w.alloc (.cells #[.int .i64 ep, .int .i64 fr, .int .i64 dp, .int .i64 se, .slice a n cp] 36)).alloc (.cells #[.int .i64 (0 : Int), .int .i64 (0 : Int), .int .i64 (0 : Int), .int .i64 (0 : Int), .slice none 0 0] 36)) (w.heap.size + 1) [.int .i64 (0 : Int), .int .i64 (0 : Int), .int .i64 (0 : Int), .int .i64 (0 : Int), .slice none 0 0] ∧ Grow w ((w.alloc (.cells #[.int .i64 ep, .int .i64 fr, .int .i64 dp, .int .i64 se, .slice a n cp] 36)).alloc (.cells #[.int .i64 (0 : Int), .int .i64 (0 : Int), .int .i64 (0 : Int), .int .i64 (0 : Int), .slice none 0 0] 36))) := X0
  clear X0
  go_enter Try.func20, Try.ntmps20
  go_wp2
  exact bodyPost_ret_by (results_cell_tmp rfl _ _ _ (.agg #[.int .i64 0, .int .i64 0, .int .i64 0, .int .i64 0, .slice none 0 0]) rfl (load_Sup (w.heap.size + 1) 0 0 0 0 _ _ HX.out.2.1 rfl)) rfl ⟨rfl, HX.out.2.2⟩

set_option maxHeartbeats 4000000 in
theorem next_yes {p : Nat → Prop} (ep fr dp se : Int) (v : Value) (ps : List Pt) (w : World) (h : RdP p w v ps) (h0 : 0 ≤ ep) (hep : ep < 1073741824) (hlen : ps.length ≤ 1000) :
    Calls Try.prog 20 #[.agg #[.int .i64 ep, .int .i64 fr, .int .i64 dp, .int .i64 se, v]] w fun e w' => ∃ v', e = .returned (.tuple #[.agg #[.int .i64 (ep + 1), .int .i64 fr, .int .i64 dp, .int .i64 se, v'], .int .i64 0]) ∧ RdP (fun i => w.heap.size ≤ i) w' v' ps ∧ Grow w w' := by
  have X0 : Hid (VarAt ((w.alloc (.cells #[.int .i64 ep, .int .i64 fr, .int .i64 dp, .int .i64 se, v] 36)).alloc (.cells #[.int .i64 (0 : Int), .int .i64 (0 : Int), .int .i64 (0 : Int), .int .i64 (0 : Int), .slice none 0 0] 36)) w.heap.size [.int .i64 ep, .int .i64 fr, .int .i64 dp, .int .i64 se, v] ∧ VarAt ((w.alloc (.cells #[.int .i64 ep, .int .i64 fr, .int .i64 dp, .int .i64 se, v] 36)).alloc (.cells #[.int .i64 (0 : Int), .int .i64 (0 : Int), .int .i64 (0 : Int), .int .i64 (0 : Int), .slice none 0 0] 36)) (w.heap.size + 1) [.int .i64 (0 : Int), .int .i64 (0 : Int), .int .i64 (0 : Int), .int .i64 (0 : Int), .slice none 0 0] ∧ Grow w ((w.alloc (.cells #[.int .i64 ep, .int .i64 fr, .int .i64 dp, .int .i64 se, v] 36)).alloc (.cells #[.int .i64 (0 : Int), .int .i64 (0 : Int), .int .i64 (0 : Int), .int .i64 (0 : Int), .slice none 0 0] 36))) := sup_two
  have hcl := fun w' (g : Grow w w') => clone_any fr dp se v ps w' (RdS.grow h g) (by omega)
  obtain ⟨a, cp, rfl, h1, h2, -⟩ := h
  have hw1 : IntKind.i64.wrap (ep + 1) = ep + 1 := by rw [IntKind.wrap_i64]; omega
  have hge : ¬ (1073741824 : Int) ≤ ep := by omega
  clear h1 h2
  obtain ⟨b2, hb2⟩ : ∃ b2, b2 = w.heap.size + 1 := ⟨_, rfl⟩
  have HE : Hid (b2 = w.heap.size + 1) := hb2
  go_enter Try.func20, Try.ntmps20
  go_wp2
  rw [← hb2] at X0 ⊢
  clear hb2
  generalize ((w.alloc (.cells #[.int .i64 ep, .int .i64 fr, .int .i64 dp, .int .i64 se, .slice a ps.length cp] 36)).alloc (.cells #[.int .i64 (0 : Int), .int .i64 (0 : Int), .int .i64 (0 : Int), .int .i64 (0 : Int), .slice none 0 0] 36)) = w1 at X0 ⊢
  obtain ⟨b1, hb1⟩ : ∃ b1, b1 = w.heap.size := ⟨_, rfl⟩
  rw [← hb1] at X0 ⊢
  have HE1 : Hid (b1 = w.heap.size) := hb1
  clear hb1
  have kx : ∀ w', UpdS (fun i => i = b2) w1.drew w' → VarAt w' b1 [.int .i64 ep, .int .i64 fr, .int .i64 dp, .int .i64 se, .slice a ps.length cp] := fun w' h => (X0.out.1.grow (Grow.refl w1).drew).upd h (by have := HE.out; have := HE1.out; omega)
  refine wp_region_schedG (UpdS (fun i => i = b2)) (UpdS.refl _) (fun _ _ _ => UpdS.trans) (by kernel_rfl) [(0, false), (1, false), (2, false), (3, false), (4, false), (5, true), (6, false), (7, true), (8, false)] (by kernel_rfl) (by kernel_rfl) rfl (fun _ _ d _ _ h => by cases d <;> exact h) ?_
  simp only [inOrder, List.filterMap_cons, List.filterMap_nil, List.getElem?_toArray, List.getElem?_cons_zero, List.getElem?_cons_succ, Option.map_some]
  repeat (first
    | (refine wpS_move rfl ?_; simp only [Act.eval, Act.put, Array.getD_eq_getD_getElem?, List.getElem?_toArray, List.getElem?_cons_zero, List.getElem?_cons_succ, Option.getD_some, List.setIfInBounds_toArray, List.set_cons_zero, List.set_cons_succ])
    | (refine wpS_assign rfl ?_; simp only [Act.eval, Act.put, Array.getD_eq_getD_getElem?, List.getElem?_toArray, List.getElem?_cons_zero, List.getElem?_cons_succ, Option.getD_some, List.setIfInBounds_toArray, List.set_cons_zero, List.set_cons_succ])
    | (refine wpS_read (v := ?_) rfl ?_ ?_; rotate_left; (focus (intro w' hG; obtain ⟨⟨k0, k1, k2, k3, k4⟩, -⟩ := (kx w' hG).five; go_simp; try (with_reducible rfl))); simp only [Act.put, List.setIfInBounds_toArray, List.set_cons_zero, List.set_cons_succ])
    | (refine wpS_skip rfl ?_; simp only [Act.put, List.setIfInBounds_toArray, List.set_cons_zero, List.set_cons_succ]))
  refine wpS_call (f := ?_) (args := ?_) (by rfl) ?_ ?_
  rotate_left 2; focus (go_simp; constructor <;> with_reducible rfl)
  refine (hcl _ (X0.out.2.2.trans (Grow.refl w1).drew)).mono ?_
  rintro e w2 ⟨v', rfl, R2, g2⟩
  refine ⟨_, rfl, g2.s, ?_⟩
  have G02 : Grow w1 w2 := (Grow.refl w1).drew.trans g2
  have HR : Hid (VarAt w2 b2 [.int .i64 (0 : Int), .int .i64 (0 : Int), .int .i64 (0 : Int), .int .i64 (0 : Int), .slice none 0 0] ∧ RdP (fun i => b2 < i) w2 v' ps ∧ Grow w w2) := ⟨X0.out.2.1.grow G02, RdS.mono R2.rd (fun i _ hi => by have := X0.out.2.1.lt; have e : w1.drew.heap.size = w1.heap.size := rfl; omega), X0.out.2.2.trans G02⟩
  obtain ⟨a2, c2, rfl⟩ := R2.shape
  clear R2 g2 G02 kx
  obtain ⟨⟨n0, n1, n2, n3, n4⟩, f0, f1, f2, f3, f4⟩ := HR.out.1.five
  simp only [Act.put, List.setIfInBounds_toArray, List.set_cons_zero, List.set_cons_succ]
  repeat (first
    | (refine wpS_move rfl ?_; simp only [Act.eval, Act.put, Array.getD_eq_getD_getElem?, List.getElem?_toArray, List.getElem?_cons_zero, List.getElem?_cons_succ, Option.getD_some, List.setIfInBounds_toArray, List.set_cons_zero, List.set_cons_succ])
    | (refine wpS_assign rfl ?_; simp only [Act.eval, Act.put, Array.getD_eq_getD_getElem?, List.getElem?_toArray, List.getElem?_cons_zero, List.getElem?_cons_succ, Option.getD_some, List.setIfInBounds_toArray, List.set_cons_zero, List.set_cons_succ])
    | (refine wpS_read (v := ?_) rfl ?_ ?_; rotate_left; (focus (intro w' hG; skip; go_simp; try (with_reducible rfl))); simp only [Act.put, List.setIfInBounds_toArray, List.set_cons_zero, List.set_cons_succ])
    | (refine wpS_skip rfl ?_; simp only [Act.put, List.setIfInBounds_toArray, List.set_cons_zero, List.set_cons_succ]))
  refine wpS_store (w' := ((((w2.setCell ⟨b2, 0, none⟩ (.int .i64 (ep + 1))).setCell ⟨b2, 1, none⟩ (.int .i64 fr)).setCell ⟨b2, 2, none⟩ (.int .i64 dp)).setCell ⟨b2, 3, none⟩ (.int .i64 se)).setCell ⟨b2, 4, none⟩ (.slice a2 ps.length c2)) rfl (by go_simp) (upd_five w2 b2 _ _ _ _ _) ?_
  simp only [Act.put, List.setIfInBounds_toArray, List.set_cons_zero, List.set_cons_succ]
  repeat (first
    | (refine wpS_move rfl ?_; simp only [Act.eval, Act.put, Array.getD_eq_getD_getElem?, List.getElem?_toArray, List.getElem?_cons_zero, List.getElem?_cons_succ, Option.getD_some, List.setIfInBounds_toArray, List.set_cons_zero, List.set_cons_succ])
    | (refine wpS_assign rfl ?_; simp only [Act.eval, Act.put, Array.getD_eq_getD_getElem?, List.getElem?_toArray, List.getElem?_cons_zero, List.getElem?_cons_succ, Option.getD_some, List.setIfInBounds_toArray, List.set_cons_zero, List.set_cons_succ])
    | (refine wpS_read (v := ?_) rfl ?_ ?_; rotate_left; (focus (intro w' hG; skip; go_simp; try (with_reducible rfl))); simp only [Act.put, List.setIfInBounds_toArray, List.set_cons_zero, List.set_cons_succ])
    | (refine wpS_skip rfl ?_; simp only [Act.put, List.setIfInBounds_toArray, List.set_cons_zero, List.set_cons_succ]))
  refine wpS_nil ?_
  go_wp2
  have hU := upd_five w2 b2 (.int .i64 (ep + 1)) (.int .i64 fr) (.int .i64 dp) (.int .i64 se) (.slice a2 ps.length c2)
  exact bodyPost_ret_by (results_cell_tmp rfl _ _ _ (.agg #[.int .i64 (ep + 1), .int .i64 fr, .int .i64 dp, .int .i64 se, .slice a2 ps.length c2]) rfl (load_Sup b2 (ep + 1) fr dp se _ _ (HR.out.1.set5 _ _ _ _ _) rfl)) rfl ⟨_, rfl, RdS.mono (RdS.upd HR.out.2.1 hU (fun i _ hi => by omega)) (fun i _ hi => by have := HE.out; omega), UpdS.new HR.out.2.2 hU (fun i hi => by have := HE.out; omega)⟩
end Go.Proofs.Ytlcphhlimcnnaaa
