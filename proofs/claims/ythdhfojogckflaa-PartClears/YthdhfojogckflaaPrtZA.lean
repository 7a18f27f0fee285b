/-
  The walk of the law's 'does'. Conditions: each theorem's own.
-/
import Derived.Test.YthdhfojogckflaaPrtZ
namespace Go.Proofs.Ythdhfojogckflaa
open Go.RowKit
set_option linter.unusedVariables false
set_option linter.unusedSimpArgs false

set_option maxRecDepth 16000 in
set_option maxHeartbeats 8000000 in
theorem does_4 (w : World) (P b o : Nat) (L : List FS) (h : Nat) (k : PtO w P b o L h) (hk : PtOk L h) (a : Option Addr) (c : Nat) (pq : Nat → Prop) (hpq : ∀ i, pq i → i ≠ P ∧ i ≠ b) (hpn : ∀ i, w.heap.size ≤ i → pq i) (hr : RdQ pq w (.slice a L.length c) L) (dd ii pg off n : Int) (bv : Value) (ys : List Int) (hy : RdV (Value.int .u8) 0 (fun i => i ≠ P ∧ i ≠ b) w bv ys) (hdd : (Lit.int .i64 dd).wf = true) (hii : (Lit.int .i64 ii).wf = true) (hpg : (Lit.int .i64 pg).wf = true) (hof : (Lit.int .i64 off).wf = true) (hnw : (Lit.int .i64 n).wf = true) (hkk : around dd 13 = 4) : Calls Try.prog 12 #[.pointer (some ⟨P, 0, none⟩), .agg #[.slice a L.length c, .int .i64 h], .agg #[.int .i64 dd, .int .i64 ii, .int .i64 pg, .int .i64 off, .int .i64 n, bv]] w fun e w' => ∃ a' c', e = .returned (.tuple #[.agg #[.slice a' L.length c', .int .i64 (h : Nat)], .bool true]) ∧ RdQ pq w' (.slice a' L.length c') (relP (around ii ((L.length : Int) + 2) - 1) L).1 ∧ PtO w' P b o (relP (around ii ((L.length : Int) + 2) - 1) L).1 h ∧ UpdS (fun i => i = P ∨ i = b) w w' := by
  obtain ⟨ab, cb, hbv⟩ := hy.shape
  subst hbv
  obtain ⟨W, hW⟩ : ∃ W, ((w.alloc (.cells #[.slice a L.length c, .int .i64 h] 30)).alloc (.cells #[.int .i64 dd, .int .i64 ii, .int .i64 pg, .int .i64 off, .int .i64 n, .slice ab ys.length cb] 36)).alloc (.cells #[.slice none 0 0, .int .i64 0] 30) = W := ⟨_, rfl⟩
  obtain ⟨X, hX⟩ : ∃ X, w.heap.size = X := ⟨_, rfl⟩
  have g0 : Grow w W := by rw [← hW]; exact (((Grow.refl w).alloc _).alloc _).alloc _
  have V0 : VarAt W X [.slice a L.length c, .int .i64 h] := by rw [← hW, ← hX]; exact ((VarAt.new w [.slice a L.length c, .int .i64 h] 30).old _).old _
  have O0 : VarAt W (X + 1) [.int .i64 dd, .int .i64 ii, .int .i64 pg, .int .i64 off, .int .i64 n, .slice ab ys.length cb] := by rw [← hW, ← hX]; exact (VarAt.new2 w _ [.int .i64 dd, .int .i64 ii, .int .i64 pg, .int .i64 off, .int .i64 n, .slice ab ys.length cb] 36).old _
  have Z0 : VarAt W (X + 1 + 1) [.slice none 0 0, .int .i64 0] := by rw [← hW, ← hX]; exact VarAt.new3 w _ _ [.slice none 0 0, .int .i64 0] 30
  have hL := hk.2.2
  have hPX : P < X := by rw [← hX]; exact k.lt
  have hbX : b < X := by rw [← hX]; exact k.2.2.1
  have HR : Hid (Grow w W ∧ VarAt W X [.slice a L.length c, .int .i64 h] ∧ VarAt W (X + 1) [.int .i64 dd, .int .i64 ii, .int .i64 pg, .int .i64 off, .int .i64 n, .slice ab ys.length cb] ∧ VarAt W (X + 1 + 1) [.slice none 0 0, .int .i64 0] ∧ w.heap.size = X ∧ PtO W P b o L h ∧ P < X ∧ b < X ∧ P ≠ b ∧ RdQ (fun i => pq i ∧ i ≠ X + 1 + 1) W (.slice a L.length c) L) := ⟨g0, V0, O0, Z0, hX, k.grow g0, hPX, hbX, k.2.1, (RdS.grow (rd_old hr) g0).mono (fun i _ hi => ⟨hi.1, by have := hi.2; omega⟩)⟩
  have HP : Hid ((∀ i, pq i → i ≠ P ∧ i ≠ b) ∧ (∀ i, w.heap.size ≤ i → pq i)) := ⟨hpq, hpn⟩
  have HY : Hid (RdV (Value.int .u8) 0 (fun i => i ≠ P ∧ i ≠ b) W (.slice ab ys.length cb) ys) := hy.grow g0
  have hk0 : PtOk L 0 := ⟨hk.1, by have := hk.2.1; omega, hk.2.2⟩
  have HN : Hid (∀ w', Grow W w' → ∀ i, w'.heap.size ≤ i → pq i ∧ i ≠ X + 1 + 1) := fun w' g i hi => ⟨hpn i (by have := g.size; have := Z0.lt; omega), by have := g.size; have := Z0.lt; omega⟩
  have c1 := qframe_any dd ii pg off n ab ys.length cb W hii L.length (by omega)
  have c2 := fun w' => around_any pg 5 w' hpg (by omega) (by omega)
  have c3 := fun w' => qkind_any dd ii pg off n ab ys.length cb w' hdd
  generalize (around ii ((L.length : Int) + 2) - 1) = I at c1 ⊢
  generalize (around pg 5) = Q at c2 ⊢
  rw [hkk] at c3
  have hq0 := fun w' (g : Grow W w') => qrelease_any w' a c L h (RdS.grow HR.out.2.2.2.2.2.2.2.2.2 g) hL (HN.out w' g) I
  have hp0 := fun w' (k' : PtO w' P b o L h) => release_any w' P b o L h k' I
  generalize relP I L = T at hq0 hp0 ⊢
  obtain ⟨L', E⟩ := T
  simp only at hq0 hp0 ⊢
  obtain ⟨⟨v0, v1⟩, -⟩ := V0.two
  obtain ⟨⟨o0, o1, o2, o3, o4, o5⟩, -⟩ := VarAt.six O0
  clear V0 O0 Z0 g0 hr hy k hk hk0 hkk hpq hpn
  go_enter Try.func12, Try.ntmps12
  go_upto_region 1 with fail
  (try rw [hW])
  (try rw [hX])
  clear hW hX
  go_wp2_with fail
  refine c1.mono ?_
  rintro e w1 ⟨rfl, g1⟩
  obtain ⟨⟨v0, v1⟩, -⟩ := (HR.out.2.1.grow g1).two
  obtain ⟨⟨o0, o1, o2, o3, o4, o5⟩, -⟩ := VarAt.six (HR.out.2.2.1.grow g1)
  clear c1
  go_wp2_with fail
  refine (c2 _).mono ?_
  rintro e w1' ⟨rfl, rfl⟩
  clear c2
  go_wp2_with fail
  refine (c3 _).mono ?_
  rintro e w2 ⟨rfl, g2⟩
  have HW : Hid (Grow W w2) := g1.trans g2
  obtain ⟨⟨v0, v1⟩, -⟩ := (HR.out.2.1.grow HW.out).two
  obtain ⟨⟨o0, o1, o2, o3, o4, o5⟩, -⟩ := VarAt.six (HR.out.2.2.1.grow HW.out)
  clear c3 g1 g2
  have hq := hq0 w2 HW.out
  clear hq0
  go_wp2_with fail
  refine hq.mono ?_
  rintro e w3 ⟨a2, c2, rfl, r2, g3⟩
  have gW : Grow W w3 := HW.out.trans g3
  clear hq
  have HM0 : Hid (∀ W5, w3.alloc (.cells #[.slice a2 L.length c2, .int .i64 h] 30) = W5 → (Grow W W5 ∧ VarAt W5 w3.heap.size [.slice a2 L.length c2, .int .i64 h] ∧ RdQ (fun i => pq i ∧ i ≠ X + 1 + 1) W5 (.slice a2 L.length c2) L' ∧ X + 1 + 1 < w3.heap.size ∧ Grow w3 W5)) := fun W5 e => by
    rw [← e]
    exact ⟨gW.alloc _, VarAt.new w3 [.slice a2 L.length c2, .int .i64 h] 30, RdS.grow r2 ((Grow.refl w3).alloc _), by have := HR.out.2.2.2.1.lt; have := gW.size; omega, (Grow.refl w3).alloc _⟩
  clear v0 v1 o0 o1 o2 o3 o4 o5 r2 gW g3
  go_upto_region 11 with fail
  generalize hW5 : w3.alloc (.cells #[.slice a2 L.length c2, .int .i64 h] 30) = W5
  have HM1 := HM0.out W5 hW5
  clear hW5 HM0
  obtain ⟨M, hM⟩ : ∃ M, w3.heap.size = M := ⟨_, rfl⟩
  rw [hM] at HM1 ⊢
  have HM : Hid (Grow W W5 ∧ VarAt W5 M [.slice a2 L.length c2, .int .i64 h] ∧ RdQ (fun i => pq i ∧ i ≠ X + 1 + 1) W5 (.slice a2 L.length c2) L' ∧ X + 1 + 1 < M) := ⟨HM1.1, HM1.2.1, HM1.2.2.1, HM1.2.2.2.1⟩
  clear hM HM1
  go_wp2
  have gd : Grow W5 W5.drew := (Grow.refl W5).drew
  have fx : ∀ w', UpdS (fun i => i = P ∨ i = b ∨ i = X + 1 + 1) W5.drew w' → (w'.cell? ⟨M, 0, none⟩ = some (.slice a2 L.length c2) ∧ w'.cell? ⟨M, 1, none⟩ = some (.int .i64 h)) := fun w' g => ((HM.out.2.1.grow gd).upd g (by have := HM.out.2.2.2; have := HR.out; omega)).two.1
  refine wp_region_schedG (UpdS (fun i => i = P ∨ i = b ∨ i = X + 1 + 1)) (UpdS.refl _) (fun _ _ _ => UpdS.trans) (by kernel_rfl) [(0, false), (1, false), (2, false), (4, false), (3, true), (5, false), (6, true), (7, false)] (by kernel_rfl) (by kernel_rfl) rfl (fun _ _ d _ _ h => by cases d <;> exact h) ?_
  simp only [inOrder, List.filterMap_cons, List.filterMap_nil, List.getElem?_toArray, List.getElem?_cons_zero, List.getElem?_cons_succ, Option.map_some]
  repeat (first
    | (refine wpS_move rfl ?_; simp only [Act.eval, Act.put, Array.getD_eq_getD_getElem?, List.getElem?_toArray, List.getElem?_cons_zero, List.getElem?_cons_succ, Option.getD_some, List.setIfInBounds_toArray, List.set_cons_zero, List.set_cons_succ])
    | (refine wpS_assign rfl ?_; simp only [Act.eval, Act.put, Array.getD_eq_getD_getElem?, List.getElem?_toArray, List.getElem?_cons_zero, List.getElem?_cons_succ, Option.getD_some, List.setIfInBounds_toArray, List.set_cons_zero, List.set_cons_succ])
    | (refine wpS_read (v := ?_) rfl ?_ ?_; rotate_left; (focus (intro w' hG; obtain ⟨q0, q1⟩ := fx w' hG; go_simp; try (with_reducible rfl))); simp only [Act.put, List.setIfInBounds_toArray, List.set_cons_zero, List.set_cons_succ])
    | (refine wpS_skip rfl ?_; simp only [Act.put, List.setIfInBounds_toArray, List.set_cons_zero, List.set_cons_succ]))
  have hp := hp0 W5.drew ((HR.out.2.2.2.2.2.1.grow HM.out.1).grow gd)
  refine wpS_call (f := ?_) (args := ?_) (by rfl) ?_ ?_
  rotate_left 2; focus (go_simp; constructor <;> with_reducible rfl)
  refine (hp).mono ?_
  rintro e w6 ⟨rfl, k6, u6⟩
  refine ⟨_, rfl, u6.mono (fun i hi => hi.elim .inl (fun e => .inr (.inl e))), ?_⟩
  simp only [Act.put, List.setIfInBounds_toArray, List.set_cons_zero, List.set_cons_succ]
  repeat (first
    | (refine wpS_move rfl ?_; simp only [Act.eval, Act.put, Array.getD_eq_getD_getElem?, List.getElem?_toArray, List.getElem?_cons_zero, List.getElem?_cons_succ, Option.getD_some, List.setIfInBounds_toArray, List.set_cons_zero, List.set_cons_succ])
    | (refine wpS_assign rfl ?_; simp only [Act.eval, Act.put, Array.getD_eq_getD_getElem?, List.getElem?_toArray, List.getElem?_cons_zero, List.getElem?_cons_succ, Option.getD_some, List.setIfInBounds_toArray, List.set_cons_zero, List.set_cons_succ])
    | (refine wpS_read (v := ?_) rfl ?_ ?_; rotate_left; (focus (intro w' hG; skip; go_simp; try (with_reducible rfl))); simp only [Act.put, List.setIfInBounds_toArray, List.set_cons_zero, List.set_cons_succ])
    | (refine wpS_skip rfl ?_; simp only [Act.put, List.setIfInBounds_toArray, List.set_cons_zero, List.set_cons_succ]))
  have HD := d_end (HR.out.1.trans (HM.out.1.trans gd)) (RdS.grow HM.out.2.2.1 gd) ((HR.out.2.2.2.1.grow HM.out.1).grow gd) HP.out.1 (by have := HR.out; omega) HR.out.2.2.2.2.2.2.1 HR.out.2.2.2.2.2.2.2.1 k6 u6
  have HF := hid HD.1
  obtain ⟨⟨z0, z1⟩, f0, f1⟩ := HD.2
  clear HD
  refine wpS_store (w' := (w6.setCell ⟨X + 1 + 1, 0, none⟩ (.slice a2 L.length c2)).setCell ⟨X + 1 + 1, 1, none⟩ (.int .i64 h)) (by rfl) (by go_simp) ((upd_pair _ _ _ _).mono (fun i hi => .inr (.inr hi))) ?_
  simp only [Act.put, List.setIfInBounds_toArray, List.set_cons_zero, List.set_cons_succ]
  repeat (first
    | (refine wpS_move rfl ?_; simp only [Act.eval, Act.put, Array.getD_eq_getD_getElem?, List.getElem?_toArray, List.getElem?_cons_zero, List.getElem?_cons_succ, Option.getD_some, List.setIfInBounds_toArray, List.set_cons_zero, List.set_cons_succ])
    | (refine wpS_assign rfl ?_; simp only [Act.eval, Act.put, Array.getD_eq_getD_getElem?, List.getElem?_toArray, List.getElem?_cons_zero, List.getElem?_cons_succ, Option.getD_some, List.setIfInBounds_toArray, List.set_cons_zero, List.set_cons_succ])
    | (refine wpS_read (v := ?_) rfl ?_ ?_; rotate_left; (focus (intro w' hG; skip; go_simp; try (with_reducible rfl))); simp only [Act.put, List.setIfInBounds_toArray, List.set_cons_zero, List.set_cons_succ])
    | (refine wpS_skip rfl ?_; simp only [Act.put, List.setIfInBounds_toArray, List.set_cons_zero, List.set_cons_succ]))
  refine wpS_nil ?_
  generalize (w6.setCell ⟨X + 1 + 1, 0, none⟩ (.slice a2 L.length c2)).setCell ⟨X + 1 + 1, 1, none⟩ (.int .i64 h) = w7 at HF ⊢
  clear fx hp k6 u6 z0 z1 f0 f1 gd
  go_wp2
  exact bodyPost_ret_by (results_cell_tmp rfl _ _ _ _ rfl (load_P _ _ _ _ HF.out.1 rfl)) rfl ⟨_, _, rfl, HF.out.2⟩

set_option maxRecDepth 16000 in
set_option maxHeartbeats 8000000 in
theorem does_5 (w : World) (P b o : Nat) (L : List FS) (h : Nat) (k : PtO w P b o L h) (hk : PtOk L h) (a : Option Addr) (c : Nat) (pq : Nat → Prop) (hpq : ∀ i, pq i → i ≠ P ∧ i ≠ b) (hpn : ∀ i, w.heap.size ≤ i → pq i) (hr : RdQ pq w (.slice a L.length c) L) (dd ii pg off n : Int) (bv : Value) (ys : List Int) (hy : RdV (Value.int .u8) 0 (fun i => i ≠ P ∧ i ≠ b) w bv ys) (hdd : (Lit.int .i64 dd).wf = true) (hii : (Lit.int .i64 ii).wf = true) (hpg : (Lit.int .i64 pg).wf = true) (hof : (Lit.int .i64 off).wf = true) (hnw : (Lit.int .i64 n).wf = true) (hkk : around dd 13 = 5) : Calls Try.prog 12 #[.pointer (some ⟨P, 0, none⟩), .agg #[.slice a L.length c, .int .i64 h], .agg #[.int .i64 dd, .int .i64 ii, .int .i64 pg, .int .i64 off, .int .i64 n, bv]] w fun e w' => ∃ a' c', e = .returned (.tuple #[.agg #[.slice a' L.length c', .int .i64 (h : Nat)], .bool true]) ∧ RdQ pq w' (.slice a' L.length c') (clnP (around ii ((L.length : Int) + 2) - 1) L).1 ∧ PtO w' P b o (clnP (around ii ((L.length : Int) + 2) - 1) L).1 h ∧ UpdS (fun i => i = P ∨ i = b) w w' := by
  obtain ⟨ab, cb, hbv⟩ := hy.shape
  subst hbv
  obtain ⟨W, hW⟩ : ∃ W, ((w.alloc (.cells #[.slice a L.length c, .int .i64 h] 30)).alloc (.cells #[.int .i64 dd, .int .i64 ii, .int .i64 pg, .int .i64 off, .int .i64 n, .slice ab ys.length cb] 36)).alloc (.cells #[.slice none 0 0, .int .i64 0] 30) = W := ⟨_, rfl⟩
  obtain ⟨X, hX⟩ : ∃ X, w.heap.size = X := ⟨_, rfl⟩
  have g0 : Grow w W := by rw [← hW]; exact (((Grow.refl w).alloc _).alloc _).alloc _
  have V0 : VarAt W X [.slice a L.length c, .int .i64 h] := by rw [← hW, ← hX]; exact ((VarAt.new w [.slice a L.length c, .int .i64 h] 30).old _).old _
  have O0 : VarAt W (X + 1) [.int .i64 dd, .int .i64 ii, .int .i64 pg, .int .i64 off, .int .i64 n, .slice ab ys.length cb] := by rw [← hW, ← hX]; exact (VarAt.new2 w _ [.int .i64 dd, .int .i64 ii, .int .i64 pg, .int .i64 off, .int .i64 n, .slice ab ys.length cb] 36).old _
  have Z0 : VarAt W (X + 1 + 1) [.slice none 0 0, .int .i64 0] := by rw [← hW, ← hX]; exact VarAt.new3 w _ _ [.slice none 0 0, .int .i64 0] 30
  have hL := hk.2.2
  have hPX : P < X := by rw [← hX]; exact k.lt
  have hbX : b < X := by rw [← hX]; exact k.2.2.1
  have HR : Hid (Grow w W ∧ VarAt W X [.slice a L.length c, .int .i64 h] ∧ VarAt W (X + 1) [.int .i64 dd, .int .i64 ii, .int .i64 pg, .int .i64 off, .int .i64 n, .slice ab ys.length cb] ∧ VarAt W (X + 1 + 1) [.slice none 0 0, .int .i64 0] ∧ w.heap.size = X ∧ PtO W P b o L h ∧ P < X ∧ b < X ∧ P ≠ b ∧ RdQ (fun i => pq i ∧ i ≠ X + 1 + 1) W (.slice a L.length c) L) := ⟨g0, V0, O0, Z0, hX, k.grow g0, hPX, hbX, k.2.1, (RdS.grow (rd_old hr) g0).mono (fun i _ hi => ⟨hi.1, by have := hi.2; omega⟩)⟩
  have HP : Hid ((∀ i, pq i → i ≠ P ∧ i ≠ b) ∧ (∀ i, w.heap.size ≤ i → pq i)) := ⟨hpq, hpn⟩
  have HY : Hid (RdV (Value.int .u8) 0 (fun i => i ≠ P ∧ i ≠ b) W (.slice ab ys.length cb) ys) := hy.grow g0
  have hk0 : PtOk L 0 := ⟨hk.1, by have := hk.2.1; omega, hk.2.2⟩
  have HN : Hid (∀ w', Grow W w' → ∀ i, w'.heap.size ≤ i → pq i ∧ i ≠ X + 1 + 1) := fun w' g i hi => ⟨hpn i (by have := g.size; have := Z0.lt; omega), by have := g.size; have := Z0.lt; omega⟩
  have c1 := qframe_any dd ii pg off n ab ys.length cb W hii L.length (by omega)
  have c2 := fun w' => around_any pg 5 w' hpg (by omega) (by omega)
  have c3 := fun w' => qkind_any dd ii pg off n ab ys.length cb w' hdd
  generalize (around ii ((L.length : Int) + 2) - 1) = I at c1 ⊢
  generalize (around pg 5) = Q at c2 ⊢
  rw [hkk] at c3
  have hq0 := fun w' (g : Grow W w') => qclean_any w' a c L h (RdS.grow HR.out.2.2.2.2.2.2.2.2.2 g) hL (HN.out w' g) I
  have hp0 := fun w' (k' : PtO w' P b o L h) => clean_any w' P b o L h k' I
  generalize clnP I L = T at hq0 hp0 ⊢
  obtain ⟨L', E⟩ := T
  simp only at hq0 hp0 ⊢
  obtain ⟨⟨v0, v1⟩, -⟩ := V0.two
  obtain ⟨⟨o0, o1, o2, o3, o4, o5⟩, -⟩ := VarAt.six O0
  clear V0 O0 Z0 g0 hr hy k hk hk0 hkk hpq hpn
  go_enter Try.func12, Try.ntmps12
  go_upto_region 1 with fail
  (try rw [hW])
  (try rw [hX])
  clear hW hX
  go_wp2_with fail
  refine c1.mono ?_
  rintro e w1 ⟨rfl, g1⟩
  obtain ⟨⟨v0, v1⟩, -⟩ := (HR.out.2.1.grow g1).two
  obtain ⟨⟨o0, o1, o2, o3, o4, o5⟩, -⟩ := VarAt.six (HR.out.2.2.1.grow g1)
  clear c1
  go_wp2_with fail
  refine (c2 _).mono ?_
  rintro e w1' ⟨rfl, rfl⟩
  clear c2
  go_wp2_with fail
  refine (c3 _).mono ?_
  rintro e w2 ⟨rfl, g2⟩
  have HW : Hid (Grow W w2) := g1.trans g2
  obtain ⟨⟨v0, v1⟩, -⟩ := (HR.out.2.1.grow HW.out).two
  obtain ⟨⟨o0, o1, o2, o3, o4, o5⟩, -⟩ := VarAt.six (HR.out.2.2.1.grow HW.out)
  clear c3 g1 g2
  have hq := hq0 w2 HW.out
  clear hq0
  go_wp2_with fail
  refine hq.mono ?_
  rintro e w3 ⟨a2, c2, rfl, r2, g3⟩
  have gW : Grow W w3 := HW.out.trans g3
  clear hq
  have HM0 : Hid (∀ W5, w3.alloc (.cells #[.slice a2 L.length c2, .int .i64 h] 30) = W5 → (Grow W W5 ∧ VarAt W5 w3.heap.size [.slice a2 L.length c2, .int .i64 h] ∧ RdQ (fun i => pq i ∧ i ≠ X + 1 + 1) W5 (.slice a2 L.length c2) L' ∧ X + 1 + 1 < w3.heap.size ∧ Grow w3 W5)) := fun W5 e => by
    rw [← e]
    exact ⟨gW.alloc _, VarAt.new w3 [.slice a2 L.length c2, .int .i64 h] 30, RdS.grow r2 ((Grow.refl w3).alloc _), by have := HR.out.2.2.2.1.lt; have := gW.size; omega, (Grow.refl w3).alloc _⟩
  clear v0 v1 o0 o1 o2 o3 o4 o5 r2 gW g3
  go_upto_region 14 with fail
  generalize hW5 : w3.alloc (.cells #[.slice a2 L.length c2, .int .i64 h] 30) = W5
  have HM1 := HM0.out W5 hW5
  clear hW5 HM0
  obtain ⟨M, hM⟩ : ∃ M, w3.heap.size = M := ⟨_, rfl⟩
  rw [hM] at HM1 ⊢
  have HM : Hid (Grow W W5 ∧ VarAt W5 M [.slice a2 L.length c2, .int .i64 h] ∧ RdQ (fun i => pq i ∧ i ≠ X + 1 + 1) W5 (.slice a2 L.length c2) L' ∧ X + 1 + 1 < M) := ⟨HM1.1, HM1.2.1, HM1.2.2.1, HM1.2.2.2.1⟩
  clear hM HM1
  go_wp2
  have gd : Grow W5 W5.drew := (Grow.refl W5).drew
  have fx : ∀ w', UpdS (fun i => i = P ∨ i = b ∨ i = X + 1 + 1) W5.drew w' → (w'.cell? ⟨M, 0, none⟩ = some (.slice a2 L.length c2) ∧ w'.cell? ⟨M, 1, none⟩ = some (.int .i64 h)) := fun w' g => ((HM.out.2.1.grow gd).upd g (by have := HM.out.2.2.2; have := HR.out; omega)).two.1
  refine wp_region_schedG (UpdS (fun i => i = P ∨ i = b ∨ i = X + 1 + 1)) (UpdS.refl _) (fun _ _ _ => UpdS.trans) (by kernel_rfl) [(0, false), (1, false), (2, false), (4, false), (3, true), (5, false), (6, true), (7, false)] (by kernel_rfl) (by kernel_rfl) rfl (fun _ _ d _ _ h => by cases d <;> exact h) ?_
  simp only [inOrder, List.filterMap_cons, List.filterMap_nil, List.getElem?_toArray, List.getElem?_cons_zero, List.getElem?_cons_succ, Option.map_some]
  repeat (first
    | (refine wpS_move rfl ?_; simp only [Act.eval, Act.put, Array.getD_eq_getD_getElem?, List.getElem?_toArray, List.getElem?_cons_zero, List.getElem?_cons_succ, Option.getD_some, List.setIfInBounds_toArray, List.set_cons_zero, List.set_cons_succ])
    | (refine wpS_assign rfl ?_; simp only [Act.eval, Act.put, Array.getD_eq_getD_getElem?, List.getElem?_toArray, List.getElem?_cons_zero, List.getElem?_cons_succ, Option.getD_some, List.setIfInBounds_toArray, List.set_cons_zero, List.set_cons_succ])
    | (refine wpS_read (v := ?_) rfl ?_ ?_; rotate_left; (focus (intro w' hG; obtain ⟨q0, q1⟩ := fx w' hG; go_simp; try (with_reducible rfl))); simp only [Act.put, List.setIfInBounds_toArray, List.set_cons_zero, List.set_cons_succ])
    | (refine wpS_skip rfl ?_; simp only [Act.put, List.setIfInBounds_toArray, List.set_cons_zero, List.set_cons_succ]))
  have hp := hp0 W5.drew ((HR.out.2.2.2.2.2.1.grow HM.out.1).grow gd)
  refine wpS_call (f := ?_) (args := ?_) (by rfl) ?_ ?_
  rotate_left 2; focus (go_simp; constructor <;> with_reducible rfl)
  refine (hp).mono ?_
  rintro e w6 ⟨rfl, k6, u6⟩
  refine ⟨_, rfl, u6.mono (fun i hi => hi.elim .inl (fun e => .inr (.inl e))), ?_⟩
  simp only [Act.put, List.setIfInBounds_toArray, List.set_cons_zero, List.set_cons_succ]
  repeat (first
    | (refine wpS_move rfl ?_; simp only [Act.eval, Act.put, Array.getD_eq_getD_getElem?, List.getElem?_toArray, List.getElem?_cons_zero, List.getElem?_cons_succ, Option.getD_some, List.setIfInBounds_toArray, List.set_cons_zero, List.set_cons_succ])
    | (refine wpS_assign rfl ?_; simp only [Act.eval, Act.put, Array.getD_eq_getD_getElem?, List.getElem?_toArray, List.getElem?_cons_zero, List.getElem?_cons_succ, Option.getD_some, List.setIfInBounds_toArray, List.set_cons_zero, List.set_cons_succ])
    | (refine wpS_read (v := ?_) rfl ?_ ?_; rotate_left; (focus (intro w' hG; skip; go_simp; try (with_reducible rfl))); simp only [Act.put, List.setIfInBounds_toArray, List.set_cons_zero, List.set_cons_succ])
    | (refine wpS_skip rfl ?_; simp only [Act.put, List.setIfInBounds_toArray, List.set_cons_zero, List.set_cons_succ]))
  have HD := d_end (HR.out.1.trans (HM.out.1.trans gd)) (RdS.grow HM.out.2.2.1 gd) ((HR.out.2.2.2.1.grow HM.out.1).grow gd) HP.out.1 (by have := HR.out; omega) HR.out.2.2.2.2.2.2.1 HR.out.2.2.2.2.2.2.2.1 k6 u6
  have HF := hid HD.1
  obtain ⟨⟨z0, z1⟩, f0, f1⟩ := HD.2
  clear HD
  refine wpS_store (w' := (w6.setCell ⟨X + 1 + 1, 0, none⟩ (.slice a2 L.length c2)).setCell ⟨X + 1 + 1, 1, none⟩ (.int .i64 h)) (by rfl) (by go_simp) ((upd_pair _ _ _ _).mono (fun i hi => .inr (.inr hi))) ?_
  simp only [Act.put, List.setIfInBounds_toArray, List.set_cons_zero, List.set_cons_succ]
  repeat (first
    | (refine wpS_move rfl ?_; simp only [Act.eval, Act.put, Array.getD_eq_getD_getElem?, List.getElem?_toArray, List.getElem?_cons_zero, List.getElem?_cons_succ, Option.getD_some, List.setIfInBounds_toArray, List.set_cons_zero, List.set_cons_succ])
    | (refine wpS_assign rfl ?_; simp only [Act.eval, Act.put, Array.getD_eq_getD_getElem?, List.getElem?_toArray, List.getElem?_cons_zero, List.getElem?_cons_succ, Option.getD_some, List.setIfInBounds_toArray, List.set_cons_zero, List.set_cons_succ])
    | (refine wpS_read (v := ?_) rfl ?_ ?_; rotate_left; (focus (intro w' hG; skip; go_simp; try (with_reducible rfl))); simp only [Act.put, List.setIfInBounds_toArray, List.set_cons_zero, List.set_cons_succ])
    | (refine wpS_skip rfl ?_; simp only [Act.put, List.setIfInBounds_toArray, List.set_cons_zero, List.set_cons_succ]))
  refine wpS_nil ?_
  generalize (w6.setCell ⟨X + 1 + 1, 0, none⟩ (.slice a2 L.length c2)).setCell ⟨X + 1 + 1, 1, none⟩ (.int .i64 h) = w7 at HF ⊢
  clear fx hp k6 u6 z0 z1 f0 f1 gd
  go_wp2
  exact bodyPost_ret_by (results_cell_tmp rfl _ _ _ _ rfl (load_P _ _ _ _ HF.out.1 rfl)) rfl ⟨_, _, rfl, HF.out.2⟩

set_option maxRecDepth 16000 in
set_option maxHeartbeats 8000000 in
theorem does_6 (w : World) (P b o : Nat) (L : List FS) (h : Nat) (k : PtO w P b o L h) (hk : PtOk L h) (a : Option Addr) (c : Nat) (pq : Nat → Prop) (hpq : ∀ i, pq i → i ≠ P ∧ i ≠ b) (hpn : ∀ i, w.heap.size ≤ i → pq i) (hr : RdQ pq w (.slice a L.length c) L) (dd ii pg off n : Int) (bv : Value) (ys : List Int) (hy : RdV (Value.int .u8) 0 (fun i => i ≠ P ∧ i ≠ b) w bv ys) (hdd : (Lit.int .i64 dd).wf = true) (hii : (Lit.int .i64 ii).wf = true) (hpg : (Lit.int .i64 pg).wf = true) (hof : (Lit.int .i64 off).wf = true) (hnw : (Lit.int .i64 n).wf = true) (hkk : around dd 13 = 6) : Calls Try.prog 12 #[.pointer (some ⟨P, 0, none⟩), .agg #[.slice a L.length c, .int .i64 h], .agg #[.int .i64 dd, .int .i64 ii, .int .i64 pg, .int .i64 off, .int .i64 n, bv]] w fun e w' => ∃ a' c', e = .returned (.tuple #[.agg #[.slice a' L.length c', .int .i64 (h : Nat)], .bool true]) ∧ RdQ pq w' (.slice a' L.length c') (onP (around pg 5) pinS L).1 ∧ PtO w' P b o (onP (around pg 5) pinS L).1 h ∧ UpdS (fun i => i = P ∨ i = b) w w' := by
  obtain ⟨ab, cb, hbv⟩ := hy.shape
  subst hbv
  obtain ⟨W, hW⟩ : ∃ W, ((w.alloc (.cells #[.slice a L.length c, .int .i64 h] 30)).alloc (.cells #[.int .i64 dd, .int .i64 ii, .int .i64 pg, .int .i64 off, .int .i64 n, .slice ab ys.length cb] 36)).alloc (.cells #[.slice none 0 0, .int .i64 0] 30) = W := ⟨_, rfl⟩
  obtain ⟨X, hX⟩ : ∃ X, w.heap.size = X := ⟨_, rfl⟩
  have g0 : Grow w W := by rw [← hW]; exact (((Grow.refl w).alloc _).alloc _).alloc _
  have V0 : VarAt W X [.slice a L.length c, .int .i64 h] := by rw [← hW, ← hX]; exact ((VarAt.new w [.slice a L.length c, .int .i64 h] 30).old _).old _
  have O0 : VarAt W (X + 1) [.int .i64 dd, .int .i64 ii, .int .i64 pg, .int .i64 off, .int .i64 n, .slice ab ys.length cb] := by rw [← hW, ← hX]; exact (VarAt.new2 w _ [.int .i64 dd, .int .i64 ii, .int .i64 pg, .int .i64 off, .int .i64 n, .slice ab ys.length cb] 36).old _
  have Z0 : VarAt W (X + 1 + 1) [.slice none 0 0, .int .i64 0] := by rw [← hW, ← hX]; exact VarAt.new3 w _ _ [.slice none 0 0, .int .i64 0] 30
  have hL := hk.2.2
  have hPX : P < X := by rw [← hX]; exact k.lt
  have hbX : b < X := by rw [← hX]; exact k.2.2.1
  have HR : Hid (Grow w W ∧ VarAt W X [.slice a L.length c, .int .i64 h] ∧ VarAt W (X + 1) [.int .i64 dd, .int .i64 ii, .int .i64 pg, .int .i64 off, .int .i64 n, .slice ab ys.length cb] ∧ VarAt W (X + 1 + 1) [.slice none 0 0, .int .i64 0] ∧ w.heap.size = X ∧ PtO W P b o L h ∧ P < X ∧ b < X ∧ P ≠ b ∧ RdQ (fun i => pq i ∧ i ≠ X + 1 + 1) W (.slice a L.length c) L) := ⟨g0, V0, O0, Z0, hX, k.grow g0, hPX, hbX, k.2.1, (RdS.grow (rd_old hr) g0).mono (fun i _ hi => ⟨hi.1, by have := hi.2; omega⟩)⟩
  have HP : Hid ((∀ i, pq i → i ≠ P ∧ i ≠ b) ∧ (∀ i, w.heap.size ≤ i → pq i)) := ⟨hpq, hpn⟩
  have HY : Hid (RdV (Value.int .u8) 0 (fun i => i ≠ P ∧ i ≠ b) W (.slice ab ys.length cb) ys) := hy.grow g0
  have hk0 : PtOk L 0 := ⟨hk.1, by have := hk.2.1; omega, hk.2.2⟩
  have HN : Hid (∀ w', Grow W w' → ∀ i, w'.heap.size ≤ i → pq i ∧ i ≠ X + 1 + 1) := fun w' g i hi => ⟨hpn i (by have := g.size; have := Z0.lt; omega), by have := g.size; have := Z0.lt; omega⟩
  have c1 := qframe_any dd ii pg off n ab ys.length cb W hii L.length (by omega)
  have c2 := fun w' => around_any pg 5 w' hpg (by omega) (by omega)
  have c3 := fun w' => qkind_any dd ii pg off n ab ys.length cb w' hdd
  generalize (around ii ((L.length : Int) + 2) - 1) = I at c1 ⊢
  generalize (around pg 5) = Q at c2 ⊢
  rw [hkk] at c3
  have hq0 := fun w' (g : Grow W w') => qdo_pin w' a c L h (RdS.grow HR.out.2.2.2.2.2.2.2.2.2 g) hL (HN.out w' g) hk0 Q
  have hp0 := fun w' (k' : PtO w' P b o L h) => ppin_any w' P b o L h k' hk Q
  generalize onP Q pinS L = T at hq0 hp0 ⊢
  obtain ⟨L', E⟩ := T
  simp only at hq0 hp0 ⊢
  obtain ⟨⟨v0, v1⟩, -⟩ := V0.two
  obtain ⟨⟨o0, o1, o2, o3, o4, o5⟩, -⟩ := VarAt.six O0
  clear V0 O0 Z0 g0 hr hy k hk hk0 hkk hpq hpn
  go_enter Try.func12, Try.ntmps12
  go_upto_region 1 with fail
  (try rw [hW])
  (try rw [hX])
  clear hW hX
  go_wp2_with fail
  refine c1.mono ?_
  rintro e w1 ⟨rfl, g1⟩
  obtain ⟨⟨v0, v1⟩, -⟩ := (HR.out.2.1.grow g1).two
  obtain ⟨⟨o0, o1, o2, o3, o4, o5⟩, -⟩ := VarAt.six (HR.out.2.2.1.grow g1)
  clear c1
  go_wp2_with fail
  refine (c2 _).mono ?_
  rintro e w1' ⟨rfl, rfl⟩
  clear c2
  go_wp2_with fail
  refine (c3 _).mono ?_
  rintro e w2 ⟨rfl, g2⟩
  have HW : Hid (Grow W w2) := g1.trans g2
  obtain ⟨⟨v0, v1⟩, -⟩ := (HR.out.2.1.grow HW.out).two
  obtain ⟨⟨o0, o1, o2, o3, o4, o5⟩, -⟩ := VarAt.six (HR.out.2.2.1.grow HW.out)
  clear c3 g1 g2
  have hq := hq0 w2 HW.out
  clear hq0
  go_wp2_with fail
  refine hq.mono ?_
  rintro e w3 ⟨a2, c2, rfl, r2, g3⟩
  have gW : Grow W w3 := HW.out.trans g3
  clear hq
  have HM0 : Hid (∀ W5, w3.alloc (.cells #[.slice a2 L.length c2, .int .i64 h] 30) = W5 → (Grow W W5 ∧ VarAt W5 w3.heap.size [.slice a2 L.length c2, .int .i64 h] ∧ RdQ (fun i => pq i ∧ i ≠ X + 1 + 1) W5 (.slice a2 L.length c2) L' ∧ X + 1 + 1 < w3.heap.size ∧ Grow w3 W5)) := fun W5 e => by
    rw [← e]
    exact ⟨gW.alloc _, VarAt.new w3 [.slice a2 L.length c2, .int .i64 h] 30, RdS.grow r2 ((Grow.refl w3).alloc _), by have := HR.out.2.2.2.1.lt; have := gW.size; omega, (Grow.refl w3).alloc _⟩
  clear v0 v1 o0 o1 o2 o3 o4 o5 r2 gW g3
  go_upto_region 18 with fail
  generalize hW5 : w3.alloc (.cells #[.slice a2 L.length c2, .int .i64 h] 30) = W5
  have HM1 := HM0.out W5 hW5
  clear hW5 HM0
  obtain ⟨M, hM⟩ : ∃ M, w3.heap.size = M := ⟨_, rfl⟩
  rw [hM] at HM1 ⊢
  have HM : Hid (Grow W W5 ∧ VarAt W5 M [.slice a2 L.length c2, .int .i64 h] ∧ RdQ (fun i => pq i ∧ i ≠ X + 1 + 1) W5 (.slice a2 L.length c2) L' ∧ X + 1 + 1 < M) := ⟨HM1.1, HM1.2.1, HM1.2.2.1, HM1.2.2.2.1⟩
  clear hM HM1
  go_wp2
  have gd : Grow W5 W5.drew := (Grow.refl W5).drew
  have fx : ∀ w', UpdS (fun i => i = P ∨ i = b ∨ i = X + 1 + 1) W5.drew w' → (w'.cell? ⟨M, 0, none⟩ = some (.slice a2 L.length c2) ∧ w'.cell? ⟨M, 1, none⟩ = some (.int .i64 h)) := fun w' g => ((HM.out.2.1.grow gd).upd g (by have := HM.out.2.2.2; have := HR.out; omega)).two.1
  refine wp_region_schedG (UpdS (fun i => i = P ∨ i = b ∨ i = X + 1 + 1)) (UpdS.refl _) (fun _ _ _ => UpdS.trans) (by kernel_rfl) [(0, false), (1, false), (2, false), (4, false), (3, true), (5, false), (6, true), (7, false)] (by kernel_rfl) (by kernel_rfl) rfl (fun _ _ d _ _ h => by cases d <;> exact h) ?_
  simp only [inOrder, List.filterMap_cons, List.filterMap_nil, List.getElem?_toArray, List.getElem?_cons_zero, List.getElem?_cons_succ, Option.map_some]
  repeat (first
    | (refine wpS_move rfl ?_; simp only [Act.eval, Act.put, Array.getD_eq_getD_getElem?, List.getElem?_toArray, List.getElem?_cons_zero, List.getElem?_cons_succ, Option.getD_some, List.setIfInBounds_toArray, List.set_cons_zero, List.set_cons_succ])
    | (refine wpS_assign rfl ?_; simp only [Act.eval, Act.put, Array.getD_eq_getD_getElem?, List.getElem?_toArray, List.getElem?_cons_zero, List.getElem?_cons_succ, Option.getD_some, List.setIfInBounds_toArray, List.set_cons_zero, List.set_cons_succ])
    | (refine wpS_read (v := ?_) rfl ?_ ?_; rotate_left; (focus (intro w' hG; obtain ⟨q0, q1⟩ := fx w' hG; go_simp; try (with_reducible rfl))); simp only [Act.put, List.setIfInBounds_toArray, List.set_cons_zero, List.set_cons_succ])
    | (refine wpS_skip rfl ?_; simp only [Act.put, List.setIfInBounds_toArray, List.set_cons_zero, List.set_cons_succ]))
  have hp := hp0 W5.drew ((HR.out.2.2.2.2.2.1.grow HM.out.1).grow gd)
  refine wpS_call (f := ?_) (args := ?_) (by rfl) ?_ ?_
  rotate_left 2; focus (go_simp; constructor <;> with_reducible rfl)
  refine (hp).mono ?_
  rintro e w6 ⟨rfl, k6, u6⟩
  refine ⟨_, rfl, u6.mono (fun i hi => hi.elim .inl (fun e => .inr (.inl e))), ?_⟩
  simp only [Act.put, List.setIfInBounds_toArray, List.set_cons_zero, List.set_cons_succ]
  repeat (first
    | (refine wpS_move rfl ?_; simp only [Act.eval, Act.put, Array.getD_eq_getD_getElem?, List.getElem?_toArray, List.getElem?_cons_zero, List.getElem?_cons_succ, Option.getD_some, List.setIfInBounds_toArray, List.set_cons_zero, List.set_cons_succ])
    | (refine wpS_assign rfl ?_; simp only [Act.eval, Act.put, Array.getD_eq_getD_getElem?, List.getElem?_toArray, List.getElem?_cons_zero, List.getElem?_cons_succ, Option.getD_some, List.setIfInBounds_toArray, List.set_cons_zero, List.set_cons_succ])
    | (refine wpS_read (v := ?_) rfl ?_ ?_; rotate_left; (focus (intro w' hG; skip; go_simp; try (with_reducible rfl))); simp only [Act.put, List.setIfInBounds_toArray, List.set_cons_zero, List.set_cons_succ])
    | (refine wpS_skip rfl ?_; simp only [Act.put, List.setIfInBounds_toArray, List.set_cons_zero, List.set_cons_succ]))
  have HD := d_end (HR.out.1.trans (HM.out.1.trans gd)) (RdS.grow HM.out.2.2.1 gd) ((HR.out.2.2.2.1.grow HM.out.1).grow gd) HP.out.1 (by have := HR.out; omega) HR.out.2.2.2.2.2.2.1 HR.out.2.2.2.2.2.2.2.1 k6 u6
  have HF := hid HD.1
  obtain ⟨⟨z0, z1⟩, f0, f1⟩ := HD.2
  clear HD
  refine wpS_store (w' := (w6.setCell ⟨X + 1 + 1, 0, none⟩ (.slice a2 L.length c2)).setCell ⟨X + 1 + 1, 1, none⟩ (.int .i64 h)) (by rfl) (by go_simp) ((upd_pair _ _ _ _).mono (fun i hi => .inr (.inr hi))) ?_
  simp only [Act.put, List.setIfInBounds_toArray, List.set_cons_zero, List.set_cons_succ]
  repeat (first
    | (refine wpS_move rfl ?_; simp only [Act.eval, Act.put, Array.getD_eq_getD_getElem?, List.getElem?_toArray, List.getElem?_cons_zero, List.getElem?_cons_succ, Option.getD_some, List.setIfInBounds_toArray, List.set_cons_zero, List.set_cons_succ])
    | (refine wpS_assign rfl ?_; simp only [Act.eval, Act.put, Array.getD_eq_getD_getElem?, List.getElem?_toArray, List.getElem?_cons_zero, List.getElem?_cons_succ, Option.getD_some, List.setIfInBounds_toArray, List.set_cons_zero, List.set_cons_succ])
    | (refine wpS_read (v := ?_) rfl ?_ ?_; rotate_left; (focus (intro w' hG; skip; go_simp; try (with_reducible rfl))); simp only [Act.put, List.setIfInBounds_toArray, List.set_cons_zero, List.set_cons_succ])
    | (refine wpS_skip rfl ?_; simp only [Act.put, List.setIfInBounds_toArray, List.set_cons_zero, List.set_cons_succ]))
  refine wpS_nil ?_
  generalize (w6.setCell ⟨X + 1 + 1, 0, none⟩ (.slice a2 L.length c2)).setCell ⟨X + 1 + 1, 1, none⟩ (.int .i64 h) = w7 at HF ⊢
  clear fx hp k6 u6 z0 z1 f0 f1 gd
  go_wp2
  exact bodyPost_ret_by (results_cell_tmp rfl _ _ _ _ rfl (load_P _ _ _ _ HF.out.1 rfl)) rfl ⟨_, _, rfl, HF.out.2⟩

set_option maxRecDepth 16000 in
set_option maxHeartbeats 8000000 in
theorem does_7 (w : World) (P b o : Nat) (L : List FS) (h : Nat) (k : PtO w P b o L h) (hk : PtOk L h) (a : Option Addr) (c : Nat) (pq : Nat → Prop) (hpq : ∀ i, pq i → i ≠ P ∧ i ≠ b) (hpn : ∀ i, w.heap.size ≤ i → pq i) (hr : RdQ pq w (.slice a L.length c) L) (dd ii pg off n : Int) (bv : Value) (ys : List Int) (hy : RdV (Value.int .u8) 0 (fun i => i ≠ P ∧ i ≠ b) w bv ys) (hdd : (Lit.int .i64 dd).wf = true) (hii : (Lit.int .i64 ii).wf = true) (hpg : (Lit.int .i64 pg).wf = true) (hof : (Lit.int .i64 off).wf = true) (hnw : (Lit.int .i64 n).wf = true) (hkk : around dd 13 = 7) : Calls Try.prog 12 #[.pointer (some ⟨P, 0, none⟩), .agg #[.slice a L.length c, .int .i64 h], .agg #[.int .i64 dd, .int .i64 ii, .int .i64 pg, .int .i64 off, .int .i64 n, bv]] w fun e w' => ∃ a' c', e = .returned (.tuple #[.agg #[.slice a' L.length c', .int .i64 (h : Nat)], .bool true]) ∧ RdQ pq w' (.slice a' L.length c') (onP (around pg 5) pinS L).1 ∧ PtO w' P b o (onP (around pg 5) pinS L).1 h ∧ UpdS (fun i => i = P ∨ i = b) w w' := by
  obtain ⟨ab, cb, hbv⟩ := hy.shape
  subst hbv
  obtain ⟨W, hW⟩ : ∃ W, ((w.alloc (.cells #[.slice a L.length c, .int .i64 h] 30)).alloc (.cells #[.int .i64 dd, .int .i64 ii, .int .i64 pg, .int .i64 off, .int .i64 n, .slice ab ys.length cb] 36)).alloc (.cells #[.slice none 0 0, .int .i64 0] 30) = W := ⟨_, rfl⟩
  obtain ⟨X, hX⟩ : ∃ X, w.heap.size = X := ⟨_, rfl⟩
  have g0 : Grow w W := by rw [← hW]; exact (((Grow.refl w).alloc _).alloc _).alloc _
  have V0 : VarAt W X [.slice a L.length c, .int .i64 h] := by rw [← hW, ← hX]; exact ((VarAt.new w [.slice a L.length c, .int .i64 h] 30).old _).old _
  have O0 : VarAt W (X + 1) [.int .i64 dd, .int .i64 ii, .int .i64 pg, .int .i64 off, .int .i64 n, .slice ab ys.length cb] := by rw [← hW, ← hX]; exact (VarAt.new2 w _ [.int .i64 dd, .int .i64 ii, .int .i64 pg, .int .i64 off, .int .i64 n, .slice ab ys.length cb] 36).old _
  have Z0 : VarAt W (X + 1 + 1) [.slice none 0 0, .int .i64 0] := by rw [← hW, ← hX]; exact VarAt.new3 w _ _ [.slice none 0 0, .int .i64 0] 30
  have hL := hk.2.2
  have hPX : P < X := by rw [← hX]; exact k.lt
  have hbX : b < X := by rw [← hX]; exact k.2.2.1
  have HR : Hid (Grow w W ∧ VarAt W X [.slice a L.length c, .int .i64 h] ∧ VarAt W (X + 1) [.int .i64 dd, .int .i64 ii, .int .i64 pg, .int .i64 off, .int .i64 n, .slice ab ys.length cb] ∧ VarAt W (X + 1 + 1) [.slice none 0 0, .int .i64 0] ∧ w.heap.size = X ∧ PtO W P b o L h ∧ P < X ∧ b < X ∧ P ≠ b ∧ RdQ (fun i => pq i ∧ i ≠ X + 1 + 1) W (.slice a L.length c) L) := ⟨g0, V0, O0, Z0, hX, k.grow g0, hPX, hbX, k.2.1, (RdS.grow (rd_old hr) g0).mono (fun i _ hi => ⟨hi.1, by have := hi.2; omega⟩)⟩
  have HP : Hid ((∀ i, pq i → i ≠ P ∧ i ≠ b) ∧ (∀ i, w.heap.size ≤ i → pq i)) := ⟨hpq, hpn⟩
  have HY : Hid (RdV (Value.int .u8) 0 (fun i => i ≠ P ∧ i ≠ b) W (.slice ab ys.length cb) ys) := hy.grow g0
  have hk0 : PtOk L 0 := ⟨hk.1, by have := hk.2.1; omega, hk.2.2⟩
  have HN : Hid (∀ w', Grow W w' → ∀ i, w'.heap.size ≤ i → pq i ∧ i ≠ X + 1 + 1) := fun w' g i hi => ⟨hpn i (by have := g.size; have := Z0.lt; omega), by have := g.size; have := Z0.lt; omega⟩
  have c1 := qframe_any dd ii pg off n ab ys.length cb W hii L.length (by omega)
  have c2 := fun w' => around_any pg 5 w' hpg (by omega) (by omega)
  have c3 := fun w' => qkind_any dd ii pg off n ab ys.length cb w' hdd
  generalize (around ii ((L.length : Int) + 2) - 1) = I at c1 ⊢
  generalize (around pg 5) = Q at c2 ⊢
  rw [hkk] at c3
  have hq0 := fun w' (g : Grow W w') => qdo_pin w' a c L h (RdS.grow HR.out.2.2.2.2.2.2.2.2.2 g) hL (HN.out w' g) hk0 Q
  have hp0 := fun w' (k' : PtO w' P b o L h) => ppin_any w' P b o L h k' hk Q
  generalize onP Q pinS L = T at hq0 hp0 ⊢
  obtain ⟨L', E⟩ := T
  simp only at hq0 hp0 ⊢
  obtain ⟨⟨v0, v1⟩, -⟩ := V0.two
  obtain ⟨⟨o0, o1, o2, o3, o4, o5⟩, -⟩ := VarAt.six O0
  clear V0 O0 Z0 g0 hr hy k hk hk0 hkk hpq hpn
  go_enter Try.func12, Try.ntmps12
  go_upto_region 1 with fail
  (try rw [hW])
  (try rw [hX])
  clear hW hX
  go_wp2_with fail
  refine c1.mono ?_
  rintro e w1 ⟨rfl, g1⟩
  obtain ⟨⟨v0, v1⟩, -⟩ := (HR.out.2.1.grow g1).two
  obtain ⟨⟨o0, o1, o2, o3, o4, o5⟩, -⟩ := VarAt.six (HR.out.2.2.1.grow g1)
  clear c1
  go_wp2_with fail
  refine (c2 _).mono ?_
  rintro e w1' ⟨rfl, rfl⟩
  clear c2
  go_wp2_with fail
  refine (c3 _).mono ?_
  rintro e w2 ⟨rfl, g2⟩
  have HW : Hid (Grow W w2) := g1.trans g2
  obtain ⟨⟨v0, v1⟩, -⟩ := (HR.out.2.1.grow HW.out).two
  obtain ⟨⟨o0, o1, o2, o3, o4, o5⟩, -⟩ := VarAt.six (HR.out.2.2.1.grow HW.out)
  clear c3 g1 g2
  have hq := hq0 w2 HW.out
  clear hq0
  go_wp2_with fail
  refine hq.mono ?_
  rintro e w3 ⟨a2, c2, rfl, r2, g3⟩
  have gW : Grow W w3 := HW.out.trans g3
  clear hq
  have HM0 : Hid (∀ W5, w3.alloc (.cells #[.slice a2 L.length c2, .int .i64 h] 30) = W5 → (Grow W W5 ∧ VarAt W5 w3.heap.size [.slice a2 L.length c2, .int .i64 h] ∧ RdQ (fun i => pq i ∧ i ≠ X + 1 + 1) W5 (.slice a2 L.length c2) L' ∧ X + 1 + 1 < w3.heap.size ∧ Grow w3 W5)) := fun W5 e => by
    rw [← e]
    exact ⟨gW.alloc _, VarAt.new w3 [.slice a2 L.length c2, .int .i64 h] 30, RdS.grow r2 ((Grow.refl w3).alloc _), by have := HR.out.2.2.2.1.lt; have := gW.size; omega, (Grow.refl w3).alloc _⟩
  clear v0 v1 o0 o1 o2 o3 o4 o5 r2 gW g3
  go_upto_region 18 with fail
  generalize hW5 : w3.alloc (.cells #[.slice a2 L.length c2, .int .i64 h] 30) = W5
  have HM1 := HM0.out W5 hW5
  clear hW5 HM0
  obtain ⟨M, hM⟩ : ∃ M, w3.heap.size = M := ⟨_, rfl⟩
  rw [hM] at HM1 ⊢
  have HM : Hid (Grow W W5 ∧ VarAt W5 M [.slice a2 L.length c2, .int .i64 h] ∧ RdQ (fun i => pq i ∧ i ≠ X + 1 + 1) W5 (.slice a2 L.length c2) L' ∧ X + 1 + 1 < M) := ⟨HM1.1, HM1.2.1, HM1.2.2.1, HM1.2.2.2.1⟩
  clear hM HM1
  go_wp2
  have gd : Grow W5 W5.drew := (Grow.refl W5).drew
  have fx : ∀ w', UpdS (fun i => i = P ∨ i = b ∨ i = X + 1 + 1) W5.drew w' → (w'.cell? ⟨M, 0, none⟩ = some (.slice a2 L.length c2) ∧ w'.cell? ⟨M, 1, none⟩ = some (.int .i64 h)) := fun w' g => ((HM.out.2.1.grow gd).upd g (by have := HM.out.2.2.2; have := HR.out; omega)).two.1
  refine wp_region_schedG (UpdS (fun i => i = P ∨ i = b ∨ i = X + 1 + 1)) (UpdS.refl _) (fun _ _ _ => UpdS.trans) (by kernel_rfl) [(0, false), (1, false), (2, false), (4, false), (3, true), (5, false), (6, true), (7, false)] (by kernel_rfl) (by kernel_rfl) rfl (fun _ _ d _ _ h => by cases d <;> exact h) ?_
  simp only [inOrder, List.filterMap_cons, List.filterMap_nil, List.getElem?_toArray, List.getElem?_cons_zero, List.getElem?_cons_succ, Option.map_some]
  repeat (first
    | (refine wpS_move rfl ?_; simp only [Act.eval, Act.put, Array.getD_eq_getD_getElem?, List.getElem?_toArray, List.getElem?_cons_zero, List.getElem?_cons_succ, Option.getD_some, List.setIfInBounds_toArray, List.set_cons_zero, List.set_cons_succ])
    | (refine wpS_assign rfl ?_; simp only [Act.eval, Act.put, Array.getD_eq_getD_getElem?, List.getElem?_toArray, List.getElem?_cons_zero, List.getElem?_cons_succ, Option.getD_some, List.setIfInBounds_toArray, List.set_cons_zero, List.set_cons_succ])
    | (refine wpS_read (v := ?_) rfl ?_ ?_; rotate_left; (focus (intro w' hG; obtain ⟨q0, q1⟩ := fx w' hG; go_simp; try (with_reducible rfl))); simp only [Act.put, List.setIfInBounds_toArray, List.set_cons_zero, List.set_cons_succ])
    | (refine wpS_skip rfl ?_; simp only [Act.put, List.setIfInBounds_toArray, List.set_cons_zero, List.set_cons_succ]))
  have hp := hp0 W5.drew ((HR.out.2.2.2.2.2.1.grow HM.out.1).grow gd)
  refine wpS_call (f := ?_) (args := ?_) (by rfl) ?_ ?_
  rotate_left 2; focus (go_simp; constructor <;> with_reducible rfl)
  refine (hp).mono ?_
  rintro e w6 ⟨rfl, k6, u6⟩
  refine ⟨_, rfl, u6.mono (fun i hi => hi.elim .inl (fun e => .inr (.inl e))), ?_⟩
  simp only [Act.put, List.setIfInBounds_toArray, List.set_cons_zero, List.set_cons_succ]
  repeat (first
    | (refine wpS_move rfl ?_; simp only [Act.eval, Act.put, Array.getD_eq_getD_getElem?, List.getElem?_toArray, List.getElem?_cons_zero, List.getElem?_cons_succ, Option.getD_some, List.setIfInBounds_toArray, List.set_cons_zero, List.set_cons_succ])
    | (refine wpS_assign rfl ?_; simp only [Act.eval, Act.put, Array.getD_eq_getD_getElem?, List.getElem?_toArray, List.getElem?_cons_zero, List.getElem?_cons_succ, Option.getD_some, List.setIfInBounds_toArray, List.set_cons_zero, List.set_cons_succ])
    | (refine wpS_read (v := ?_) rfl ?_ ?_; rotate_left; (focus (intro w' hG; skip; go_simp; try (with_reducible rfl))); simp only [Act.put, List.setIfInBounds_toArray, List.set_cons_zero, List.set_cons_succ])
    | (refine wpS_skip rfl ?_; simp only [Act.put, List.setIfInBounds_toArray, List.set_cons_zero, List.set_cons_succ]))
  have HD := d_end (HR.out.1.trans (HM.out.1.trans gd)) (RdS.grow HM.out.2.2.1 gd) ((HR.out.2.2.2.1.grow HM.out.1).grow gd) HP.out.1 (by have := HR.out; omega) HR.out.2.2.2.2.2.2.1 HR.out.2.2.2.2.2.2.2.1 k6 u6
  have HF := hid HD.1
  obtain ⟨⟨z0, z1⟩, f0, f1⟩ := HD.2
  clear HD
  refine wpS_store (w' := (w6.setCell ⟨X + 1 + 1, 0, none⟩ (.slice a2 L.length c2)).setCell ⟨X + 1 + 1, 1, none⟩ (.int .i64 h)) (by rfl) (by go_simp) ((upd_pair _ _ _ _).mono (fun i hi => .inr (.inr hi))) ?_
  simp only [Act.put, List.setIfInBounds_toArray, List.set_cons_zero, List.set_cons_succ]
  repeat (first
    | (refine wpS_move rfl ?_; simp only [Act.eval, Act.put, Array.getD_eq_getD_getElem?, List.getElem?_toArray, List.getElem?_cons_zero, List.getElem?_cons_succ, Option.getD_some, List.setIfInBounds_toArray, List.set_cons_zero, List.set_cons_succ])
    | (refine wpS_assign rfl ?_; simp only [Act.eval, Act.put, Array.getD_eq_getD_getElem?, List.getElem?_toArray, List.getElem?_cons_zero, List.getElem?_cons_succ, Option.getD_some, List.setIfInBounds_toArray, List.set_cons_zero, List.set_cons_succ])
    | (refine wpS_read (v := ?_) rfl ?_ ?_; rotate_left; (focus (intro w' hG; skip; go_simp; try (with_reducible rfl))); simp only [Act.put, List.setIfInBounds_toArray, List.set_cons_zero, List.set_cons_succ])
    | (refine wpS_skip rfl ?_; simp only [Act.put, List.setIfInBounds_toArray, List.set_cons_zero, List.set_cons_succ]))
  refine wpS_nil ?_
  generalize (w6.setCell ⟨X + 1 + 1, 0, none⟩ (.slice a2 L.length c2)).setCell ⟨X + 1 + 1, 1, none⟩ (.int .i64 h) = w7 at HF ⊢
  clear fx hp k6 u6 z0 z1 f0 f1 gd
  go_wp2
  exact bodyPost_ret_by (results_cell_tmp rfl _ _ _ _ rfl (load_P _ _ _ _ HF.out.1 rfl)) rfl ⟨_, _, rfl, HF.out.2⟩

set_option maxRecDepth 16000 in
set_option maxHeartbeats 8000000 in
theorem does_8 (w : World) (P b o : Nat) (L : List FS) (h : Nat) (k : PtO w P b o L h) (hk : PtOk L h) (a : Option Addr) (c : Nat) (pq : Nat → Prop) (hpq : ∀ i, pq i → i ≠ P ∧ i ≠ b) (hpn : ∀ i, w.heap.size ≤ i → pq i) (hr : RdQ pq w (.slice a L.length c) L) (dd ii pg off n : Int) (bv : Value) (ys : List Int) (hy : RdV (Value.int .u8) 0 (fun i => i ≠ P ∧ i ≠ b) w bv ys) (hdd : (Lit.int .i64 dd).wf = true) (hii : (Lit.int .i64 ii).wf = true) (hpg : (Lit.int .i64 pg).wf = true) (hof : (Lit.int .i64 off).wf = true) (hnw : (Lit.int .i64 n).wf = true) (hkk : around dd 13 = 8) : Calls Try.prog 12 #[.pointer (some ⟨P, 0, none⟩), .agg #[.slice a L.length c, .int .i64 h], .agg #[.int .i64 dd, .int .i64 ii, .int .i64 pg, .int .i64 off, .int .i64 n, bv]] w fun e w' => ∃ a' c', e = .returned (.tuple #[.agg #[.slice a' L.length c', .int .i64 (h : Nat)], .bool true]) ∧ RdQ pq w' (.slice a' L.length c') (onP (around pg 5) unpinS L).1 ∧ PtO w' P b o (onP (around pg 5) unpinS L).1 h ∧ UpdS (fun i => i = P ∨ i = b) w w' := by
  obtain ⟨ab, cb, hbv⟩ := hy.shape
  subst hbv
  obtain ⟨W, hW⟩ : ∃ W, ((w.alloc (.cells #[.slice a L.length c, .int .i64 h] 30)).alloc (.cells #[.int .i64 dd, .int .i64 ii, .int .i64 pg, .int .i64 off, .int .i64 n, .slice ab ys.length cb] 36)).alloc (.cells #[.slice none 0 0, .int .i64 0] 30) = W := ⟨_, rfl⟩
  obtain ⟨X, hX⟩ : ∃ X, w.heap.size = X := ⟨_, rfl⟩
  have g0 : Grow w W := by rw [← hW]; exact (((Grow.refl w).alloc _).alloc _).alloc _
  have V0 : VarAt W X [.slice a L.length c, .int .i64 h] := by rw [← hW, ← hX]; exact ((VarAt.new w [.slice a L.length c, .int .i64 h] 30).old _).old _
  have O0 : VarAt W (X + 1) [.int .i64 dd, .int .i64 ii, .int .i64 pg, .int .i64 off, .int .i64 n, .slice ab ys.length cb] := by rw [← hW, ← hX]; exact (VarAt.new2 w _ [.int .i64 dd, .int .i64 ii, .int .i64 pg, .int .i64 off, .int .i64 n, .slice ab ys.length cb] 36).old _
  have Z0 : VarAt W (X + 1 + 1) [.slice none 0 0, .int .i64 0] := by rw [← hW, ← hX]; exact VarAt.new3 w _ _ [.slice none 0 0, .int .i64 0] 30
  have hL := hk.2.2
  have hPX : P < X := by rw [← hX]; exact k.lt
  have hbX : b < X := by rw [← hX]; exact k.2.2.1
  have HR : Hid (Grow w W ∧ VarAt W X [.slice a L.length c, .int .i64 h] ∧ VarAt W (X + 1) [.int .i64 dd, .int .i64 ii, .int .i64 pg, .int .i64 off, .int .i64 n, .slice ab ys.length cb] ∧ VarAt W (X + 1 + 1) [.slice none 0 0, .int .i64 0] ∧ w.heap.size = X ∧ PtO W P b o L h ∧ P < X ∧ b < X ∧ P ≠ b ∧ RdQ (fun i => pq i ∧ i ≠ X + 1 + 1) W (.slice a L.length c) L) := ⟨g0, V0, O0, Z0, hX, k.grow g0, hPX, hbX, k.2.1, (RdS.grow (rd_old hr) g0).mono (fun i _ hi => ⟨hi.1, by have := hi.2; omega⟩)⟩
  have HP : Hid ((∀ i, pq i → i ≠ P ∧ i ≠ b) ∧ (∀ i, w.heap.size ≤ i → pq i)) := ⟨hpq, hpn⟩
  have HY : Hid (RdV (Value.int .u8) 0 (fun i => i ≠ P ∧ i ≠ b) W (.slice ab ys.length cb) ys) := hy.grow g0
  have hk0 : PtOk L 0 := ⟨hk.1, by have := hk.2.1; omega, hk.2.2⟩
  have HN : Hid (∀ w', Grow W w' → ∀ i, w'.heap.size ≤ i → pq i ∧ i ≠ X + 1 + 1) := fun w' g i hi => ⟨hpn i (by have := g.size; have := Z0.lt; omega), by have := g.size; have := Z0.lt; omega⟩
  have c1 := qframe_any dd ii pg off n ab ys.length cb W hii L.length (by omega)
  have c2 := fun w' => around_any pg 5 w' hpg (by omega) (by omega)
  have c3 := fun w' => qkind_any dd ii pg off n ab ys.length cb w' hdd
  generalize (around ii ((L.length : Int) + 2) - 1) = I at c1 ⊢
  generalize (around pg 5) = Q at c2 ⊢
  rw [hkk] at c3
  have hq0 := fun w' (g : Grow W w') => qdo_unpin w' a c L h (RdS.grow HR.out.2.2.2.2.2.2.2.2.2 g) hL (HN.out w' g) hk0 Q
  have hp0 := fun w' (k' : PtO w' P b o L h) => punpin_any w' P b o L h k' hk Q
  generalize onP Q unpinS L = T at hq0 hp0 ⊢
  obtain ⟨L', E⟩ := T
  simp only at hq0 hp0 ⊢
  obtain ⟨⟨v0, v1⟩, -⟩ := V0.two
  obtain ⟨⟨o0, o1, o2, o3, o4, o5⟩, -⟩ := VarAt.six O0
  clear V0 O0 Z0 g0 hr hy k hk hk0 hkk hpq hpn
  go_enter Try.func12, Try.ntmps12
  go_upto_region 1 with fail
  (try rw [hW])
  (try rw [hX])
  clear hW hX
  go_wp2_with fail
  refine c1.mono ?_
  rintro e w1 ⟨rfl, g1⟩
  obtain ⟨⟨v0, v1⟩, -⟩ := (HR.out.2.1.grow g1).two
  obtain ⟨⟨o0, o1, o2, o3, o4, o5⟩, -⟩ := VarAt.six (HR.out.2.2.1.grow g1)
  clear c1
  go_wp2_with fail
  refine (c2 _).mono ?_
  rintro e w1' ⟨rfl, rfl⟩
  clear c2
  go_wp2_with fail
  refine (c3 _).mono ?_
  rintro e w2 ⟨rfl, g2⟩
  have HW : Hid (Grow W w2) := g1.trans g2
  obtain ⟨⟨v0, v1⟩, -⟩ := (HR.out.2.1.grow HW.out).two
  obtain ⟨⟨o0, o1, o2, o3, o4, o5⟩, -⟩ := VarAt.six (HR.out.2.2.1.grow HW.out)
  clear c3 g1 g2
  have hq := hq0 w2 HW.out
  clear hq0
  go_wp2_with fail
  refine hq.mono ?_
  rintro e w3 ⟨a2, c2, rfl, r2, g3⟩
  have gW : Grow W w3 := HW.out.trans g3
  clear hq
  have HM0 : Hid (∀ W5, w3.alloc (.cells #[.slice a2 L.length c2, .int .i64 h] 30) = W5 → (Grow W W5 ∧ VarAt W5 w3.heap.size [.slice a2 L.length c2, .int .i64 h] ∧ RdQ (fun i => pq i ∧ i ≠ X + 1 + 1) W5 (.slice a2 L.length c2) L' ∧ X + 1 + 1 < w3.heap.size ∧ Grow w3 W5)) := fun W5 e => by
    rw [← e]
    exact ⟨gW.alloc _, VarAt.new w3 [.slice a2 L.length c2, .int .i64 h] 30, RdS.grow r2 ((Grow.refl w3).alloc _), by have := HR.out.2.2.2.1.lt; have := gW.size; omega, (Grow.refl w3).alloc _⟩
  clear v0 v1 o0 o1 o2 o3 o4 o5 r2 gW g3
  go_upto_region 21 with fail
  generalize hW5 : w3.alloc (.cells #[.slice a2 L.length c2, .int .i64 h] 30) = W5
  have HM1 := HM0.out W5 hW5
  clear hW5 HM0
  obtain ⟨M, hM⟩ : ∃ M, w3.heap.size = M := ⟨_, rfl⟩
  rw [hM] at HM1 ⊢
  have HM : Hid (Grow W W5 ∧ VarAt W5 M [.slice a2 L.length c2, .int .i64 h] ∧ RdQ (fun i => pq i ∧ i ≠ X + 1 + 1) W5 (.slice a2 L.length c2) L' ∧ X + 1 + 1 < M) := ⟨HM1.1, HM1.2.1, HM1.2.2.1, HM1.2.2.2.1⟩
  clear hM HM1
  go_wp2
  have gd : Grow W5 W5.drew := (Grow.refl W5).drew
  have fx : ∀ w', UpdS (fun i => i = P ∨ i = b ∨ i = X + 1 + 1) W5.drew w' → (w'.cell? ⟨M, 0, none⟩ = some (.slice a2 L.length c2) ∧ w'.cell? ⟨M, 1, none⟩ = some (.int .i64 h)) := fun w' g => ((HM.out.2.1.grow gd).upd g (by have := HM.out.2.2.2; have := HR.out; omega)).two.1
  refine wp_region_schedG (UpdS (fun i => i = P ∨ i = b ∨ i = X + 1 + 1)) (UpdS.refl _) (fun _ _ _ => UpdS.trans) (by kernel_rfl) [(0, false), (1, false), (2, false), (4, false), (3, true), (5, false), (6, true), (7, false)] (by kernel_rfl) (by kernel_rfl) rfl (fun _ _ d _ _ h => by cases d <;> exact h) ?_
  simp only [inOrder, List.filterMap_cons, List.filterMap_nil, List.getElem?_toArray, List.getElem?_cons_zero, List.getElem?_cons_succ, Option.map_some]
  repeat (first
    | (refine wpS_move rfl ?_; simp only [Act.eval, Act.put, Array.getD_eq_getD_getElem?, List.getElem?_toArray, List.getElem?_cons_zero, List.getElem?_cons_succ, Option.getD_some, List.setIfInBounds_toArray, List.set_cons_zero, List.set_cons_succ])
    | (refine wpS_assign rfl ?_; simp only [Act.eval, Act.put, Array.getD_eq_getD_getElem?, List.getElem?_toArray, List.getElem?_cons_zero, List.getElem?_cons_succ, Option.getD_some, List.setIfInBounds_toArray, List.set_cons_zero, List.set_cons_succ])
    | (refine wpS_read (v := ?_) rfl ?_ ?_; rotate_left; (focus (intro w' hG; obtain ⟨q0, q1⟩ := fx w' hG; go_simp; try (with_reducible rfl))); simp only [Act.put, List.setIfInBounds_toArray, List.set_cons_zero, List.set_cons_succ])
    | (refine wpS_skip rfl ?_; simp only [Act.put, List.setIfInBounds_toArray, List.set_cons_zero, List.set_cons_succ]))
  have hp := hp0 W5.drew ((HR.out.2.2.2.2.2.1.grow HM.out.1).grow gd)
  refine wpS_call (f := ?_) (args := ?_) (by rfl) ?_ ?_
  rotate_left 2; focus (go_simp; constructor <;> with_reducible rfl)
  refine (hp).mono ?_
  rintro e w6 ⟨rfl, k6, u6⟩
  refine ⟨_, rfl, u6.mono (fun i hi => hi.elim .inl (fun e => .inr (.inl e))), ?_⟩
  simp only [Act.put, List.setIfInBounds_toArray, List.set_cons_zero, List.set_cons_succ]
  repeat (first
    | (refine wpS_move rfl ?_; simp only [Act.eval, Act.put, Array.getD_eq_getD_getElem?, List.getElem?_toArray, List.getElem?_cons_zero, List.getElem?_cons_succ, Option.getD_some, List.setIfInBounds_toArray, List.set_cons_zero, List.set_cons_succ])
    | (refine wpS_assign rfl ?_; simp only [Act.eval, Act.put, Array.getD_eq_getD_getElem?, List.getElem?_toArray, List.getElem?_cons_zero, List.getElem?_cons_succ, Option.getD_some, List.setIfInBounds_toArray, List.set_cons_zero, List.set_cons_succ])
    | (refine wpS_read (v := ?_) rfl ?_ ?_; rotate_left; (focus (intro w' hG; skip; go_simp; try (with_reducible rfl))); simp only [Act.put, List.setIfInBounds_toArray, List.set_cons_zero, List.set_cons_succ])
    | (refine wpS_skip rfl ?_; simp only [Act.put, List.setIfInBounds_toArray, List.set_cons_zero, List.set_cons_succ]))
  have HD := d_end (HR.out.1.trans (HM.out.1.trans gd)) (RdS.grow HM.out.2.2.1 gd) ((HR.out.2.2.2.1.grow HM.out.1).grow gd) HP.out.1 (by have := HR.out; omega) HR.out.2.2.2.2.2.2.1 HR.out.2.2.2.2.2.2.2.1 k6 u6
  have HF := hid HD.1
  obtain ⟨⟨z0, z1⟩, f0, f1⟩ := HD.2
  clear HD
  refine wpS_store (w' := (w6.setCell ⟨X + 1 + 1, 0, none⟩ (.slice a2 L.length c2)).setCell ⟨X + 1 + 1, 1, none⟩ (.int .i64 h)) (by rfl) (by go_simp) ((upd_pair _ _ _ _).mono (fun i hi => .inr (.inr hi))) ?_
  simp only [Act.put, List.setIfInBounds_toArray, List.set_cons_zero, List.set_cons_succ]
  repeat (first
    | (refine wpS_move rfl ?_; simp only [Act.eval, Act.put, Array.getD_eq_getD_getElem?, List.getElem?_toArray, List.getElem?_cons_zero, List.getElem?_cons_succ, Option.getD_some, List.setIfInBounds_toArray, List.set_cons_zero, List.set_cons_succ])
    | (refine wpS_assign rfl ?_; simp only [Act.eval, Act.put, Array.getD_eq_getD_getElem?, List.getElem?_toArray, List.getElem?_cons_zero, List.getElem?_cons_succ, Option.getD_some, List.setIfInBounds_toArray, List.set_cons_zero, List.set_cons_succ])
    | (refine wpS_read (v := ?_) rfl ?_ ?_; rotate_left; (focus (intro w' hG; skip; go_simp; try (with_reducible rfl))); simp only [Act.put, List.setIfInBounds_toArray, List.set_cons_zero, List.set_cons_succ])
    | (refine wpS_skip rfl ?_; simp only [Act.put, List.setIfInBounds_toArray, List.set_cons_zero, List.set_cons_succ]))
  refine wpS_nil ?_
  generalize (w6.setCell ⟨X + 1 + 1, 0, none⟩ (.slice a2 L.length c2)).setCell ⟨X + 1 + 1, 1, none⟩ (.int .i64 h) = w7 at HF ⊢
  clear fx hp k6 u6 z0 z1 f0 f1 gd
  go_wp2
  exact bodyPost_ret_by (results_cell_tmp rfl _ _ _ _ rfl (load_P _ _ _ _ HF.out.1 rfl)) rfl ⟨_, _, rfl, HF.out.2⟩

end Go.Proofs.Ythdhfojogckflaa
