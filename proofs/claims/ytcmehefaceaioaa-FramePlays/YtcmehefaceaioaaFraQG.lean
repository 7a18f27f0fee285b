/-
  The walk of the document's Do: Get, Zero, Load. Conditions: each theorem's own.
-/
import Derived.Test.YtcmehefaceaioaaFraQ
namespace Go.Proofs.Ytcmehefaceaioaa
open Go.RowKit
set_option linter.unusedVariables false
set_option linter.unusedSimpArgs false

set_option maxRecDepth 8000 in
set_option maxHeartbeats 4000000 in
theorem rdo_6 (s : FS) (hs : s.Ok) (dd pg off n : Int) (hdd : (Lit.int .i64 dd).wf = true) (hof : (Lit.int .i64 off).wf = true) (hnw : (Lit.int .i64 n).wf = true) (bv : Value) (ys : List Int) (w : World) (hy : RdV (Value.int .u8) 0 (fun i => i < w.heap.size) w bv ys) (hyo : Oct ys) (hk : around dd 10 = 6) : Calls Try.prog 10 #[s.v, .agg #[.int .i64 dd, .int .i64 pg, .int .i64 off, .int .i64 n, bv]] w fun e w' => e = .returned (.tuple #[(doS (around dd 10) s pg off n ys).1.v, .string (strOfNums (doS (around dd 10) s pg off n ys).2.1), .int .i64 (doS (around dd 10) s pg off n ys).2.2]) ∧ Grow w w' := by
  obtain ⟨ab, cb, hbv⟩ := hy.shape
  subst hbv
  obtain ⟨u, d, r, p, q, bs⟩ := s
  obtain ⟨W0, hW0⟩ : ∃ W0, ((w.alloc (.cells #[.bool u, .bool d, .bool r, .int .i64 p, .int .i64 q, .string (strOfNums bs)] 30)).alloc (.cells #[.int .i64 dd, .int .i64 pg, .int .i64 off, .int .i64 n, .slice ab ys.length cb] 37)).alloc (.cells #[.bool false, .bool false, .bool false, .int .i64 0, .int .i64 0, .string ⟨#[]⟩] 30) = W0 := ⟨_, rfl⟩
  obtain ⟨X, hX⟩ : ∃ X, w.heap.size = X := ⟨_, rfl⟩
  have g0 : Grow w W0 := by rw [← hW0]; exact (((Grow.refl w).alloc _).alloc _).alloc _
  have V0 : VarAt W0 X [.bool u, .bool d, .bool r, .int .i64 p, .int .i64 q, .string (strOfNums bs)] := by rw [← hW0, ← hX]; exact ((VarAt.new w [.bool u, .bool d, .bool r, .int .i64 p, .int .i64 q, .string (strOfNums bs)] 30).old _).old _
  have O0 : VarAt W0 (X + 1) [.int .i64 dd, .int .i64 pg, .int .i64 off, .int .i64 n, .slice ab ys.length cb] := by rw [← hW0, ← hX]; exact (VarAt.new2 w _ [.int .i64 dd, .int .i64 pg, .int .i64 off, .int .i64 n, .slice ab ys.length cb] 37).old _
  have Z0 : VarAt W0 (X + 1 + 1) [.bool false, .bool false, .bool false, .int .i64 0, .int .i64 0, .string ⟨#[]⟩] := by rw [← hW0, ← hX]; exact VarAt.new3 w _ _ [.bool false, .bool false, .bool false, .int .i64 0, .int .i64 0, .string ⟨#[]⟩] 30
  have H0 : Hid (VarAt W0 X [.bool u, .bool d, .bool r, .int .i64 p, .int .i64 q, .string (strOfNums bs)] ∧ VarAt W0 (X + 1) [.int .i64 dd, .int .i64 pg, .int .i64 off, .int .i64 n, .slice ab ys.length cb] ∧ VarAt W0 (X + 1 + 1) [.bool false, .bool false, .bool false, .int .i64 0, .int .i64 0, .string ⟨#[]⟩] ∧ Grow w W0 ∧ w.heap.size = X) := ⟨V0, O0, Z0, g0, hX⟩
  have HY : Hid (RdV (Value.int .u8) 0 (fun i => i < W0.heap.size) W0 (.slice ab ys.length cb) ys) := (hy.mono (fun i hi _ => by have := g0.size; omega)).grow g0
  have r3 := around_any dd 10 W0 hdd (by omega) (by omega)
  rw [hk] at r3
  rw [hk, doS_get _ _ _ _ _ rfl]
  have hc := rgetS_any ⟨u, d, r, p, q, bs⟩ hs W0 off n hof hnw
  generalize getS ⟨u, d, r, p, q, bs⟩ off n = T at hc ⊢
  obtain ⟨⟨u', d', r', p', q', bs'⟩, Z, E⟩ := T
  simp only [FS.v] at hc ⊢
  obtain ⟨⟨x0, x1, x2, x3, x4, x5⟩, -⟩ := V0.six
  obtain ⟨o0, o1, o2, o3, o4⟩ := O0.fives
  clear V0 O0 Z0 g0 hy hk
  go_enter Try.func10, Try.ntmps10
  go_upto_region 1 with fail
  (try rw [hW0])
  (try rw [hX])
  clear hW0 hX
  go_wp2_with fail
  refine r3.mono ?_
  rintro e w0 ⟨rfl, rfl⟩
  clear r3
  go_wp2_with fail
  refine hc.mono ?_
  rintro e w1 ⟨v1, rfl, r1, g1⟩
  obtain ⟨a1, c1, rfl⟩ := r1.shape
  clear hc x0 x1 x2 x3 x4 x5 o0 o1 o2 o3 o4
  obtain ⟨W2, hW2⟩ : ∃ W2, w1.alloc (.cells #[.bool u', .bool d', .bool r', .int .i64 p', .int .i64 q', .string (strOfNums bs')] 30) = W2 := ⟨_, rfl⟩
  obtain ⟨M, hM⟩ : ∃ M, w1.heap.size = M := ⟨_, rfl⟩
  have V2 : VarAt W2 M [.bool u', .bool d', .bool r', .int .i64 p', .int .i64 q', .string (strOfNums bs')] := by rw [← hW2, ← hM]; exact VarAt.new w1 [.bool u', .bool d', .bool r', .int .i64 p', .int .i64 q', .string (strOfNums bs')] 30
  have g2 : Grow W0 W2 := by rw [← hW2]; exact g1.alloc _
  have Z2 := H0.out.2.2.1.grow g2
  have H2 : Hid (VarAt W2 M [.bool u', .bool d', .bool r', .int .i64 p', .int .i64 q', .string (strOfNums bs')] ∧ VarAt W2 (X + 1 + 1) [.bool false, .bool false, .bool false, .int .i64 0, .int .i64 0, .string ⟨#[]⟩] ∧ Grow w W2) := ⟨V2, Z2, H0.out.2.2.2.1.trans g2⟩
  have HR : Hid (RdV (Value.int .u8) 0 (fun i => W0.heap.size ≤ i) W2 (.slice a1 Z.length c1) Z ∧ X + 1 + 1 < W0.heap.size ∧ X + 1 + 1 ≠ M) := ⟨by rw [← hW2]; exact r1.grow ((Grow.refl w1).alloc _), H0.out.2.2.1.lt, by have := H0.out.2.2.1.lt; have := g1.size; omega⟩
  clear V2 Z2 g2 g1 r1
  go_upto_region 12 with fail
  (try rw [hW2])
  (try rw [hM])
  clear hW2 hM
  have gd : Grow W2 W2.drew := (Grow.refl W2).drew
  have fx : ∀ w', UpdS (fun i => i = X + 1 + 1) W2.drew w' → (w'.cell? ⟨M, 0, none⟩ = some (.bool u') ∧ w'.cell? ⟨M, 1, none⟩ = some (.bool d') ∧ w'.cell? ⟨M, 2, none⟩ = some (.bool r') ∧ w'.cell? ⟨M, 3, none⟩ = some (.int .i64 p') ∧ w'.cell? ⟨M, 4, none⟩ = some (.int .i64 q') ∧ w'.cell? ⟨M, 5, none⟩ = some (.string (strOfNums bs'))) := fun w' g => ((H2.out.1.grow gd).upd g (by have := HR.out.2.2; omega)).six.1
  have kc : ∀ w', UpdS (fun i => i = X + 1 + 1) W2.drew w' → (convert 35 9 (.slice a1 Z.length c1)).run Try.prog w' = .ok (.string (strOfNums Z)) w' := fun w' g => ((HR.out.1.grow gd).upd g (fun i _ hi e => by have := HR.out.2.1; omega)).i.string 35 9 5 Try.underlying35 Try.underlying5 Try.underlying9
  have HF : Hid (VarAt (put6 W2.drew (X + 1 + 1) (.bool u') (.bool d') (.bool r') (.int .i64 p') (.int .i64 q') (.string (strOfNums bs'))) (X + 1 + 1) [.bool u', .bool d', .bool r', .int .i64 p', .int .i64 q', .string (strOfNums bs')] ∧ Grow w (put6 W2.drew (X + 1 + 1) (.bool u') (.bool d') (.bool r') (.int .i64 p') (.int .i64 q') (.string (strOfNums bs')))) := ⟨(H2.out.2.1.grow gd).put6 _ _ _ _ _ _, UpdS.new (H2.out.2.2.trans gd) (upd_put6 _ _ _ _ _ _ _ _) (fun i hi => by have := H0.out.2.2.2.2; omega)⟩
  obtain ⟨⟨y0, y1, y2, y3, y4, y5⟩, f0, f1, f2, f3, f4, f5⟩ := H2.out.2.1.six
  refine wp_region_schedG (UpdS (fun i => i = X + 1 + 1)) (UpdS.refl _) (fun _ _ _ => UpdS.trans) (by kernel_rfl) [(0, false), (1, false), (2, false), (3, false), (4, true), (5, false), (6, false)] (by kernel_rfl) (by kernel_rfl) rfl (fun _ _ d _ _ h => by cases d <;> exact h) ?_
  simp only [inOrder, List.filterMap_cons, List.filterMap_nil, List.getElem?_toArray, List.getElem?_cons_zero, List.getElem?_cons_succ, Option.map_some]
  repeat (first
    | (refine wpS_move rfl ?_; simp only [Act.eval, Act.put, Array.getD_eq_getD_getElem?, List.getElem?_toArray, List.getElem?_cons_zero, List.getElem?_cons_succ, Option.getD_some, List.setIfInBounds_toArray, List.set_cons_zero, List.set_cons_succ])
    | (refine wpS_assign rfl ?_; simp only [Act.eval, Act.put, Array.getD_eq_getD_getElem?, List.getElem?_toArray, List.getElem?_cons_zero, List.getElem?_cons_succ, Option.getD_some, List.setIfInBounds_toArray, List.set_cons_zero, List.set_cons_succ])
    | (refine wpS_read (v := ?_) rfl ?_ ?_; rotate_left; (focus (intro w' hG; obtain ⟨q0, q1, q2, q3, q4, q5⟩ := fx w' hG; have q6 := kc w' hG; go_simp; try (with_reducible rfl))); simp only [Act.put, List.setIfInBounds_toArray, List.set_cons_zero, List.set_cons_succ])
    | (refine wpS_skip rfl ?_; simp only [Act.put, List.setIfInBounds_toArray, List.set_cons_zero, List.set_cons_succ]))
  refine wpS_store (w' := put6 W2.drew (X + 1 + 1) (.bool u') (.bool d') (.bool r') (.int .i64 p') (.int .i64 q') (.string (strOfNums bs'))) (by rfl) (by unfold put6; go_simp) (upd_put6 _ _ _ _ _ _ _ _) ?_
  simp only [Act.put, List.setIfInBounds_toArray, List.set_cons_zero, List.set_cons_succ]
  repeat (first
    | (refine wpS_move rfl ?_; simp only [Act.eval, Act.put, Array.getD_eq_getD_getElem?, List.getElem?_toArray, List.getElem?_cons_zero, List.getElem?_cons_succ, Option.getD_some, List.setIfInBounds_toArray, List.set_cons_zero, List.set_cons_succ])
    | (refine wpS_assign rfl ?_; simp only [Act.eval, Act.put, Array.getD_eq_getD_getElem?, List.getElem?_toArray, List.getElem?_cons_zero, List.getElem?_cons_succ, Option.getD_some, List.setIfInBounds_toArray, List.set_cons_zero, List.set_cons_succ])
    | (refine wpS_read (v := ?_) rfl ?_ ?_; rotate_left; (focus (intro w' hG; skip; go_simp; try (with_reducible rfl))); simp only [Act.put, List.setIfInBounds_toArray, List.set_cons_zero, List.set_cons_succ])
    | (refine wpS_skip rfl ?_; simp only [Act.put, List.setIfInBounds_toArray, List.set_cons_zero, List.set_cons_succ]))
  refine wpS_nil ?_
  generalize put6 W2.drew (X + 1 + 1) (.bool u') (.bool d') (.bool r') (.int .i64 p') (.int .i64 q') (.string (strOfNums bs')) = w3 at HF
  clear fx kc y0 y1 y2 y3 y4 y5 f0 f1 f2 f3 f4 f5
  go_wp2
  exact bodyPost_ret_by (results_cell_tmp2 rfl _ _ _ _ rfl (load_F _ _ _ _ _ _ _ _ HF.out.1)) rfl ⟨rfl, HF.out.2⟩

set_option maxRecDepth 8000 in
set_option maxHeartbeats 4000000 in
theorem rdo_9 (s : FS) (hs : s.Ok) (dd pg off n : Int) (hdd : (Lit.int .i64 dd).wf = true) (hof : (Lit.int .i64 off).wf = true) (hnw : (Lit.int .i64 n).wf = true) (bv : Value) (ys : List Int) (w : World) (hy : RdV (Value.int .u8) 0 (fun i => i < w.heap.size) w bv ys) (hyo : Oct ys) (hk : around dd 10 = 9) : Calls Try.prog 10 #[s.v, .agg #[.int .i64 dd, .int .i64 pg, .int .i64 off, .int .i64 n, bv]] w fun e w' => e = .returned (.tuple #[(doS (around dd 10) s pg off n ys).1.v, .string (strOfNums (doS (around dd 10) s pg off n ys).2.1), .int .i64 (doS (around dd 10) s pg off n ys).2.2]) ∧ Grow w w' := by
  obtain ⟨ab, cb, hbv⟩ := hy.shape
  subst hbv
  obtain ⟨u, d, r, p, q, bs⟩ := s
  obtain ⟨W0, hW0⟩ : ∃ W0, ((w.alloc (.cells #[.bool u, .bool d, .bool r, .int .i64 p, .int .i64 q, .string (strOfNums bs)] 30)).alloc (.cells #[.int .i64 dd, .int .i64 pg, .int .i64 off, .int .i64 n, .slice ab ys.length cb] 37)).alloc (.cells #[.bool false, .bool false, .bool false, .int .i64 0, .int .i64 0, .string ⟨#[]⟩] 30) = W0 := ⟨_, rfl⟩
  obtain ⟨X, hX⟩ : ∃ X, w.heap.size = X := ⟨_, rfl⟩
  have g0 : Grow w W0 := by rw [← hW0]; exact (((Grow.refl w).alloc _).alloc _).alloc _
  have V0 : VarAt W0 X [.bool u, .bool d, .bool r, .int .i64 p, .int .i64 q, .string (strOfNums bs)] := by rw [← hW0, ← hX]; exact ((VarAt.new w [.bool u, .bool d, .bool r, .int .i64 p, .int .i64 q, .string (strOfNums bs)] 30).old _).old _
  have O0 : VarAt W0 (X + 1) [.int .i64 dd, .int .i64 pg, .int .i64 off, .int .i64 n, .slice ab ys.length cb] := by rw [← hW0, ← hX]; exact (VarAt.new2 w _ [.int .i64 dd, .int .i64 pg, .int .i64 off, .int .i64 n, .slice ab ys.length cb] 37).old _
  have Z0 : VarAt W0 (X + 1 + 1) [.bool false, .bool false, .bool false, .int .i64 0, .int .i64 0, .string ⟨#[]⟩] := by rw [← hW0, ← hX]; exact VarAt.new3 w _ _ [.bool false, .bool false, .bool false, .int .i64 0, .int .i64 0, .string ⟨#[]⟩] 30
  have H0 : Hid (VarAt W0 X [.bool u, .bool d, .bool r, .int .i64 p, .int .i64 q, .string (strOfNums bs)] ∧ VarAt W0 (X + 1) [.int .i64 dd, .int .i64 pg, .int .i64 off, .int .i64 n, .slice ab ys.length cb] ∧ VarAt W0 (X + 1 + 1) [.bool false, .bool false, .bool false, .int .i64 0, .int .i64 0, .string ⟨#[]⟩] ∧ Grow w W0 ∧ w.heap.size = X) := ⟨V0, O0, Z0, g0, hX⟩
  have HY : Hid (RdV (Value.int .u8) 0 (fun i => i < W0.heap.size) W0 (.slice ab ys.length cb) ys) := (hy.mono (fun i hi _ => by have := g0.size; omega)).grow g0
  have r3 := around_any dd 10 W0 hdd (by omega) (by omega)
  rw [hk] at r3
  rw [hk, doS_zero _ _ _ _ _ rfl]
  have hc := rempty_any W0
  simp only [FS.v, FS.empty]
  obtain ⟨⟨x0, x1, x2, x3, x4, x5⟩, -⟩ := V0.six
  obtain ⟨o0, o1, o2, o3, o4⟩ := O0.fives
  clear V0 O0 Z0 g0 hy hk
  go_enter Try.func10, Try.ntmps10
  go_upto_region 1 with fail
  (try rw [hW0])
  (try rw [hX])
  clear hW0 hX
  go_wp2_with fail
  refine r3.mono ?_
  rintro e w0 ⟨rfl, rfl⟩
  clear r3
  go_wp2_with fail
  refine hc.mono ?_
  rintro e w1 ⟨rfl, g1⟩
  obtain ⟨⟨y0, y1, y2, y3, y4, y5⟩, f0, f1, f2, f3, f4, f5⟩ := (H0.out.2.2.1.grow g1).six
  have HF : Hid (VarAt (put6 w1 (X + 1 + 1) (.bool false) (.bool false) (.bool false) (.int .i64 0) (.int .i64 0) (.string (strOfNums z32))) (X + 1 + 1) [.bool false, .bool false, .bool false, .int .i64 0, .int .i64 0, .string (strOfNums z32)] ∧ Grow w (put6 w1 (X + 1 + 1) (.bool false) (.bool false) (.bool false) (.int .i64 0) (.int .i64 0) (.string (strOfNums z32)))) := ⟨(H0.out.2.2.1.grow g1).put6 _ _ _ _ _ _, UpdS.new (H0.out.2.2.2.1.trans g1) (upd_put6 _ _ _ _ _ _ _ _) (fun i hi => by have := H0.out.2.2.2.2; omega)⟩
  unfold put6 at HF
  clear hc x0 x1 x2 x3 x4 x5 o0 o1 o2 o3 o4
  go_wp2
  exact bodyPost_ret_by (results_cell_tmp2 rfl _ _ _ _ rfl (load_F _ _ _ _ _ _ _ _ HF.out.1)) rfl ⟨rfl, HF.out.2⟩

set_option maxRecDepth 8000 in
set_option maxHeartbeats 4000000 in
theorem rdo_0f (s : FS) (hs : s.Ok) (dd pg off n : Int) (hdd : (Lit.int .i64 dd).wf = true) (hof : (Lit.int .i64 off).wf = true) (hnw : (Lit.int .i64 n).wf = true) (bv : Value) (ys : List Int) (w : World) (hy : RdV (Value.int .u8) 0 (fun i => i < w.heap.size) w bv ys) (hyo : Oct ys) (hn5 : Int.tmod n 5 = 4) (hk : around dd 10 = 0) : Calls Try.prog 10 #[s.v, .agg #[.int .i64 dd, .int .i64 pg, .int .i64 off, .int .i64 n, bv]] w fun e w' => e = .returned (.tuple #[(doS (around dd 10) s pg off n ys).1.v, .string (strOfNums (doS (around dd 10) s pg off n ys).2.1), .int .i64 (doS (around dd 10) s pg off n ys).2.2]) ∧ Grow w w' := by
  obtain ⟨ab, cb, hbv⟩ := hy.shape
  subst hbv
  obtain ⟨u, d, r, p, q, bs⟩ := s
  obtain ⟨W0, hW0⟩ : ∃ W0, ((w.alloc (.cells #[.bool u, .bool d, .bool r, .int .i64 p, .int .i64 q, .string (strOfNums bs)] 30)).alloc (.cells #[.int .i64 dd, .int .i64 pg, .int .i64 off, .int .i64 n, .slice ab ys.length cb] 37)).alloc (.cells #[.bool false, .bool false, .bool false, .int .i64 0, .int .i64 0, .string ⟨#[]⟩] 30) = W0 := ⟨_, rfl⟩
  obtain ⟨X, hX⟩ : ∃ X, w.heap.size = X := ⟨_, rfl⟩
  have g0 : Grow w W0 := by rw [← hW0]; exact (((Grow.refl w).alloc _).alloc _).alloc _
  have V0 : VarAt W0 X [.bool u, .bool d, .bool r, .int .i64 p, .int .i64 q, .string (strOfNums bs)] := by rw [← hW0, ← hX]; exact ((VarAt.new w [.bool u, .bool d, .bool r, .int .i64 p, .int .i64 q, .string (strOfNums bs)] 30).old _).old _
  have O0 : VarAt W0 (X + 1) [.int .i64 dd, .int .i64 pg, .int .i64 off, .int .i64 n, .slice ab ys.length cb] := by rw [← hW0, ← hX]; exact (VarAt.new2 w _ [.int .i64 dd, .int .i64 pg, .int .i64 off, .int .i64 n, .slice ab ys.length cb] 37).old _
  have Z0 : VarAt W0 (X + 1 + 1) [.bool false, .bool false, .bool false, .int .i64 0, .int .i64 0, .string ⟨#[]⟩] := by rw [← hW0, ← hX]; exact VarAt.new3 w _ _ [.bool false, .bool false, .bool false, .int .i64 0, .int .i64 0, .string ⟨#[]⟩] 30
  have H0 : Hid (VarAt W0 X [.bool u, .bool d, .bool r, .int .i64 p, .int .i64 q, .string (strOfNums bs)] ∧ VarAt W0 (X + 1) [.int .i64 dd, .int .i64 pg, .int .i64 off, .int .i64 n, .slice ab ys.length cb] ∧ VarAt W0 (X + 1 + 1) [.bool false, .bool false, .bool false, .int .i64 0, .int .i64 0, .string ⟨#[]⟩] ∧ Grow w W0 ∧ w.heap.size = X) := ⟨V0, O0, Z0, g0, hX⟩
  have HY : Hid (RdV (Value.int .u8) 0 (fun i => i < W0.heap.size) W0 (.slice ab ys.length cb) ys) := (hy.mono (fun i hi _ => by have := g0.size; omega)).grow g0
  have r3 := around_any dd 10 W0 hdd (by omega) (by omega)
  rw [hk] at r3
  rw [hk, doS_load4 _ _ _ _ _ (by omega) hn5]
  have hfl := fill_any _ ys 32 32 _ W0 rfl HY.out.i (by omega)
  have hfw := fun w' (g : Grow W0 w') => fewB_any _ ys 40 40 _ w' rfl (HY.out.grow g).i (by omega)
  have hc := fun w' v t (hv : RdV (Value.int .u8) 0 t w' v (ys.take 40)) => rloadS_any ⟨u, d, r, p, q, bs⟩ hs w' pg v (ys.take 40) t hv
  generalize loadS ⟨u, d, r, p, q, bs⟩ pg (ys.take 40) = T at hc ⊢
  obtain ⟨⟨u', d', r', p', q', bs'⟩, E⟩ := T
  generalize ys.take 40 = A at hc hfw
  generalize fillL ys 32 = fs at hfl
  simp only [FS.v] at hc ⊢
  obtain ⟨⟨x0, x1, x2, x3, x4, x5⟩, -⟩ := V0.six
  obtain ⟨o0, o1, o2, o3, o4⟩ := O0.fives
  clear V0 O0 Z0 g0 hy hk
  obtain ⟨m5, hm5⟩ : ∃ m, Int.tmod n 5 = m := ⟨_, rfl⟩
  have hb5 := tmod5 n
  rw [hm5] at hn5 hb5
  go_enter Try.func10, Try.ntmps10
  go_upto_region 1 with fail
  (try rw [hW0])
  (try rw [hX])
  clear hW0 hX
  go_wp2_with fail
  refine r3.mono ?_
  rintro e w0 ⟨rfl, rfl⟩
  clear r3
  go_wp2_with fail
  refine hfl.mono ?_
  rintro e wf ⟨vf, rfl, of, gf⟩
  obtain ⟨af, cf, rfl⟩ := of.v.shape
  obtain ⟨⟨x0, x1, x2, x3, x4, x5⟩, -⟩ := (H0.out.1.grow gf).six
  obtain ⟨o0, o1, o2, o3, o4⟩ := (H0.out.2.1.grow gf).fives
  have hw := hfw wf gf
  subst hn5
  clear hfl of
  go_wp2_with fail
  refine hw.mono ?_
  rintro e wg ⟨vg, rfl, og, gg⟩
  obtain ⟨ag, cg, rfl⟩ := og.v.shape
  have hl := hc wg _ _ og.v.rd
  have g3 : Grow W0 wg := gf.trans gg
  obtain ⟨⟨x0, x1, x2, x3, x4, x5⟩, -⟩ := (H0.out.1.grow g3).six
  obtain ⟨o0, o1, o2, o3, o4⟩ := (H0.out.2.1.grow g3).fives
  clear hw og hfw hc
  go_wp2_with fail
  refine hl.mono ?_
  rintro e w1 ⟨rfl, gl⟩
  have g1 : Grow W0 w1 := g3.trans gl
  clear hl x0 x1 x2 x3 x4 x5 o0 o1 o2 o3 o4
  obtain ⟨W2, hW2⟩ : ∃ W2, w1.alloc (.cells #[.bool u', .bool d', .bool r', .int .i64 p', .int .i64 q', .string (strOfNums bs')] 30) = W2 := ⟨_, rfl⟩
  obtain ⟨M, hM⟩ : ∃ M, w1.heap.size = M := ⟨_, rfl⟩
  have V2 : VarAt W2 M [.bool u', .bool d', .bool r', .int .i64 p', .int .i64 q', .string (strOfNums bs')] := by rw [← hW2, ← hM]; exact VarAt.new w1 [.bool u', .bool d', .bool r', .int .i64 p', .int .i64 q', .string (strOfNums bs')] 30
  have g2 : Grow W0 W2 := by rw [← hW2]; exact g1.alloc _
  have Z2 := H0.out.2.2.1.grow g2
  have H2 : Hid (VarAt W2 M [.bool u', .bool d', .bool r', .int .i64 p', .int .i64 q', .string (strOfNums bs')] ∧ VarAt W2 (X + 1 + 1) [.bool false, .bool false, .bool false, .int .i64 0, .int .i64 0, .string ⟨#[]⟩] ∧ Grow w W2) := ⟨V2, Z2, H0.out.2.2.2.1.trans g2⟩
  clear V2 Z2 g2 g1
  go_upto_region 23 with fail
  (try rw [hW2])
  (try rw [hM])
  clear hW2 hM
  obtain ⟨⟨x0, x1, x2, x3, x4, x5⟩, -⟩ := H2.out.1.six
  obtain ⟨⟨y0, y1, y2, y3, y4, y5⟩, f0, f1, f2, f3, f4, f5⟩ := H2.out.2.1.six
  have HF : Hid (VarAt (put6 W2 (X + 1 + 1) (.bool u') (.bool d') (.bool r') (.int .i64 p') (.int .i64 q') (.string (strOfNums bs'))) (X + 1 + 1) [.bool u', .bool d', .bool r', .int .i64 p', .int .i64 q', .string (strOfNums bs')] ∧ Grow w (put6 W2 (X + 1 + 1) (.bool u') (.bool d') (.bool r') (.int .i64 p') (.int .i64 q') (.string (strOfNums bs')))) := ⟨H2.out.2.1.put6 _ _ _ _ _ _, UpdS.new H2.out.2.2 (upd_put6 _ _ _ _ _ _ _ _) (fun i hi => by have := H0.out.2.2.2.2; omega)⟩
  unfold put6 at HF
  go_wp2
  exact bodyPost_ret_by (results_cell_tmp2 rfl _ _ _ _ rfl (load_F _ _ _ _ _ _ _ _ HF.out.1)) rfl ⟨rfl, HF.out.2⟩

set_option maxRecDepth 8000 in
set_option maxHeartbeats 4000000 in
theorem rdo_0 (s : FS) (hs : s.Ok) (dd pg off n : Int) (hdd : (Lit.int .i64 dd).wf = true) (hof : (Lit.int .i64 off).wf = true) (hnw : (Lit.int .i64 n).wf = true) (bv : Value) (ys : List Int) (w : World) (hy : RdV (Value.int .u8) 0 (fun i => i < w.heap.size) w bv ys) (hyo : Oct ys) (hn5 : ¬ Int.tmod n 5 = 4) (hk : around dd 10 = 0) : Calls Try.prog 10 #[s.v, .agg #[.int .i64 dd, .int .i64 pg, .int .i64 off, .int .i64 n, bv]] w fun e w' => e = .returned (.tuple #[(doS (around dd 10) s pg off n ys).1.v, .string (strOfNums (doS (around dd 10) s pg off n ys).2.1), .int .i64 (doS (around dd 10) s pg off n ys).2.2]) ∧ Grow w w' := by
  obtain ⟨ab, cb, hbv⟩ := hy.shape
  subst hbv
  obtain ⟨u, d, r, p, q, bs⟩ := s
  obtain ⟨W0, hW0⟩ : ∃ W0, ((w.alloc (.cells #[.bool u, .bool d, .bool r, .int .i64 p, .int .i64 q, .string (strOfNums bs)] 30)).alloc (.cells #[.int .i64 dd, .int .i64 pg, .int .i64 off, .int .i64 n, .slice ab ys.length cb] 37)).alloc (.cells #[.bool false, .bool false, .bool false, .int .i64 0, .int .i64 0, .string ⟨#[]⟩] 30) = W0 := ⟨_, rfl⟩
  obtain ⟨X, hX⟩ : ∃ X, w.heap.size = X := ⟨_, rfl⟩
  have g0 : Grow w W0 := by rw [← hW0]; exact (((Grow.refl w).alloc _).alloc _).alloc _
  have V0 : VarAt W0 X [.bool u, .bool d, .bool r, .int .i64 p, .int .i64 q, .string (strOfNums bs)] := by rw [← hW0, ← hX]; exact ((VarAt.new w [.bool u, .bool d, .bool r, .int .i64 p, .int .i64 q, .string (strOfNums bs)] 30).old _).old _
  have O0 : VarAt W0 (X + 1) [.int .i64 dd, .int .i64 pg, .int .i64 off, .int .i64 n, .slice ab ys.length cb] := by rw [← hW0, ← hX]; exact (VarAt.new2 w _ [.int .i64 dd, .int .i64 pg, .int .i64 off, .int .i64 n, .slice ab ys.length cb] 37).old _
  have Z0 : VarAt W0 (X + 1 + 1) [.bool false, .bool false, .bool false, .int .i64 0, .int .i64 0, .string ⟨#[]⟩] := by rw [← hW0, ← hX]; exact VarAt.new3 w _ _ [.bool false, .bool false, .bool false, .int .i64 0, .int .i64 0, .string ⟨#[]⟩] 30
  have H0 : Hid (VarAt W0 X [.bool u, .bool d, .bool r, .int .i64 p, .int .i64 q, .string (strOfNums bs)] ∧ VarAt W0 (X + 1) [.int .i64 dd, .int .i64 pg, .int .i64 off, .int .i64 n, .slice ab ys.length cb] ∧ VarAt W0 (X + 1 + 1) [.bool false, .bool false, .bool false, .int .i64 0, .int .i64 0, .string ⟨#[]⟩] ∧ Grow w W0 ∧ w.heap.size = X) := ⟨V0, O0, Z0, g0, hX⟩
  have HY : Hid (RdV (Value.int .u8) 0 (fun i => i < W0.heap.size) W0 (.slice ab ys.length cb) ys) := (hy.mono (fun i hi _ => by have := g0.size; omega)).grow g0
  have r3 := around_any dd 10 W0 hdd (by omega) (by omega)
  rw [hk] at r3
  rw [hk, doS_load _ _ _ _ _ (by omega) hn5]
  have hfl := fill_any _ ys 32 32 _ W0 rfl HY.out.i (by omega)
  have hfw := fun w' (g : Grow W0 w') => fewB_any _ ys 40 40 _ w' rfl (HY.out.grow g).i (by omega)
  have hc := fun w' v t (hv : RdV (Value.int .u8) 0 t w' v (fillL ys 32)) => rloadS_any ⟨u, d, r, p, q, bs⟩ hs w' pg v (fillL ys 32) t hv
  generalize loadS ⟨u, d, r, p, q, bs⟩ pg (fillL ys 32) = T at hc ⊢
  obtain ⟨⟨u', d', r', p', q', bs'⟩, E⟩ := T
  generalize ys.take 40 = fs at hfw
  generalize fillL ys 32 = A at hc hfl
  simp only [FS.v] at hc ⊢
  obtain ⟨⟨x0, x1, x2, x3, x4, x5⟩, -⟩ := V0.six
  obtain ⟨o0, o1, o2, o3, o4⟩ := O0.fives
  clear V0 O0 Z0 g0 hy hk
  obtain ⟨m5, hm5⟩ : ∃ m, Int.tmod n 5 = m := ⟨_, rfl⟩
  have hb5 := tmod5 n
  rw [hm5] at hn5 hb5
  go_enter Try.func10, Try.ntmps10
  go_upto_region 1 with fail
  (try rw [hW0])
  (try rw [hX])
  clear hW0 hX
  go_wp2_with fail
  refine r3.mono ?_
  rintro e w0 ⟨rfl, rfl⟩
  clear r3
  go_wp2_with fail
  refine hfl.mono ?_
  rintro e wf ⟨vf, rfl, of, gf⟩
  obtain ⟨af, cf, rfl⟩ := of.v.shape
  obtain ⟨⟨x0, x1, x2, x3, x4, x5⟩, -⟩ := (H0.out.1.grow gf).six
  obtain ⟨o0, o1, o2, o3, o4⟩ := (H0.out.2.1.grow gf).fives
  have hl := hc wf _ _ of.v.rd
  have g3 : Grow W0 wf := gf
  have hne5 : ¬ Int.tmod n 5 = 4 := by rw [hm5]; exact hn5
  clear hfl of hfw hc
  go_wp2_with fail
  refine hl.mono ?_
  rintro e w1 ⟨rfl, gl⟩
  have g1 : Grow W0 w1 := g3.trans gl
  clear hl x0 x1 x2 x3 x4 x5 o0 o1 o2 o3 o4
  obtain ⟨W2, hW2⟩ : ∃ W2, w1.alloc (.cells #[.bool u', .bool d', .bool r', .int .i64 p', .int .i64 q', .string (strOfNums bs')] 30) = W2 := ⟨_, rfl⟩
  obtain ⟨M, hM⟩ : ∃ M, w1.heap.size = M := ⟨_, rfl⟩
  have V2 : VarAt W2 M [.bool u', .bool d', .bool r', .int .i64 p', .int .i64 q', .string (strOfNums bs')] := by rw [← hW2, ← hM]; exact VarAt.new w1 [.bool u', .bool d', .bool r', .int .i64 p', .int .i64 q', .string (strOfNums bs')] 30
  have g2 : Grow W0 W2 := by rw [← hW2]; exact g1.alloc _
  have Z2 := H0.out.2.2.1.grow g2
  have H2 : Hid (VarAt W2 M [.bool u', .bool d', .bool r', .int .i64 p', .int .i64 q', .string (strOfNums bs')] ∧ VarAt W2 (X + 1 + 1) [.bool false, .bool false, .bool false, .int .i64 0, .int .i64 0, .string ⟨#[]⟩] ∧ Grow w W2) := ⟨V2, Z2, H0.out.2.2.2.1.trans g2⟩
  clear V2 Z2 g2 g1
  go_upto_region 23 with fail
  (try rw [hW2])
  (try rw [hM])
  clear hW2 hM
  obtain ⟨⟨x0, x1, x2, x3, x4, x5⟩, -⟩ := H2.out.1.six
  obtain ⟨⟨y0, y1, y2, y3, y4, y5⟩, f0, f1, f2, f3, f4, f5⟩ := H2.out.2.1.six
  have HF : Hid (VarAt (put6 W2 (X + 1 + 1) (.bool u') (.bool d') (.bool r') (.int .i64 p') (.int .i64 q') (.string (strOfNums bs'))) (X + 1 + 1) [.bool u', .bool d', .bool r', .int .i64 p', .int .i64 q', .string (strOfNums bs')] ∧ Grow w (put6 W2 (X + 1 + 1) (.bool u') (.bool d') (.bool r') (.int .i64 p') (.int .i64 q') (.string (strOfNums bs')))) := ⟨H2.out.2.1.put6 _ _ _ _ _ _, UpdS.new H2.out.2.2 (upd_put6 _ _ _ _ _ _ _ _) (fun i hi => by have := H0.out.2.2.2.2; omega)⟩
  unfold put6 at HF
  go_wp2
  exact bodyPost_ret_by (results_cell_tmp2 rfl _ _ _ _ rfl (load_F _ _ _ _ _ _ _ _ HF.out.1)) rfl ⟨rfl, HF.out.2⟩

set_option maxRecDepth 8000 in
set_option maxHeartbeats 4000000 in
theorem rdo_1f (s : FS) (hs : s.Ok) (dd pg off n : Int) (hdd : (Lit.int .i64 dd).wf = true) (hof : (Lit.int .i64 off).wf = true) (hnw : (Lit.int .i64 n).wf = true) (bv : Value) (ys : List Int) (w : World) (hy : RdV (Value.int .u8) 0 (fun i => i < w.heap.size) w bv ys) (hyo : Oct ys) (hn5 : Int.tmod n 5 = 4) (hk : around dd 10 = 1) : Calls Try.prog 10 #[s.v, .agg #[.int .i64 dd, .int .i64 pg, .int .i64 off, .int .i64 n, bv]] w fun e w' => e = .returned (.tuple #[(doS (around dd 10) s pg off n ys).1.v, .string (strOfNums (doS (around dd 10) s pg off n ys).2.1), .int .i64 (doS (around dd 10) s pg off n ys).2.2]) ∧ Grow w w' := by
  obtain ⟨ab, cb, hbv⟩ := hy.shape
  subst hbv
  obtain ⟨u, d, r, p, q, bs⟩ := s
  obtain ⟨W0, hW0⟩ : ∃ W0, ((w.alloc (.cells #[.bool u, .bool d, .bool r, .int .i64 p, .int .i64 q, .string (strOfNums bs)] 30)).alloc (.cells #[.int .i64 dd, .int .i64 pg, .int .i64 off, .int .i64 n, .slice ab ys.length cb] 37)).alloc (.cells #[.bool false, .bool false, .bool false, .int .i64 0, .int .i64 0, .string ⟨#[]⟩] 30) = W0 := ⟨_, rfl⟩
  obtain ⟨X, hX⟩ : ∃ X, w.heap.size = X := ⟨_, rfl⟩
  have g0 : Grow w W0 := by rw [← hW0]; exact (((Grow.refl w).alloc _).alloc _).alloc _
  have V0 : VarAt W0 X [.bool u, .bool d, .bool r, .int .i64 p, .int .i64 q, .string (strOfNums bs)] := by rw [← hW0, ← hX]; exact ((VarAt.new w [.bool u, .bool d, .bool r, .int .i64 p, .int .i64 q, .string (strOfNums bs)] 30).old _).old _
  have O0 : VarAt W0 (X + 1) [.int .i64 dd, .int .i64 pg, .int .i64 off, .int .i64 n, .slice ab ys.length cb] := by rw [← hW0, ← hX]; exact (VarAt.new2 w _ [.int .i64 dd, .int .i64 pg, .int .i64 off, .int .i64 n, .slice ab ys.length cb] 37).old _
  have Z0 : VarAt W0 (X + 1 + 1) [.bool false, .bool false, .bool false, .int .i64 0, .int .i64 0, .string ⟨#[]⟩] := by rw [← hW0, ← hX]; exact VarAt.new3 w _ _ [.bool false, .bool false, .bool false, .int .i64 0, .int .i64 0, .string ⟨#[]⟩] 30
  have H0 : Hid (VarAt W0 X [.bool u, .bool d, .bool r, .int .i64 p, .int .i64 q, .string (strOfNums bs)] ∧ VarAt W0 (X + 1) [.int .i64 dd, .int .i64 pg, .int .i64 off, .int .i64 n, .slice ab ys.length cb] ∧ VarAt W0 (X + 1 + 1) [.bool false, .bool false, .bool false, .int .i64 0, .int .i64 0, .string ⟨#[]⟩] ∧ Grow w W0 ∧ w.heap.size = X) := ⟨V0, O0, Z0, g0, hX⟩
  have HY : Hid (RdV (Value.int .u8) 0 (fun i => i < W0.heap.size) W0 (.slice ab ys.length cb) ys) := (hy.mono (fun i hi _ => by have := g0.size; omega)).grow g0
  have r3 := around_any dd 10 W0 hdd (by omega) (by omega)
  rw [hk] at r3
  rw [hk, doS_load4 _ _ _ _ _ (by omega) hn5]
  have hfl := fill_any _ ys 32 32 _ W0 rfl HY.out.i (by omega)
  have hfw := fun w' (g : Grow W0 w') => fewB_any _ ys 40 40 _ w' rfl (HY.out.grow g).i (by omega)
  have hc := fun w' v t (hv : RdV (Value.int .u8) 0 t w' v (ys.take 40)) => rloadS_any ⟨u, d, r, p, q, bs⟩ hs w' pg v (ys.take 40) t hv
  generalize loadS ⟨u, d, r, p, q, bs⟩ pg (ys.take 40) = T at hc ⊢
  obtain ⟨⟨u', d', r', p', q', bs'⟩, E⟩ := T
  generalize ys.take 40 = A at hc hfw
  generalize fillL ys 32 = fs at hfl
  simp only [FS.v] at hc ⊢
  obtain ⟨⟨x0, x1, x2, x3, x4, x5⟩, -⟩ := V0.six
  obtain ⟨o0, o1, o2, o3, o4⟩ := O0.fives
  clear V0 O0 Z0 g0 hy hk
  obtain ⟨m5, hm5⟩ : ∃ m, Int.tmod n 5 = m := ⟨_, rfl⟩
  have hb5 := tmod5 n
  rw [hm5] at hn5 hb5
  go_enter Try.func10, Try.ntmps10
  go_upto_region 1 with fail
  (try rw [hW0])
  (try rw [hX])
  clear hW0 hX
  go_wp2_with fail
  refine r3.mono ?_
  rintro e w0 ⟨rfl, rfl⟩
  clear r3
  go_wp2_with fail
  refine hfl.mono ?_
  rintro e wf ⟨vf, rfl, of, gf⟩
  obtain ⟨af, cf, rfl⟩ := of.v.shape
  obtain ⟨⟨x0, x1, x2, x3, x4, x5⟩, -⟩ := (H0.out.1.grow gf).six
  obtain ⟨o0, o1, o2, o3, o4⟩ := (H0.out.2.1.grow gf).fives
  have hw := hfw wf gf
  subst hn5
  clear hfl of
  go_wp2_with fail
  refine hw.mono ?_
  rintro e wg ⟨vg, rfl, og, gg⟩
  obtain ⟨ag, cg, rfl⟩ := og.v.shape
  have hl := hc wg _ _ og.v.rd
  have g3 : Grow W0 wg := gf.trans gg
  obtain ⟨⟨x0, x1, x2, x3, x4, x5⟩, -⟩ := (H0.out.1.grow g3).six
  obtain ⟨o0, o1, o2, o3, o4⟩ := (H0.out.2.1.grow g3).fives
  clear hw og hfw hc
  go_wp2_with fail
  refine hl.mono ?_
  rintro e w1 ⟨rfl, gl⟩
  have g1 : Grow W0 w1 := g3.trans gl
  clear hl x0 x1 x2 x3 x4 x5 o0 o1 o2 o3 o4
  obtain ⟨W2, hW2⟩ : ∃ W2, w1.alloc (.cells #[.bool u', .bool d', .bool r', .int .i64 p', .int .i64 q', .string (strOfNums bs')] 30) = W2 := ⟨_, rfl⟩
  obtain ⟨M, hM⟩ : ∃ M, w1.heap.size = M := ⟨_, rfl⟩
  have V2 : VarAt W2 M [.bool u', .bool d', .bool r', .int .i64 p', .int .i64 q', .string (strOfNums bs')] := by rw [← hW2, ← hM]; exact VarAt.new w1 [.bool u', .bool d', .bool r', .int .i64 p', .int .i64 q', .string (strOfNums bs')] 30
  have g2 : Grow W0 W2 := by rw [← hW2]; exact g1.alloc _
  have Z2 := H0.out.2.2.1.grow g2
  have H2 : Hid (VarAt W2 M [.bool u', .bool d', .bool r', .int .i64 p', .int .i64 q', .string (strOfNums bs')] ∧ VarAt W2 (X + 1 + 1) [.bool false, .bool false, .bool false, .int .i64 0, .int .i64 0, .string ⟨#[]⟩] ∧ Grow w W2) := ⟨V2, Z2, H0.out.2.2.2.1.trans g2⟩
  clear V2 Z2 g2 g1
  go_upto_region 23 with fail
  (try rw [hW2])
  (try rw [hM])
  clear hW2 hM
  obtain ⟨⟨x0, x1, x2, x3, x4, x5⟩, -⟩ := H2.out.1.six
  obtain ⟨⟨y0, y1, y2, y3, y4, y5⟩, f0, f1, f2, f3, f4, f5⟩ := H2.out.2.1.six
  have HF : Hid (VarAt (put6 W2 (X + 1 + 1) (.bool u') (.bool d') (.bool r') (.int .i64 p') (.int .i64 q') (.string (strOfNums bs'))) (X + 1 + 1) [.bool u', .bool d', .bool r', .int .i64 p', .int .i64 q', .string (strOfNums bs')] ∧ Grow w (put6 W2 (X + 1 + 1) (.bool u') (.bool d') (.bool r') (.int .i64 p') (.int .i64 q') (.string (strOfNums bs')))) := ⟨H2.out.2.1.put6 _ _ _ _ _ _, UpdS.new H2.out.2.2 (upd_put6 _ _ _ _ _ _ _ _) (fun i hi => by have := H0.out.2.2.2.2; omega)⟩
  unfold put6 at HF
  go_wp2
  exact bodyPost_ret_by (results_cell_tmp2 rfl _ _ _ _ rfl (load_F _ _ _ _ _ _ _ _ HF.out.1)) rfl ⟨rfl, HF.out.2⟩

set_option maxRecDepth 8000 in
set_option maxHeartbeats 4000000 in
theorem rdo_1 (s : FS) (hs : s.Ok) (dd pg off n : Int) (hdd : (Lit.int .i64 dd).wf = true) (hof : (Lit.int .i64 off).wf = true) (hnw : (Lit.int .i64 n).wf = true) (bv : Value) (ys : List Int) (w : World) (hy : RdV (Value.int .u8) 0 (fun i => i < w.heap.size) w bv ys) (hyo : Oct ys) (hn5 : ¬ Int.tmod n 5 = 4) (hk : around dd 10 = 1) : Calls Try.prog 10 #[s.v, .agg #[.int .i64 dd, .int .i64 pg, .int .i64 off, .int .i64 n, bv]] w fun e w' => e = .returned (.tuple #[(doS (around dd 10) s pg off n ys).1.v, .string (strOfNums (doS (around dd 10) s pg off n ys).2.1), .int .i64 (doS (around dd 10) s pg off n ys).2.2]) ∧ Grow w w' := by
  obtain ⟨ab, cb, hbv⟩ := hy.shape
  subst hbv
  obtain ⟨u, d, r, p, q, bs⟩ := s
  obtain ⟨W0, hW0⟩ : ∃ W0, ((w.alloc (.cells #[.bool u, .bool d, .bool r, .int .i64 p, .int .i64 q, .string (strOfNums bs)] 30)).alloc (.cells #[.int .i64 dd, .int .i64 pg, .int .i64 off, .int .i64 n, .slice ab ys.length cb] 37)).alloc (.cells #[.bool false, .bool false, .bool false, .int .i64 0, .int .i64 0, .string ⟨#[]⟩] 30) = W0 := ⟨_, rfl⟩
  obtain ⟨X, hX⟩ : ∃ X, w.heap.size = X := ⟨_, rfl⟩
  have g0 : Grow w W0 := by rw [← hW0]; exact (((Grow.refl w).alloc _).alloc _).alloc _
  have V0 : VarAt W0 X [.bool u, .bool d, .bool r, .int .i64 p, .int .i64 q, .string (strOfNums bs)] := by rw [← hW0, ← hX]; exact ((VarAt.new w [.bool u, .bool d, .bool r, .int .i64 p, .int .i64 q, .string (strOfNums bs)] 30).old _).old _
  have O0 : VarAt W0 (X + 1) [.int .i64 dd, .int .i64 pg, .int .i64 off, .int .i64 n, .slice ab ys.length cb] := by rw [← hW0, ← hX]; exact (VarAt.new2 w _ [.int .i64 dd, .int .i64 pg, .int .i64 off, .int .i64 n, .slice ab ys.length cb] 37).old _
  have Z0 : VarAt W0 (X + 1 + 1) [.bool false, .bool false, .bool false, .int .i64 0, .int .i64 0, .string ⟨#[]⟩] := by rw [← hW0, ← hX]; exact VarAt.new3 w _ _ [.bool false, .bool false, .bool false, .int .i64 0, .int .i64 0, .string ⟨#[]⟩] 30
  have H0 : Hid (VarAt W0 X [.bool u, .bool d, .bool r, .int .i64 p, .int .i64 q, .string (strOfNums bs)] ∧ VarAt W0 (X + 1) [.int .i64 dd, .int .i64 pg, .int .i64 off, .int .i64 n, .slice ab ys.length cb] ∧ VarAt W0 (X + 1 + 1) [.bool false, .bool false, .bool false, .int .i64 0, .int .i64 0, .string ⟨#[]⟩] ∧ Grow w W0 ∧ w.heap.size = X) := ⟨V0, O0, Z0, g0, hX⟩
  have HY : Hid (RdV (Value.int .u8) 0 (fun i => i < W0.heap.size) W0 (.slice ab ys.length cb) ys) := (hy.mono (fun i hi _ => by have := g0.size; omega)).grow g0
  have r3 := around_any dd 10 W0 hdd (by omega) (by omega)
  rw [hk] at r3
  rw [hk, doS_load _ _ _ _ _ (by omega) hn5]
  have hfl := fill_any _ ys 32 32 _ W0 rfl HY.out.i (by omega)
  have hfw := fun w' (g : Grow W0 w') => fewB_any _ ys 40 40 _ w' rfl (HY.out.grow g).i (by omega)
  have hc := fun w' v t (hv : RdV (Value.int .u8) 0 t w' v (fillL ys 32)) => rloadS_any ⟨u, d, r, p, q, bs⟩ hs w' pg v (fillL ys 32) t hv
  generalize loadS ⟨u, d, r, p, q, bs⟩ pg (fillL ys 32) = T at hc ⊢
  obtain ⟨⟨u', d', r', p', q', bs'⟩, E⟩ := T
  generalize ys.take 40 = fs at hfw
  generalize fillL ys 32 = A at hc hfl
  simp only [FS.v] at hc ⊢
  obtain ⟨⟨x0, x1, x2, x3, x4, x5⟩, -⟩ := V0.six
  obtain ⟨o0, o1, o2, o3, o4⟩ := O0.fives
  clear V0 O0 Z0 g0 hy hk
  obtain ⟨m5, hm5⟩ : ∃ m, Int.tmod n 5 = m := ⟨_, rfl⟩
  have hb5 := tmod5 n
  rw [hm5] at hn5 hb5
  go_enter Try.func10, Try.ntmps10
  go_upto_region 1 with fail
  (try rw [hW0])
  (try rw [hX])
  clear hW0 hX
  go_wp2_with fail
  refine r3.mono ?_
  rintro e w0 ⟨rfl, rfl⟩
  clear r3
  go_wp2_with fail
  refine hfl.mono ?_
  rintro e wf ⟨vf, rfl, of, gf⟩
  obtain ⟨af, cf, rfl⟩ := of.v.shape
  obtain ⟨⟨x0, x1, x2, x3, x4, x5⟩, -⟩ := (H0.out.1.grow gf).six
  obtain ⟨o0, o1, o2, o3, o4⟩ := (H0.out.2.1.grow gf).fives
  have hl := hc wf _ _ of.v.rd
  have g3 : Grow W0 wf := gf
  have hne5 : ¬ Int.tmod n 5 = 4 := by rw [hm5]; exact hn5
  clear hfl of hfw hc
  go_wp2_with fail
  refine hl.mono ?_
  rintro e w1 ⟨rfl, gl⟩
  have g1 : Grow W0 w1 := g3.trans gl
  clear hl x0 x1 x2 x3 x4 x5 o0 o1 o2 o3 o4
  obtain ⟨W2, hW2⟩ : ∃ W2, w1.alloc (.cells #[.bool u', .bool d', .bool r', .int .i64 p', .int .i64 q', .string (strOfNums bs')] 30) = W2 := ⟨_, rfl⟩
  obtain ⟨M, hM⟩ : ∃ M, w1.heap.size = M := ⟨_, rfl⟩
  have V2 : VarAt W2 M [.bool u', .bool d', .bool r', .int .i64 p', .int .i64 q', .string (strOfNums bs')] := by rw [← hW2, ← hM]; exact VarAt.new w1 [.bool u', .bool d', .bool r', .int .i64 p', .int .i64 q', .string (strOfNums bs')] 30
  have g2 : Grow W0 W2 := by rw [← hW2]; exact g1.alloc _
  have Z2 := H0.out.2.2.1.grow g2
  have H2 : Hid (VarAt W2 M [.bool u', .bool d', .bool r', .int .i64 p', .int .i64 q', .string (strOfNums bs')] ∧ VarAt W2 (X + 1 + 1) [.bool false, .bool false, .bool false, .int .i64 0, .int .i64 0, .string ⟨#[]⟩] ∧ Grow w W2) := ⟨V2, Z2, H0.out.2.2.2.1.trans g2⟩
  clear V2 Z2 g2 g1
  go_upto_region 23 with fail
  (try rw [hW2])
  (try rw [hM])
  clear hW2 hM
  obtain ⟨⟨x0, x1, x2, x3, x4, x5⟩, -⟩ := H2.out.1.six
  obtain ⟨⟨y0, y1, y2, y3, y4, y5⟩, f0, f1, f2, f3, f4, f5⟩ := H2.out.2.1.six
  have HF : Hid (VarAt (put6 W2 (X + 1 + 1) (.bool u') (.bool d') (.bool r') (.int .i64 p') (.int .i64 q') (.string (strOfNums bs'))) (X + 1 + 1) [.bool u', .bool d', .bool r', .int .i64 p', .int .i64 q', .string (strOfNums bs')] ∧ Grow w (put6 W2 (X + 1 + 1) (.bool u') (.bool d') (.bool r') (.int .i64 p') (.int .i64 q') (.string (strOfNums bs')))) := ⟨H2.out.2.1.put6 _ _ _ _ _ _, UpdS.new H2.out.2.2 (upd_put6 _ _ _ _ _ _ _ _) (fun i hi => by have := H0.out.2.2.2.2; omega)⟩
  unfold put6 at HF
  go_wp2
  exact bodyPost_ret_by (results_cell_tmp2 rfl _ _ _ _ rfl (load_F _ _ _ _ _ _ _ _ HF.out.1)) rfl ⟨rfl, HF.out.2⟩

end Go.Proofs.Ytcmehefaceaioaa
