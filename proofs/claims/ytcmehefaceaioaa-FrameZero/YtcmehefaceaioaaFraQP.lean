/-
  The walk of the document's Do: Put. Conditions: each theorem's own.
-/
import Derived.Test.YtcmehefaceaioaaFraQ
namespace Go.Proofs.Ytcmehefaceaioaa
open Go.RowKit
set_option linter.unusedVariables false
set_option linter.unusedSimpArgs false

set_option maxRecDepth 8000 in
set_option maxHeartbeats 4000000 in
theorem rdo_7 (s : FS) (hs : s.Ok) (dd pg off n : Int) (hdd : (Lit.int .i64 dd).wf = true) (hof : (Lit.int .i64 off).wf = true) (hnw : (Lit.int .i64 n).wf = true) (bv : Value) (ys : List Int) (w : World) (hy : RdV (Value.int .u8) 0 (fun i => i < w.heap.size) w bv ys) (hyo : Oct ys) (hk : around dd 10 = 7) : Calls Try.prog 10 #[s.v, .agg #[.int .i64 dd, .int .i64 pg, .int .i64 off, .int .i64 n, bv]] w fun e w' => e = .returned (.tuple #[(doS (around dd 10) s pg off n ys).1.v, .string (strOfNums (doS (around dd 10) s pg off n ys).2.1), .int .i64 (doS (around dd 10) s pg off n ys).2.2]) ∧ Grow w w' := by
  obtain ⟨ab, cb, hbv⟩ := hy.shape
  subst hbv
  obtain ⟨u, d, r, p, q, bs⟩ := s
  obtain ⟨W0, hW0⟩ : ∃ W0, ((w.alloc (.cells #[.bool u, .bool d, .bool r, .int .i64 p, .int .i64 q, .string (strOfNums bs)] 30)).alloc (.cells #[.int .i64 dd, .int .i64 pg, .int .i64 off, .int .i64 n, .slice ab ys.length cb] 37)).alloc (.cells #[.bool false, .bool false, .bool false, .int .i64 0, .int .i64 0, .string ⟨#[]⟩] 30) = W0 := ⟨_, rfl⟩
  obtain ⟨X, hX⟩ : ∃ X, w.heap.size = X := ⟨_, rfl⟩
  have g0 : Grow w W0 := by rw [← hW0]; exact (((Grow.refl w).alloc _).alloc _).alloc _
  have V0 : VarAt W0 X [.bool u, .bool d, .bool r, .int .i64 p, .int .i64 q, .string (strOfNums bs)] := by rw [← hW0, ← hX]; exact ((VarAt.new w [.bool u, .bool d, .bool r, .int .i64 p, .int .i64 q, .string (strOfNums bs)] 30).old _).old _
  have O0 : VarAt W0 (X + 1) [.int .i64 dd, .int .i64 pg, .int .i64 off, .int .i64 n, .slice ab ys.length cb] := by rw [← hW0, ← hX]; exact (VarAt.new2 w _ [.int .i64 dd, .int .i64 pg, .int .i64 off, .int .i64 n, .slice ab ys.length cb] 37).old _
  have Z0 : VarAt W0 (X + 1 + 1) [.bool false, .bool false, .bool false, .int .i64 0, .int .i64 0, .string ⟨#[]⟩] := by rw [← hW0, ← hX]; exact VarAt.new3 w _ _ [.bool false, .bool false, .bool false, .int .i64 0, .int .i64 0, .string ⟨#[]⟩] 30
  have H0 : Hid (VarAt W0 X [.bool u, .bool d, .bool r, .int .i64 p, .int .i64 q, .string (strOfNums bs)] ∧ VarAt W0 (X + 1) [.int .i64 dd, .int .i64 pg, .int .i64 off, .int .i64 n, .slice ab ys.length cb] ∧ VarAt W0 (X + 1 + 1) [.bool false, .bool false, .bool false, .int .i64 0, .int .i64 0, .string ⟨#[]⟩] ∧ Grow w W0 ∧ w.heap.size = X) := ⟨V0, O0, Z0, g0, hX⟩
  have HY : Hid (RdV (Value.int .u8) 0 (fun i => i < W0.heap.size) W0 (.slice ab ys.length cb) ys) := (hy.mono (fun i hi _ => by have := g0.size; omega)).grow g0
  have r3 := around_any dd 10 W0 hdd (by omega) (by omega)
  rw [hk] at r3
  rw [hk, doS_put _ _ _ _ _ (by omega)]
  have hfw := fun w' (g : Grow W0 w') => fewB_any _ ys 40 40 _ w' rfl (HY.out.grow g).i (by omega)
  have hc := fun w' v t (hv : RdV (Value.int .u8) 0 t w' v (ys.take 40)) => rputS_any ⟨u, d, r, p, q, bs⟩ hs w' off v (ys.take 40) t hv hof
  generalize putS ⟨u, d, r, p, q, bs⟩ off (ys.take 40) = T at hc ⊢
  obtain ⟨⟨u', d', r', p', q', bs'⟩, E⟩ := T
  generalize ys.take 40 = A at hc hfw
  simp only [FS.v] at hc ⊢
  obtain ⟨⟨x0, x1, x2, x3, x4, x5⟩, -⟩ := V0.six
  obtain ⟨o0, o1, o2, o3, o4⟩ := O0.fives
  clear V0 O0 Z0 g0 hy hk
  go_enter Try.func10, Try.ntmps10
  go_upto_region 1 with fail
  (try rw [hW0])
  (try rw [hX])
  clear hW0 hX
  go_wp2_with fail
  refine r3.mono ?_
  rintro e w0 ⟨rfl, rfl⟩
  clear r3
  have gd : Grow W0 W0.drew := (Grow.refl W0).drew
  have fx : ∀ w', UpdS (fun i => W0.heap.size ≤ i) W0.drew w' → ((w'.cell? ⟨X, 0, none⟩ = some (.bool u) ∧ w'.cell? ⟨X, 1, none⟩ = some (.bool d) ∧ w'.cell? ⟨X, 2, none⟩ = some (.bool r) ∧ w'.cell? ⟨X, 3, none⟩ = some (.int .i64 p) ∧ w'.cell? ⟨X, 4, none⟩ = some (.int .i64 q) ∧ w'.cell? ⟨X, 5, none⟩ = some (.string (strOfNums bs))) ∧ w'.cell? ⟨X + 1, 0, none⟩ = some (.int .i64 dd) ∧ w'.cell? ⟨X + 1, 1, none⟩ = some (.int .i64 pg) ∧ w'.cell? ⟨X + 1, 2, none⟩ = some (.int .i64 off) ∧ w'.cell? ⟨X + 1, 3, none⟩ = some (.int .i64 n) ∧ w'.cell? ⟨X + 1, 4, none⟩ = some (.slice ab ys.length cb)) := fun w' g =>
    ⟨((H0.out.1.grow gd).upd g (by have := H0.out.1.lt; omega)).six.1, ((H0.out.2.1.grow gd).upd g (by have := H0.out.2.1.lt; omega)).fives⟩
  go_wp2
  refine wp_region_treeG (UpdS (fun i => W0.heap.size ≤ i)) (UpdS.refl _) (fun _ _ _ => UpdS.trans) (by kernel_rfl) (.read 0 (.read 1 (.read 2 (.read 3 (.read 4 (.fork 5 (.fork 6 (.read 7 (.read 8 (.read 9 (.act 10 (.act 11 (.read 12 .done)))))) 10 (.act 6 (.read 7 (.read 8 (.read 9 (.act 11 (.read 12 .done))))))) 10 (.act 5 (.act 6 (.read 7 (.read 8 (.read 9 (.act 11 (.read 12 .done))))))))))))) (by kernel_rfl) (by kernel_rfl) rfl (fun _ _ d _ _ h => by cases d <;> exact h) ?_
  simp only [Tr.over, List.getElem?_toArray, List.getElem?_cons_zero, List.getElem?_cons_succ]
  repeat (first
    | (refine wpT_move rfl ?_; simp only [Act.eval, Act.put, Array.getD_eq_getD_getElem?, List.getElem?_toArray, List.getElem?_cons_zero, List.getElem?_cons_succ, Option.getD_some, List.setIfInBounds_toArray, List.set_cons_zero, List.set_cons_succ])
    | (refine wpT_assign rfl ?_; simp only [Act.eval, Act.put, Array.getD_eq_getD_getElem?, List.getElem?_toArray, List.getElem?_cons_zero, List.getElem?_cons_succ, Option.getD_some, List.setIfInBounds_toArray, List.set_cons_zero, List.set_cons_succ])
    | (refine wpT_read (v := ?_) rfl ?_ ?_; rotate_left; (focus (intro w' hG; obtain ⟨⟨q0, q1, q2, q3, q4, q5⟩, p0, p1, p2, p3, p4⟩ := fx w' hG; go_simp; try (with_reducible rfl))); simp only [Act.put, List.setIfInBounds_toArray, List.set_cons_zero, List.set_cons_succ])
    | (refine wpT_skip rfl ?_; simp only [Act.put, List.setIfInBounds_toArray, List.set_cons_zero, List.set_cons_succ]))
  clear x0 x1 x2 x3 x4 x5 o0 o1 o2 o3 o4
  refine wpT_fork ?_ ?_
  · skip
    have hq1 := hfw W0.drew gd
    refine wpT_call (f := ?_) (args := ?_) (by rfl) ?_ ?_
    rotate_left 2; focus (go_simp; constructor <;> with_reducible rfl)
    refine (hq1).mono ?_
    rintro e w1 ⟨v1, rfl, og1, gg1⟩
    refine ⟨_, rfl, Grow.s gg1, ?_⟩
    simp only [Act.put, List.setIfInBounds_toArray, List.set_cons_zero, List.set_cons_succ]
    have gA1 : Grow W0 w1 := gd.trans gg1
    obtain ⟨ag, cg, rfl⟩ := og1.v.shape
    have rv1 := og1.v.rd
    repeat (first
      | (refine wpT_move rfl ?_; simp only [Act.eval, Act.put, Array.getD_eq_getD_getElem?, List.getElem?_toArray, List.getElem?_cons_zero, List.getElem?_cons_succ, Option.getD_some, List.setIfInBounds_toArray, List.set_cons_zero, List.set_cons_succ])
      | (refine wpT_assign rfl ?_; simp only [Act.eval, Act.put, Array.getD_eq_getD_getElem?, List.getElem?_toArray, List.getElem?_cons_zero, List.getElem?_cons_succ, Option.getD_some, List.setIfInBounds_toArray, List.set_cons_zero, List.set_cons_succ])
      | (refine wpT_read (v := ?_) rfl ?_ ?_; rotate_left; (focus (intro w' hG; skip; go_simp; try (with_reducible rfl))); simp only [Act.put, List.setIfInBounds_toArray, List.set_cons_zero, List.set_cons_succ])
      | (refine wpT_skip rfl ?_; simp only [Act.put, List.setIfInBounds_toArray, List.set_cons_zero, List.set_cons_succ]))
    refine wpT_fork ?_ ?_
    · skip
      have hq2 := hc w1 _ _ rv1
      refine wpT_call (f := ?_) (args := ?_) (by rfl) ?_ ?_
      rotate_left 2; focus (go_simp; constructor <;> with_reducible rfl)
      refine (hq2).mono ?_
      rintro e w2 ⟨rfl, gg2⟩
      refine ⟨_, rfl, Grow.s gg2, ?_⟩
      simp only [Act.put, List.setIfInBounds_toArray, List.set_cons_zero, List.set_cons_succ]
      have gA2 : Grow W0 w2 := gA1.trans gg2
      repeat (first
        | (refine wpT_move rfl ?_; simp only [Act.eval, Act.put, Array.getD_eq_getD_getElem?, List.getElem?_toArray, List.getElem?_cons_zero, List.getElem?_cons_succ, Option.getD_some, List.setIfInBounds_toArray, List.set_cons_zero, List.set_cons_succ])
        | (refine wpT_assign rfl ?_; simp only [Act.eval, Act.put, Array.getD_eq_getD_getElem?, List.getElem?_toArray, List.getElem?_cons_zero, List.getElem?_cons_succ, Option.getD_some, List.setIfInBounds_toArray, List.set_cons_zero, List.set_cons_succ])
        | (refine wpT_read (v := ?_) rfl ?_ ?_; rotate_left; (focus (intro w' hG; skip; go_simp; try (with_reducible rfl))); simp only [Act.put, List.setIfInBounds_toArray, List.set_cons_zero, List.set_cons_succ])
        | (refine wpT_skip rfl ?_; simp only [Act.put, List.setIfInBounds_toArray, List.set_cons_zero, List.set_cons_succ]))
      refine wpT_act (by rfl) (exec_allocF #[.bool false, .bool false, .bool false, .int .i64 0, .int .i64 0, .string ⟨#[]⟩] zeroRF) (Grow.s ((Grow.refl _).alloc _)) ?_
      simp only [Act.put, List.setIfInBounds_toArray, List.set_cons_zero, List.set_cons_succ]
      have VV3 := VarAt.new w2 [.bool false, .bool false, .bool false, .int .i64 0, .int .i64 0, .string ⟨#[]⟩] 30
      have gg3 : Grow w2 (w2.alloc (.cells #[.bool false, .bool false, .bool false, .int .i64 0, .int .i64 0, .string ⟨#[]⟩] 30)) := (Grow.refl _).alloc _
      obtain ⟨w3, hw3⟩ : ∃ w3, w2.alloc (.cells #[.bool false, .bool false, .bool false, .int .i64 0, .int .i64 0, .string ⟨#[]⟩] 30) = w3 := ⟨_, rfl⟩
      obtain ⟨M, hM⟩ : ∃ M, w2.heap.size = M := ⟨_, rfl⟩
      have HM : Hid (W0.heap.size ≤ M) := by show W0.heap.size ≤ M; have := gA2.size; have e0 : W0.drew.heap.size = W0.heap.size := rfl; omega
      have VN3 : VarAt w3 M [.bool false, .bool false, .bool false, .int .i64 0, .int .i64 0, .string ⟨#[]⟩] := by rw [← hw3, ← hM]; exact VV3
      rw [hw3] at gg3 ⊢
      (try rw [show W0.drew.heap.size = W0.heap.size from rfl])
      (try rw [hM])
      have gA3 : Grow W0 w3 := gA2.trans gg3
      clear VV3 hw3 hM
      obtain ⟨⟨y0, y1, y2, y3, y4, y5⟩, f0, f1, f2, f3, f4, f5⟩ := VN3.six
      have hlt2 := H0.out.2.2.1.lt
      have H2 : Hid (VarAt (put6 w3 M (.bool u') (.bool d') (.bool r') (.int .i64 p') (.int .i64 q') (.string (strOfNums bs'))) M [.bool u', .bool d', .bool r', .int .i64 p', .int .i64 q', .string (strOfNums bs')] ∧ VarAt (put6 w3 M (.bool u') (.bool d') (.bool r') (.int .i64 p') (.int .i64 q') (.string (strOfNums bs'))) (X + 1 + 1) [.bool false, .bool false, .bool false, .int .i64 0, .int .i64 0, .string ⟨#[]⟩] ∧ Grow w (put6 w3 M (.bool u') (.bool d') (.bool r') (.int .i64 p') (.int .i64 q') (.string (strOfNums bs')))) := by
        have hm := HM.out
        have hx := H0.out.2.2.2.2
        have u6 := upd_put6 w3 M (.bool u') (.bool d') (.bool r') (.int .i64 p') (.int .i64 q') (.string (strOfNums bs'))
        exact ⟨VN3.put6 _ _ _ _ _ _, (H0.out.2.2.1.grow gA3).upd u6 (by omega), UpdS.new (H0.out.2.2.2.1.trans gA3) u6 (fun i hi => by omega)⟩
      refine wpT_store (w' := put6 w3 M (.bool u') (.bool d') (.bool r') (.int .i64 p') (.int .i64 q') (.string (strOfNums bs'))) (by rfl) (by unfold put6; go_simp) ((upd_put6 _ _ _ _ _ _ _ _).mono (fun i hi => by have := HM.out; omega)) ?_
      simp only [Act.put, List.setIfInBounds_toArray, List.set_cons_zero, List.set_cons_succ]
      clear y0 y1 y2 y3 y4 y5 f0 f1 f2 f3 f4 f5 hlt2 fx hfw hc
      generalize put6 w3 M (.bool u') (.bool d') (.bool r') (.int .i64 p') (.int .i64 q') (.string (strOfNums bs')) = W2 at H2 ⊢
      repeat (first
        | (refine wpT_move rfl ?_; simp only [Act.eval, Act.put, Array.getD_eq_getD_getElem?, List.getElem?_toArray, List.getElem?_cons_zero, List.getElem?_cons_succ, Option.getD_some, List.setIfInBounds_toArray, List.set_cons_zero, List.set_cons_succ])
        | (refine wpT_assign rfl ?_; simp only [Act.eval, Act.put, Array.getD_eq_getD_getElem?, List.getElem?_toArray, List.getElem?_cons_zero, List.getElem?_cons_succ, Option.getD_some, List.setIfInBounds_toArray, List.set_cons_zero, List.set_cons_succ])
        | (refine wpT_read (v := ?_) rfl ?_ ?_; rotate_left; (focus (intro w' hG; skip; go_simp; try (with_reducible rfl))); simp only [Act.put, List.setIfInBounds_toArray, List.set_cons_zero, List.set_cons_succ])
        | (refine wpT_skip rfl ?_; simp only [Act.put, List.setIfInBounds_toArray, List.set_cons_zero, List.set_cons_succ]))
      refine wpT_done ?_
      obtain ⟨⟨x0, x1, x2, x3, x4, x5⟩, -⟩ := H2.out.1.six
      obtain ⟨⟨y0, y1, y2, y3, y4, y5⟩, f0, f1, f2, f3, f4, f5⟩ := H2.out.2.1.six
      have HF : Hid (VarAt (put6 W2 (X + 1 + 1) (.bool u') (.bool d') (.bool r') (.int .i64 p') (.int .i64 q') (.string (strOfNums bs'))) (X + 1 + 1) [.bool u', .bool d', .bool r', .int .i64 p', .int .i64 q', .string (strOfNums bs')] ∧ Grow w (put6 W2 (X + 1 + 1) (.bool u') (.bool d') (.bool r') (.int .i64 p') (.int .i64 q') (.string (strOfNums bs')))) := ⟨H2.out.2.1.put6 _ _ _ _ _ _, UpdS.new H2.out.2.2 (upd_put6 _ _ _ _ _ _ _ _) (fun i hi => by have := H0.out.2.2.2.2; omega)⟩
      unfold put6 at HF
      go_wp2
      exact bodyPost_ret_by (results_cell_tmp2 rfl _ _ _ _ rfl (load_F _ _ _ _ _ _ _ _ HF.out.1)) rfl ⟨rfl, HF.out.2⟩
    · skip
      refine wpT_act (by rfl) (exec_allocF #[.bool false, .bool false, .bool false, .int .i64 0, .int .i64 0, .string ⟨#[]⟩] zeroRF) (Grow.s ((Grow.refl _).alloc _)) ?_
      simp only [Act.put, List.setIfInBounds_toArray, List.set_cons_zero, List.set_cons_succ]
      have VV2 := VarAt.new w1 [.bool false, .bool false, .bool false, .int .i64 0, .int .i64 0, .string ⟨#[]⟩] 30
      have gg2 : Grow w1 (w1.alloc (.cells #[.bool false, .bool false, .bool false, .int .i64 0, .int .i64 0, .string ⟨#[]⟩] 30)) := (Grow.refl _).alloc _
      obtain ⟨w2, hw2⟩ : ∃ w2, w1.alloc (.cells #[.bool false, .bool false, .bool false, .int .i64 0, .int .i64 0, .string ⟨#[]⟩] 30) = w2 := ⟨_, rfl⟩
      obtain ⟨M, hM⟩ : ∃ M, w1.heap.size = M := ⟨_, rfl⟩
      have HM : Hid (W0.heap.size ≤ M) := by show W0.heap.size ≤ M; have := gA1.size; have e0 : W0.drew.heap.size = W0.heap.size := rfl; omega
      have VN2 : VarAt w2 M [.bool false, .bool false, .bool false, .int .i64 0, .int .i64 0, .string ⟨#[]⟩] := by rw [← hw2, ← hM]; exact VV2
      rw [hw2] at gg2 ⊢
      (try rw [show W0.drew.heap.size = W0.heap.size from rfl])
      (try rw [hM])
      have gA2 : Grow W0 w2 := gA1.trans gg2
      have rv2 := rv1.grow gg2
      clear VV2 hw2 hM
      have hq3 := hc w2 _ _ rv2
      refine wpT_call (f := ?_) (args := ?_) (by rfl) ?_ ?_
      rotate_left 2; focus (go_simp; constructor <;> with_reducible rfl)
      refine (hq3).mono ?_
      rintro e w3 ⟨rfl, gg3⟩
      refine ⟨_, rfl, Grow.s gg3, ?_⟩
      simp only [Act.put, List.setIfInBounds_toArray, List.set_cons_zero, List.set_cons_succ]
      have gA3 : Grow W0 w3 := gA2.trans gg3
      have VN3 := VN2.grow gg3
      repeat (first
        | (refine wpT_move rfl ?_; simp only [Act.eval, Act.put, Array.getD_eq_getD_getElem?, List.getElem?_toArray, List.getElem?_cons_zero, List.getElem?_cons_succ, Option.getD_some, List.setIfInBounds_toArray, List.set_cons_zero, List.set_cons_succ])
        | (refine wpT_assign rfl ?_; simp only [Act.eval, Act.put, Array.getD_eq_getD_getElem?, List.getElem?_toArray, List.getElem?_cons_zero, List.getElem?_cons_succ, Option.getD_some, List.setIfInBounds_toArray, List.set_cons_zero, List.set_cons_succ])
        | (refine wpT_read (v := ?_) rfl ?_ ?_; rotate_left; (focus (intro w' hG; skip; go_simp; try (with_reducible rfl))); simp only [Act.put, List.setIfInBounds_toArray, List.set_cons_zero, List.set_cons_succ])
        | (refine wpT_skip rfl ?_; simp only [Act.put, List.setIfInBounds_toArray, List.set_cons_zero, List.set_cons_succ]))
      obtain ⟨⟨y0, y1, y2, y3, y4, y5⟩, f0, f1, f2, f3, f4, f5⟩ := VN3.six
      have hlt2 := H0.out.2.2.1.lt
      have H2 : Hid (VarAt (put6 w3 M (.bool u') (.bool d') (.bool r') (.int .i64 p') (.int .i64 q') (.string (strOfNums bs'))) M [.bool u', .bool d', .bool r', .int .i64 p', .int .i64 q', .string (strOfNums bs')] ∧ VarAt (put6 w3 M (.bool u') (.bool d') (.bool r') (.int .i64 p') (.int .i64 q') (.string (strOfNums bs'))) (X + 1 + 1) [.bool false, .bool false, .bool false, .int .i64 0, .int .i64 0, .string ⟨#[]⟩] ∧ Grow w (put6 w3 M (.bool u') (.bool d') (.bool r') (.int .i64 p') (.int .i64 q') (.string (strOfNums bs')))) := by
        have hm := HM.out
        have hx := H0.out.2.2.2.2
        have u6 := upd_put6 w3 M (.bool u') (.bool d') (.bool r') (.int .i64 p') (.int .i64 q') (.string (strOfNums bs'))
        exact ⟨VN3.put6 _ _ _ _ _ _, (H0.out.2.2.1.grow gA3).upd u6 (by omega), UpdS.new (H0.out.2.2.2.1.trans gA3) u6 (fun i hi => by omega)⟩
      refine wpT_store (w' := put6 w3 M (.bool u') (.bool d') (.bool r') (.int .i64 p') (.int .i64 q') (.string (strOfNums bs'))) (by rfl) (by unfold put6; go_simp) ((upd_put6 _ _ _ _ _ _ _ _).mono (fun i hi => by have := HM.out; omega)) ?_
      simp only [Act.put, List.setIfInBounds_toArray, List.set_cons_zero, List.set_cons_succ]
      clear y0 y1 y2 y3 y4 y5 f0 f1 f2 f3 f4 f5 hlt2 fx hfw hc
      generalize put6 w3 M (.bool u') (.bool d') (.bool r') (.int .i64 p') (.int .i64 q') (.string (strOfNums bs')) = W2 at H2 ⊢
      repeat (first
        | (refine wpT_move rfl ?_; simp only [Act.eval, Act.put, Array.getD_eq_getD_getElem?, List.getElem?_toArray, List.getElem?_cons_zero, List.getElem?_cons_succ, Option.getD_some, List.setIfInBounds_toArray, List.set_cons_zero, List.set_cons_succ])
        | (refine wpT_assign rfl ?_; simp only [Act.eval, Act.put, Array.getD_eq_getD_getElem?, List.getElem?_toArray, List.getElem?_cons_zero, List.getElem?_cons_succ, Option.getD_some, List.setIfInBounds_toArray, List.set_cons_zero, List.set_cons_succ])
        | (refine wpT_read (v := ?_) rfl ?_ ?_; rotate_left; (focus (intro w' hG; skip; go_simp; try (with_reducible rfl))); simp only [Act.put, List.setIfInBounds_toArray, List.set_cons_zero, List.set_cons_succ])
        | (refine wpT_skip rfl ?_; simp only [Act.put, List.setIfInBounds_toArray, List.set_cons_zero, List.set_cons_succ]))
      refine wpT_done ?_
      obtain ⟨⟨x0, x1, x2, x3, x4, x5⟩, -⟩ := H2.out.1.six
      obtain ⟨⟨y0, y1, y2, y3, y4, y5⟩, f0, f1, f2, f3, f4, f5⟩ := H2.out.2.1.six
      have HF : Hid (VarAt (put6 W2 (X + 1 + 1) (.bool u') (.bool d') (.bool r') (.int .i64 p') (.int .i64 q') (.string (strOfNums bs'))) (X + 1 + 1) [.bool u', .bool d', .bool r', .int .i64 p', .int .i64 q', .string (strOfNums bs')] ∧ Grow w (put6 W2 (X + 1 + 1) (.bool u') (.bool d') (.bool r') (.int .i64 p') (.int .i64 q') (.string (strOfNums bs')))) := ⟨H2.out.2.1.put6 _ _ _ _ _ _, UpdS.new H2.out.2.2 (upd_put6 _ _ _ _ _ _ _ _) (fun i hi => by have := H0.out.2.2.2.2; omega)⟩
      unfold put6 at HF
      go_wp2
      exact bodyPost_ret_by (results_cell_tmp2 rfl _ _ _ _ rfl (load_F _ _ _ _ _ _ _ _ HF.out.1)) rfl ⟨rfl, HF.out.2⟩
  · skip
    refine wpT_act (by rfl) (exec_allocF #[.bool false, .bool false, .bool false, .int .i64 0, .int .i64 0, .string ⟨#[]⟩] zeroRF) (Grow.s ((Grow.refl _).alloc _)) ?_
    simp only [Act.put, List.setIfInBounds_toArray, List.set_cons_zero, List.set_cons_succ]
    have VV1 := VarAt.new W0.drew [.bool false, .bool false, .bool false, .int .i64 0, .int .i64 0, .string ⟨#[]⟩] 30
    have gg1 : Grow W0.drew (W0.drew.alloc (.cells #[.bool false, .bool false, .bool false, .int .i64 0, .int .i64 0, .string ⟨#[]⟩] 30)) := (Grow.refl _).alloc _
    obtain ⟨w1, hw1⟩ : ∃ w1, W0.drew.alloc (.cells #[.bool false, .bool false, .bool false, .int .i64 0, .int .i64 0, .string ⟨#[]⟩] 30) = w1 := ⟨_, rfl⟩
    obtain ⟨M, hM⟩ : ∃ M, W0.heap.size = M := ⟨_, rfl⟩
    have HM : Hid (W0.heap.size ≤ M) := by show W0.heap.size ≤ M; have := gd.size; have e0 : W0.drew.heap.size = W0.heap.size := rfl; omega
    have VN1 : VarAt w1 M [.bool false, .bool false, .bool false, .int .i64 0, .int .i64 0, .string ⟨#[]⟩] := by rw [← hw1, ← hM]; exact VV1
    rw [hw1] at gg1 ⊢
    (try rw [show W0.drew.heap.size = W0.heap.size from rfl])
    (try rw [hM])
    have gA1 : Grow W0 w1 := gd.trans gg1
    clear VV1 hw1 hM
    have hq2 := hfw w1 gA1
    refine wpT_call (f := ?_) (args := ?_) (by rfl) ?_ ?_
    rotate_left 2; focus (go_simp; constructor <;> with_reducible rfl)
    refine (hq2).mono ?_
    rintro e w2 ⟨v2, rfl, og2, gg2⟩
    refine ⟨_, rfl, Grow.s gg2, ?_⟩
    simp only [Act.put, List.setIfInBounds_toArray, List.set_cons_zero, List.set_cons_succ]
    have gA2 : Grow W0 w2 := gA1.trans gg2
    obtain ⟨ag, cg, rfl⟩ := og2.v.shape
    have rv2 := og2.v.rd
    have VN2 := VN1.grow gg2
    repeat (first
      | (refine wpT_move rfl ?_; simp only [Act.eval, Act.put, Array.getD_eq_getD_getElem?, List.getElem?_toArray, List.getElem?_cons_zero, List.getElem?_cons_succ, Option.getD_some, List.setIfInBounds_toArray, List.set_cons_zero, List.set_cons_succ])
      | (refine wpT_assign rfl ?_; simp only [Act.eval, Act.put, Array.getD_eq_getD_getElem?, List.getElem?_toArray, List.getElem?_cons_zero, List.getElem?_cons_succ, Option.getD_some, List.setIfInBounds_toArray, List.set_cons_zero, List.set_cons_succ])
      | (refine wpT_read (v := ?_) rfl ?_ ?_; rotate_left; (focus (intro w' hG; skip; go_simp; try (with_reducible rfl))); simp only [Act.put, List.setIfInBounds_toArray, List.set_cons_zero, List.set_cons_succ])
      | (refine wpT_skip rfl ?_; simp only [Act.put, List.setIfInBounds_toArray, List.set_cons_zero, List.set_cons_succ]))
    have hq3 := hc w2 _ _ rv2
    refine wpT_call (f := ?_) (args := ?_) (by rfl) ?_ ?_
    rotate_left 2; focus (go_simp; constructor <;> with_reducible rfl)
    refine (hq3).mono ?_
    rintro e w3 ⟨rfl, gg3⟩
    refine ⟨_, rfl, Grow.s gg3, ?_⟩
    simp only [Act.put, List.setIfInBounds_toArray, List.set_cons_zero, List.set_cons_succ]
    have gA3 : Grow W0 w3 := gA2.trans gg3
    have VN3 := VN2.grow gg3
    repeat (first
      | (refine wpT_move rfl ?_; simp only [Act.eval, Act.put, Array.getD_eq_getD_getElem?, List.getElem?_toArray, List.getElem?_cons_zero, List.getElem?_cons_succ, Option.getD_some, List.setIfInBounds_toArray, List.set_cons_zero, List.set_cons_succ])
      | (refine wpT_assign rfl ?_; simp only [Act.eval, Act.put, Array.getD_eq_getD_getElem?, List.getElem?_toArray, List.getElem?_cons_zero, List.getElem?_cons_succ, Option.getD_some, List.setIfInBounds_toArray, List.set_cons_zero, List.set_cons_succ])
      | (refine wpT_read (v := ?_) rfl ?_ ?_; rotate_left; (focus (intro w' hG; skip; go_simp; try (with_reducible rfl))); simp only [Act.put, List.setIfInBounds_toArray, List.set_cons_zero, List.set_cons_succ])
      | (refine wpT_skip rfl ?_; simp only [Act.put, List.setIfInBounds_toArray, List.set_cons_zero, List.set_cons_succ]))
    obtain ⟨⟨y0, y1, y2, y3, y4, y5⟩, f0, f1, f2, f3, f4, f5⟩ := VN3.six
    have hlt2 := H0.out.2.2.1.lt
    have H2 : Hid (VarAt (put6 w3 M (.bool u') (.bool d') (.bool r') (.int .i64 p') (.int .i64 q') (.string (strOfNums bs'))) M [.bool u', .bool d', .bool r', .int .i64 p', .int .i64 q', .string (strOfNums bs')] ∧ VarAt (put6 w3 M (.bool u') (.bool d') (.bool r') (.int .i64 p') (.int .i64 q') (.string (strOfNums bs'))) (X + 1 + 1) [.bool false, .bool false, .bool false, .int .i64 0, .int .i64 0, .string ⟨#[]⟩] ∧ Grow w (put6 w3 M (.bool u') (.bool d') (.bool r') (.int .i64 p') (.int .i64 q') (.string (strOfNums bs')))) := by
      have hm := HM.out
      have hx := H0.out.2.2.2.2
      have u6 := upd_put6 w3 M (.bool u') (.bool d') (.bool r') (.int .i64 p') (.int .i64 q') (.string (strOfNums bs'))
      exact ⟨VN3.put6 _ _ _ _ _ _, (H0.out.2.2.1.grow gA3).upd u6 (by omega), UpdS.new (H0.out.2.2.2.1.trans gA3) u6 (fun i hi => by omega)⟩
    refine wpT_store (w' := put6 w3 M (.bool u') (.bool d') (.bool r') (.int .i64 p') (.int .i64 q') (.string (strOfNums bs'))) (by rfl) (by unfold put6; go_simp) ((upd_put6 _ _ _ _ _ _ _ _).mono (fun i hi => by have := HM.out; omega)) ?_
    simp only [Act.put, List.setIfInBounds_toArray, List.set_cons_zero, List.set_cons_succ]
    clear y0 y1 y2 y3 y4 y5 f0 f1 f2 f3 f4 f5 hlt2 fx hfw hc
    generalize put6 w3 M (.bool u') (.bool d') (.bool r') (.int .i64 p') (.int .i64 q') (.string (strOfNums bs')) = W2 at H2 ⊢
    repeat (first
      | (refine wpT_move rfl ?_; simp only [Act.eval, Act.put, Array.getD_eq_getD_getElem?, List.getElem?_toArray, List.getElem?_cons_zero, List.getElem?_cons_succ, Option.getD_some, List.setIfInBounds_toArray, List.set_cons_zero, List.set_cons_succ])
      | (refine wpT_assign rfl ?_; simp only [Act.eval, Act.put, Array.getD_eq_getD_getElem?, List.getElem?_toArray, List.getElem?_cons_zero, List.getElem?_cons_succ, Option.getD_some, List.setIfInBounds_toArray, List.set_cons_zero, List.set_cons_succ])
      | (refine wpT_read (v := ?_) rfl ?_ ?_; rotate_left; (focus (intro w' hG; skip; go_simp; try (with_reducible rfl))); simp only [Act.put, List.setIfInBounds_toArray, List.set_cons_zero, List.set_cons_succ])
      | (refine wpT_skip rfl ?_; simp only [Act.put, List.setIfInBounds_toArray, List.set_cons_zero, List.set_cons_succ]))
    refine wpT_done ?_
    obtain ⟨⟨x0, x1, x2, x3, x4, x5⟩, -⟩ := H2.out.1.six
    obtain ⟨⟨y0, y1, y2, y3, y4, y5⟩, f0, f1, f2, f3, f4, f5⟩ := H2.out.2.1.six
    have HF : Hid (VarAt (put6 W2 (X + 1 + 1) (.bool u') (.bool d') (.bool r') (.int .i64 p') (.int .i64 q') (.string (strOfNums bs'))) (X + 1 + 1) [.bool u', .bool d', .bool r', .int .i64 p', .int .i64 q', .string (strOfNums bs')] ∧ Grow w (put6 W2 (X + 1 + 1) (.bool u') (.bool d') (.bool r') (.int .i64 p') (.int .i64 q') (.string (strOfNums bs')))) := ⟨H2.out.2.1.put6 _ _ _ _ _ _, UpdS.new H2.out.2.2 (upd_put6 _ _ _ _ _ _ _ _) (fun i hi => by have := H0.out.2.2.2.2; omega)⟩
    unfold put6 at HF
    go_wp2
    exact bodyPost_ret_by (results_cell_tmp2 rfl _ _ _ _ rfl (load_F _ _ _ _ _ _ _ _ HF.out.1)) rfl ⟨rfl, HF.out.2⟩

set_option maxRecDepth 8000 in
set_option maxHeartbeats 4000000 in
theorem rdo_8 (s : FS) (hs : s.Ok) (dd pg off n : Int) (hdd : (Lit.int .i64 dd).wf = true) (hof : (Lit.int .i64 off).wf = true) (hnw : (Lit.int .i64 n).wf = true) (bv : Value) (ys : List Int) (w : World) (hy : RdV (Value.int .u8) 0 (fun i => i < w.heap.size) w bv ys) (hyo : Oct ys) (hk : around dd 10 = 8) : Calls Try.prog 10 #[s.v, .agg #[.int .i64 dd, .int .i64 pg, .int .i64 off, .int .i64 n, bv]] w fun e w' => e = .returned (.tuple #[(doS (around dd 10) s pg off n ys).1.v, .string (strOfNums (doS (around dd 10) s pg off n ys).2.1), .int .i64 (doS (around dd 10) s pg off n ys).2.2]) ∧ Grow w w' := by
  obtain ⟨ab, cb, hbv⟩ := hy.shape
  subst hbv
  obtain ⟨u, d, r, p, q, bs⟩ := s
  obtain ⟨W0, hW0⟩ : ∃ W0, ((w.alloc (.cells #[.bool u, .bool d, .bool r, .int .i64 p, .int .i64 q, .string (strOfNums bs)] 30)).alloc (.cells #[.int .i64 dd, .int .i64 pg, .int .i64 off, .int .i64 n, .slice ab ys.length cb] 37)).alloc (.cells #[.bool false, .bool false, .bool false, .int .i64 0, .int .i64 0, .string ⟨#[]⟩] 30) = W0 := ⟨_, rfl⟩
  obtain ⟨X, hX⟩ : ∃ X, w.heap.size = X := ⟨_, rfl⟩
  have g0 : Grow w W0 := by rw [← hW0]; exact (((Grow.refl w).alloc _).alloc _).alloc _
  have V0 : VarAt W0 X [.bool u, .bool d, .bool r, .int .i64 p, .int .i64 q, .string (strOfNums bs)] := by rw [← hW0, ← hX]; exact ((VarAt.new w [.bool u, .bool d, .bool r, .int .i64 p, .int .i64 q, .string (strOfNums bs)] 30).old _).old _
  have O0 : VarAt W0 (X + 1) [.int .i64 dd, .int .i64 pg, .int .i64 off, .int .i64 n, .slice ab ys.length cb] := by rw [← hW0, ← hX]; exact (VarAt.new2 w _ [.int .i64 dd, .int .i64 pg, .int .i64 off, .int .i64 n, .slice ab ys.length cb] 37).old _
  have Z0 : VarAt W0 (X + 1 + 1) [.bool false, .bool false, .bool false, .int .i64 0, .int .i64 0, .string ⟨#[]⟩] := by rw [← hW0, ← hX]; exact VarAt.new3 w _ _ [.bool false, .bool false, .bool false, .int .i64 0, .int .i64 0, .string ⟨#[]⟩] 30
  have H0 : Hid (VarAt W0 X [.bool u, .bool d, .bool r, .int .i64 p, .int .i64 q, .string (strOfNums bs)] ∧ VarAt W0 (X + 1) [.int .i64 dd, .int .i64 pg, .int .i64 off, .int .i64 n, .slice ab ys.length cb] ∧ VarAt W0 (X + 1 + 1) [.bool false, .bool false, .bool false, .int .i64 0, .int .i64 0, .string ⟨#[]⟩] ∧ Grow w W0 ∧ w.heap.size = X) := ⟨V0, O0, Z0, g0, hX⟩
  have HY : Hid (RdV (Value.int .u8) 0 (fun i => i < W0.heap.size) W0 (.slice ab ys.length cb) ys) := (hy.mono (fun i hi _ => by have := g0.size; omega)).grow g0
  have r3 := around_any dd 10 W0 hdd (by omega) (by omega)
  rw [hk] at r3
  rw [hk, doS_put _ _ _ _ _ (by omega)]
  have hfw := fun w' (g : Grow W0 w') => fewB_any _ ys 40 40 _ w' rfl (HY.out.grow g).i (by omega)
  have hc := fun w' v t (hv : RdV (Value.int .u8) 0 t w' v (ys.take 40)) => rputS_any ⟨u, d, r, p, q, bs⟩ hs w' off v (ys.take 40) t hv hof
  generalize putS ⟨u, d, r, p, q, bs⟩ off (ys.take 40) = T at hc ⊢
  obtain ⟨⟨u', d', r', p', q', bs'⟩, E⟩ := T
  generalize ys.take 40 = A at hc hfw
  simp only [FS.v] at hc ⊢
  obtain ⟨⟨x0, x1, x2, x3, x4, x5⟩, -⟩ := V0.six
  obtain ⟨o0, o1, o2, o3, o4⟩ := O0.fives
  clear V0 O0 Z0 g0 hy hk
  go_enter Try.func10, Try.ntmps10
  go_upto_region 1 with fail
  (try rw [hW0])
  (try rw [hX])
  clear hW0 hX
  go_wp2_with fail
  refine r3.mono ?_
  rintro e w0 ⟨rfl, rfl⟩
  clear r3
  have gd : Grow W0 W0.drew := (Grow.refl W0).drew
  have fx : ∀ w', UpdS (fun i => W0.heap.size ≤ i) W0.drew w' → ((w'.cell? ⟨X, 0, none⟩ = some (.bool u) ∧ w'.cell? ⟨X, 1, none⟩ = some (.bool d) ∧ w'.cell? ⟨X, 2, none⟩ = some (.bool r) ∧ w'.cell? ⟨X, 3, none⟩ = some (.int .i64 p) ∧ w'.cell? ⟨X, 4, none⟩ = some (.int .i64 q) ∧ w'.cell? ⟨X, 5, none⟩ = some (.string (strOfNums bs))) ∧ w'.cell? ⟨X + 1, 0, none⟩ = some (.int .i64 dd) ∧ w'.cell? ⟨X + 1, 1, none⟩ = some (.int .i64 pg) ∧ w'.cell? ⟨X + 1, 2, none⟩ = some (.int .i64 off) ∧ w'.cell? ⟨X + 1, 3, none⟩ = some (.int .i64 n) ∧ w'.cell? ⟨X + 1, 4, none⟩ = some (.slice ab ys.length cb)) := fun w' g =>
    ⟨((H0.out.1.grow gd).upd g (by have := H0.out.1.lt; omega)).six.1, ((H0.out.2.1.grow gd).upd g (by have := H0.out.2.1.lt; omega)).fives⟩
  go_wp2
  refine wp_region_treeG (UpdS (fun i => W0.heap.size ≤ i)) (UpdS.refl _) (fun _ _ _ => UpdS.trans) (by kernel_rfl) (.read 0 (.read 1 (.read 2 (.read 3 (.read 4 (.fork 5 (.fork 6 (.read 7 (.read 8 (.read 9 (.act 10 (.act 11 (.read 12 .done)))))) 10 (.act 6 (.read 7 (.read 8 (.read 9 (.act 11 (.read 12 .done))))))) 10 (.act 5 (.act 6 (.read 7 (.read 8 (.read 9 (.act 11 (.read 12 .done))))))))))))) (by kernel_rfl) (by kernel_rfl) rfl (fun _ _ d _ _ h => by cases d <;> exact h) ?_
  simp only [Tr.over, List.getElem?_toArray, List.getElem?_cons_zero, List.getElem?_cons_succ]
  repeat (first
    | (refine wpT_move rfl ?_; simp only [Act.eval, Act.put, Array.getD_eq_getD_getElem?, List.getElem?_toArray, List.getElem?_cons_zero, List.getElem?_cons_succ, Option.getD_some, List.setIfInBounds_toArray, List.set_cons_zero, List.set_cons_succ])
    | (refine wpT_assign rfl ?_; simp only [Act.eval, Act.put, Array.getD_eq_getD_getElem?, List.getElem?_toArray, List.getElem?_cons_zero, List.getElem?_cons_succ, Option.getD_some, List.setIfInBounds_toArray, List.set_cons_zero, List.set_cons_succ])
    | (refine wpT_read (v := ?_) rfl ?_ ?_; rotate_left; (focus (intro w' hG; obtain ⟨⟨q0, q1, q2, q3, q4, q5⟩, p0, p1, p2, p3, p4⟩ := fx w' hG; go_simp; try (with_reducible rfl))); simp only [Act.put, List.setIfInBounds_toArray, List.set_cons_zero, List.set_cons_succ])
    | (refine wpT_skip rfl ?_; simp only [Act.put, List.setIfInBounds_toArray, List.set_cons_zero, List.set_cons_succ]))
  clear x0 x1 x2 x3 x4 x5 o0 o1 o2 o3 o4
  refine wpT_fork ?_ ?_
  · skip
    have hq1 := hfw W0.drew gd
    refine wpT_call (f := ?_) (args := ?_) (by rfl) ?_ ?_
    rotate_left 2; focus (go_simp; constructor <;> with_reducible rfl)
    refine (hq1).mono ?_
    rintro e w1 ⟨v1, rfl, og1, gg1⟩
    refine ⟨_, rfl, Grow.s gg1, ?_⟩
    simp only [Act.put, List.setIfInBounds_toArray, List.set_cons_zero, List.set_cons_succ]
    have gA1 : Grow W0 w1 := gd.trans gg1
    obtain ⟨ag, cg, rfl⟩ := og1.v.shape
    have rv1 := og1.v.rd
    repeat (first
      | (refine wpT_move rfl ?_; simp only [Act.eval, Act.put, Array.getD_eq_getD_getElem?, List.getElem?_toArray, List.getElem?_cons_zero, List.getElem?_cons_succ, Option.getD_some, List.setIfInBounds_toArray, List.set_cons_zero, List.set_cons_succ])
      | (refine wpT_assign rfl ?_; simp only [Act.eval, Act.put, Array.getD_eq_getD_getElem?, List.getElem?_toArray, List.getElem?_cons_zero, List.getElem?_cons_succ, Option.getD_some, List.setIfInBounds_toArray, List.set_cons_zero, List.set_cons_succ])
      | (refine wpT_read (v := ?_) rfl ?_ ?_; rotate_left; (focus (intro w' hG; skip; go_simp; try (with_reducible rfl))); simp only [Act.put, List.setIfInBounds_toArray, List.set_cons_zero, List.set_cons_succ])
      | (refine wpT_skip rfl ?_; simp only [Act.put, List.setIfInBounds_toArray, List.set_cons_zero, List.set_cons_succ]))
    refine wpT_fork ?_ ?_
    · skip
      have hq2 := hc w1 _ _ rv1
      refine wpT_call (f := ?_) (args := ?_) (by rfl) ?_ ?_
      rotate_left 2; focus (go_simp; constructor <;> with_reducible rfl)
      refine (hq2).mono ?_
      rintro e w2 ⟨rfl, gg2⟩
      refine ⟨_, rfl, Grow.s gg2, ?_⟩
      simp only [Act.put, List.setIfInBounds_toArray, List.set_cons_zero, List.set_cons_succ]
      have gA2 : Grow W0 w2 := gA1.trans gg2
      repeat (first
        | (refine wpT_move rfl ?_; simp only [Act.eval, Act.put, Array.getD_eq_getD_getElem?, List.getElem?_toArray, List.getElem?_cons_zero, List.getElem?_cons_succ, Option.getD_some, List.setIfInBounds_toArray, List.set_cons_zero, List.set_cons_succ])
        | (refine wpT_assign rfl ?_; simp only [Act.eval, Act.put, Array.getD_eq_getD_getElem?, List.getElem?_toArray, List.getElem?_cons_zero, List.getElem?_cons_succ, Option.getD_some, List.setIfInBounds_toArray, List.set_cons_zero, List.set_cons_succ])
        | (refine wpT_read (v := ?_) rfl ?_ ?_; rotate_left; (focus (intro w' hG; skip; go_simp; try (with_reducible rfl))); simp only [Act.put, List.setIfInBounds_toArray, List.set_cons_zero, List.set_cons_succ])
        | (refine wpT_skip rfl ?_; simp only [Act.put, List.setIfInBounds_toArray, List.set_cons_zero, List.set_cons_succ]))
      refine wpT_act (by rfl) (exec_allocF #[.bool false, .bool false, .bool false, .int .i64 0, .int .i64 0, .string ⟨#[]⟩] zeroRF) (Grow.s ((Grow.refl _).alloc _)) ?_
      simp only [Act.put, List.setIfInBounds_toArray, List.set_cons_zero, List.set_cons_succ]
      have VV3 := VarAt.new w2 [.bool false, .bool false, .bool false, .int .i64 0, .int .i64 0, .string ⟨#[]⟩] 30
      have gg3 : Grow w2 (w2.alloc (.cells #[.bool false, .bool false, .bool false, .int .i64 0, .int .i64 0, .string ⟨#[]⟩] 30)) := (Grow.refl _).alloc _
      obtain ⟨w3, hw3⟩ : ∃ w3, w2.alloc (.cells #[.bool false, .bool false, .bool false, .int .i64 0, .int .i64 0, .string ⟨#[]⟩] 30) = w3 := ⟨_, rfl⟩
      obtain ⟨M, hM⟩ : ∃ M, w2.heap.size = M := ⟨_, rfl⟩
      have HM : Hid (W0.heap.size ≤ M) := by show W0.heap.size ≤ M; have := gA2.size; have e0 : W0.drew.heap.size = W0.heap.size := rfl; omega
      have VN3 : VarAt w3 M [.bool false, .bool false, .bool false, .int .i64 0, .int .i64 0, .string ⟨#[]⟩] := by rw [← hw3, ← hM]; exact VV3
      rw [hw3] at gg3 ⊢
      (try rw [show W0.drew.heap.size = W0.heap.size from rfl])
      (try rw [hM])
      have gA3 : Grow W0 w3 := gA2.trans gg3
      clear VV3 hw3 hM
      obtain ⟨⟨y0, y1, y2, y3, y4, y5⟩, f0, f1, f2, f3, f4, f5⟩ := VN3.six
      have hlt2 := H0.out.2.2.1.lt
      have H2 : Hid (VarAt (put6 w3 M (.bool u') (.bool d') (.bool r') (.int .i64 p') (.int .i64 q') (.string (strOfNums bs'))) M [.bool u', .bool d', .bool r', .int .i64 p', .int .i64 q', .string (strOfNums bs')] ∧ VarAt (put6 w3 M (.bool u') (.bool d') (.bool r') (.int .i64 p') (.int .i64 q') (.string (strOfNums bs'))) (X + 1 + 1) [.bool false, .bool false, .bool false, .int .i64 0, .int .i64 0, .string ⟨#[]⟩] ∧ Grow w (put6 w3 M (.bool u') (.bool d') (.bool r') (.int .i64 p') (.int .i64 q') (.string (strOfNums bs')))) := by
        have hm := HM.out
        have hx := H0.out.2.2.2.2
        have u6 := upd_put6 w3 M (.bool u') (.bool d') (.bool r') (.int .i64 p') (.int .i64 q') (.string (strOfNums bs'))
        exact ⟨VN3.put6 _ _ _ _ _ _, (H0.out.2.2.1.grow gA3).upd u6 (by omega), UpdS.new (H0.out.2.2.2.1.trans gA3) u6 (fun i hi => by omega)⟩
      refine wpT_store (w' := put6 w3 M (.bool u') (.bool d') (.bool r') (.int .i64 p') (.int .i64 q') (.string (strOfNums bs'))) (by rfl) (by unfold put6; go_simp) ((upd_put6 _ _ _ _ _ _ _ _).mono (fun i hi => by have := HM.out; omega)) ?_
      simp only [Act.put, List.setIfInBounds_toArray, List.set_cons_zero, List.set_cons_succ]
      clear y0 y1 y2 y3 y4 y5 f0 f1 f2 f3 f4 f5 hlt2 fx hfw hc
      generalize put6 w3 M (.bool u') (.bool d') (.bool r') (.int .i64 p') (.int .i64 q') (.string (strOfNums bs')) = W2 at H2 ⊢
      repeat (first
        | (refine wpT_move rfl ?_; simp only [Act.eval, Act.put, Array.getD_eq_getD_getElem?, List.getElem?_toArray, List.getElem?_cons_zero, List.getElem?_cons_succ, Option.getD_some, List.setIfInBounds_toArray, List.set_cons_zero, List.set_cons_succ])
        | (refine wpT_assign rfl ?_; simp only [Act.eval, Act.put, Array.getD_eq_getD_getElem?, List.getElem?_toArray, List.getElem?_cons_zero, List.getElem?_cons_succ, Option.getD_some, List.setIfInBounds_toArray, List.set_cons_zero, List.set_cons_succ])
        | (refine wpT_read (v := ?_) rfl ?_ ?_; rotate_left; (focus (intro w' hG; skip; go_simp; try (with_reducible rfl))); simp only [Act.put, List.setIfInBounds_toArray, List.set_cons_zero, List.set_cons_succ])
        | (refine wpT_skip rfl ?_; simp only [Act.put, List.setIfInBounds_toArray, List.set_cons_zero, List.set_cons_succ]))
      refine wpT_done ?_
      obtain ⟨⟨x0, x1, x2, x3, x4, x5⟩, -⟩ := H2.out.1.six
      obtain ⟨⟨y0, y1, y2, y3, y4, y5⟩, f0, f1, f2, f3, f4, f5⟩ := H2.out.2.1.six
      have HF : Hid (VarAt (put6 W2 (X + 1 + 1) (.bool u') (.bool d') (.bool r') (.int .i64 p') (.int .i64 q') (.string (strOfNums bs'))) (X + 1 + 1) [.bool u', .bool d', .bool r', .int .i64 p', .int .i64 q', .string (strOfNums bs')] ∧ Grow w (put6 W2 (X + 1 + 1) (.bool u') (.bool d') (.bool r') (.int .i64 p') (.int .i64 q') (.string (strOfNums bs')))) := ⟨H2.out.2.1.put6 _ _ _ _ _ _, UpdS.new H2.out.2.2 (upd_put6 _ _ _ _ _ _ _ _) (fun i hi => by have := H0.out.2.2.2.2; omega)⟩
      unfold put6 at HF
      go_wp2
      exact bodyPost_ret_by (results_cell_tmp2 rfl _ _ _ _ rfl (load_F _ _ _ _ _ _ _ _ HF.out.1)) rfl ⟨rfl, HF.out.2⟩
    · skip
      refine wpT_act (by rfl) (exec_allocF #[.bool false, .bool false, .bool false, .int .i64 0, .int .i64 0, .string ⟨#[]⟩] zeroRF) (Grow.s ((Grow.refl _).alloc _)) ?_
      simp only [Act.put, List.setIfInBounds_toArray, List.set_cons_zero, List.set_cons_succ]
      have VV2 := VarAt.new w1 [.bool false, .bool false, .bool false, .int .i64 0, .int .i64 0, .string ⟨#[]⟩] 30
      have gg2 : Grow w1 (w1.alloc (.cells #[.bool false, .bool false, .bool false, .int .i64 0, .int .i64 0, .string ⟨#[]⟩] 30)) := (Grow.refl _).alloc _
      obtain ⟨w2, hw2⟩ : ∃ w2, w1.alloc (.cells #[.bool false, .bool false, .bool false, .int .i64 0, .int .i64 0, .string ⟨#[]⟩] 30) = w2 := ⟨_, rfl⟩
      obtain ⟨M, hM⟩ : ∃ M, w1.heap.size = M := ⟨_, rfl⟩
      have HM : Hid (W0.heap.size ≤ M) := by show W0.heap.size ≤ M; have := gA1.size; have e0 : W0.drew.heap.size = W0.heap.size := rfl; omega
      have VN2 : VarAt w2 M [.bool false, .bool false, .bool false, .int .i64 0, .int .i64 0, .string ⟨#[]⟩] := by rw [← hw2, ← hM]; exact VV2
      rw [hw2] at gg2 ⊢
      (try rw [show W0.drew.heap.size = W0.heap.size from rfl])
      (try rw [hM])
      have gA2 : Grow W0 w2 := gA1.trans gg2
      have rv2 := rv1.grow gg2
      clear VV2 hw2 hM
      have hq3 := hc w2 _ _ rv2
      refine wpT_call (f := ?_) (args := ?_) (by rfl) ?_ ?_
      rotate_left 2; focus (go_simp; constructor <;> with_reducible rfl)
      refine (hq3).mono ?_
      rintro e w3 ⟨rfl, gg3⟩
      refine ⟨_, rfl, Grow.s gg3, ?_⟩
      simp only [Act.put, List.setIfInBounds_toArray, List.set_cons_zero, List.set_cons_succ]
      have gA3 : Grow W0 w3 := gA2.trans gg3
      have VN3 := VN2.grow gg3
      repeat (first
        | (refine wpT_move rfl ?_; simp only [Act.eval, Act.put, Array.getD_eq_getD_getElem?, List.getElem?_toArray, List.getElem?_cons_zero, List.getElem?_cons_succ, Option.getD_some, List.setIfInBounds_toArray, List.set_cons_zero, List.set_cons_succ])
        | (refine wpT_assign rfl ?_; simp only [Act.eval, Act.put, Array.getD_eq_getD_getElem?, List.getElem?_toArray, List.getElem?_cons_zero, List.getElem?_cons_succ, Option.getD_some, List.setIfInBounds_toArray, List.set_cons_zero, List.set_cons_succ])
        | (refine wpT_read (v := ?_) rfl ?_ ?_; rotate_left; (focus (intro w' hG; skip; go_simp; try (with_reducible rfl))); simp only [Act.put, List.setIfInBounds_toArray, List.set_cons_zero, List.set_cons_succ])
        | (refine wpT_skip rfl ?_; simp only [Act.put, List.setIfInBounds_toArray, List.set_cons_zero, List.set_cons_succ]))
      obtain ⟨⟨y0, y1, y2, y3, y4, y5⟩, f0, f1, f2, f3, f4, f5⟩ := VN3.six
      have hlt2 := H0.out.2.2.1.lt
      have H2 : Hid (VarAt (put6 w3 M (.bool u') (.bool d') (.bool r') (.int .i64 p') (.int .i64 q') (.string (strOfNums bs'))) M [.bool u', .bool d', .bool r', .int .i64 p', .int .i64 q', .string (strOfNums bs')] ∧ VarAt (put6 w3 M (.bool u') (.bool d') (.bool r') (.int .i64 p') (.int .i64 q') (.string (strOfNums bs'))) (X + 1 + 1) [.bool false, .bool false, .bool false, .int .i64 0, .int .i64 0, .string ⟨#[]⟩] ∧ Grow w (put6 w3 M (.bool u') (.bool d') (.bool r') (.int .i64 p') (.int .i64 q') (.string (strOfNums bs')))) := by
        have hm := HM.out
        have hx := H0.out.2.2.2.2
        have u6 := upd_put6 w3 M (.bool u') (.bool d') (.bool r') (.int .i64 p') (.int .i64 q') (.string (strOfNums bs'))
        exact ⟨VN3.put6 _ _ _ _ _ _, (H0.out.2.2.1.grow gA3).upd u6 (by omega), UpdS.new (H0.out.2.2.2.1.trans gA3) u6 (fun i hi => by omega)⟩
      refine wpT_store (w' := put6 w3 M (.bool u') (.bool d') (.bool r') (.int .i64 p') (.int .i64 q') (.string (strOfNums bs'))) (by rfl) (by unfold put6; go_simp) ((upd_put6 _ _ _ _ _ _ _ _).mono (fun i hi => by have := HM.out; omega)) ?_
      simp only [Act.put, List.setIfInBounds_toArray, List.set_cons_zero, List.set_cons_succ]
      clear y0 y1 y2 y3 y4 y5 f0 f1 f2 f3 f4 f5 hlt2 fx hfw hc
      generalize put6 w3 M (.bool u') (.bool d') (.bool r') (.int .i64 p') (.int .i64 q') (.string (strOfNums bs')) = W2 at H2 ⊢
      repeat (first
        | (refine wpT_move rfl ?_; simp only [Act.eval, Act.put, Array.getD_eq_getD_getElem?, List.getElem?_toArray, List.getElem?_cons_zero, List.getElem?_cons_succ, Option.getD_some, List.setIfInBounds_toArray, List.set_cons_zero, List.set_cons_succ])
        | (refine wpT_assign rfl ?_; simp only [Act.eval, Act.put, Array.getD_eq_getD_getElem?, List.getElem?_toArray, List.getElem?_cons_zero, List.getElem?_cons_succ, Option.getD_some, List.setIfInBounds_toArray, List.set_cons_zero, List.set_cons_succ])
        | (refine wpT_read (v := ?_) rfl ?_ ?_; rotate_left; (focus (intro w' hG; skip; go_simp; try (with_reducible rfl))); simp only [Act.put, List.setIfInBounds_toArray, List.set_cons_zero, List.set_cons_succ])
        | (refine wpT_skip rfl ?_; simp only [Act.put, List.setIfInBounds_toArray, List.set_cons_zero, List.set_cons_succ]))
      refine wpT_done ?_
      obtain ⟨⟨x0, x1, x2, x3, x4, x5⟩, -⟩ := H2.out.1.six
      obtain ⟨⟨y0, y1, y2, y3, y4, y5⟩, f0, f1, f2, f3, f4, f5⟩ := H2.out.2.1.six
      have HF : Hid (VarAt (put6 W2 (X + 1 + 1) (.bool u') (.bool d') (.bool r') (.int .i64 p') (.int .i64 q') (.string (strOfNums bs'))) (X + 1 + 1) [.bool u', .bool d', .bool r', .int .i64 p', .int .i64 q', .string (strOfNums bs')] ∧ Grow w (put6 W2 (X + 1 + 1) (.bool u') (.bool d') (.bool r') (.int .i64 p') (.int .i64 q') (.string (strOfNums bs')))) := ⟨H2.out.2.1.put6 _ _ _ _ _ _, UpdS.new H2.out.2.2 (upd_put6 _ _ _ _ _ _ _ _) (fun i hi => by have := H0.out.2.2.2.2; omega)⟩
      unfold put6 at HF
      go_wp2
      exact bodyPost_ret_by (results_cell_tmp2 rfl _ _ _ _ rfl (load_F _ _ _ _ _ _ _ _ HF.out.1)) rfl ⟨rfl, HF.out.2⟩
  · skip
    refine wpT_act (by rfl) (exec_allocF #[.bool false, .bool false, .bool false, .int .i64 0, .int .i64 0, .string ⟨#[]⟩] zeroRF) (Grow.s ((Grow.refl _).alloc _)) ?_
    simp only [Act.put, List.setIfInBounds_toArray, List.set_cons_zero, List.set_cons_succ]
    have VV1 := VarAt.new W0.drew [.bool false, .bool false, .bool false, .int .i64 0, .int .i64 0, .string ⟨#[]⟩] 30
    have gg1 : Grow W0.drew (W0.drew.alloc (.cells #[.bool false, .bool false, .bool false, .int .i64 0, .int .i64 0, .string ⟨#[]⟩] 30)) := (Grow.refl _).alloc _
    obtain ⟨w1, hw1⟩ : ∃ w1, W0.drew.alloc (.cells #[.bool false, .bool false, .bool false, .int .i64 0, .int .i64 0, .string ⟨#[]⟩] 30) = w1 := ⟨_, rfl⟩
    obtain ⟨M, hM⟩ : ∃ M, W0.heap.size = M := ⟨_, rfl⟩
    have HM : Hid (W0.heap.size ≤ M) := by show W0.heap.size ≤ M; have := gd.size; have e0 : W0.drew.heap.size = W0.heap.size := rfl; omega
    have VN1 : VarAt w1 M [.bool false, .bool false, .bool false, .int .i64 0, .int .i64 0, .string ⟨#[]⟩] := by rw [← hw1, ← hM]; exact VV1
    rw [hw1] at gg1 ⊢
    (try rw [show W0.drew.heap.size = W0.heap.size from rfl])
    (try rw [hM])
    have gA1 : Grow W0 w1 := gd.trans gg1
    clear VV1 hw1 hM
    have hq2 := hfw w1 gA1
    refine wpT_call (f := ?_) (args := ?_) (by rfl) ?_ ?_
    rotate_left 2; focus (go_simp; constructor <;> with_reducible rfl)
    refine (hq2).mono ?_
    rintro e w2 ⟨v2, rfl, og2, gg2⟩
    refine ⟨_, rfl, Grow.s gg2, ?_⟩
    simp only [Act.put, List.setIfInBounds_toArray, List.set_cons_zero, List.set_cons_succ]
    have gA2 : Grow W0 w2 := gA1.trans gg2
    obtain ⟨ag, cg, rfl⟩ := og2.v.shape
    have rv2 := og2.v.rd
    have VN2 := VN1.grow gg2
    repeat (first
      | (refine wpT_move rfl ?_; simp only [Act.eval, Act.put, Array.getD_eq_getD_getElem?, List.getElem?_toArray, List.getElem?_cons_zero, List.getElem?_cons_succ, Option.getD_some, List.setIfInBounds_toArray, List.set_cons_zero, List.set_cons_succ])
      | (refine wpT_assign rfl ?_; simp only [Act.eval, Act.put, Array.getD_eq_getD_getElem?, List.getElem?_toArray, List.getElem?_cons_zero, List.getElem?_cons_succ, Option.getD_some, List.setIfInBounds_toArray, List.set_cons_zero, List.set_cons_succ])
      | (refine wpT_read (v := ?_) rfl ?_ ?_; rotate_left; (focus (intro w' hG; skip; go_simp; try (with_reducible rfl))); simp only [Act.put, List.setIfInBounds_toArray, List.set_cons_zero, List.set_cons_succ])
      | (refine wpT_skip rfl ?_; simp only [Act.put, List.setIfInBounds_toArray, List.set_cons_zero, List.set_cons_succ]))
    have hq3 := hc w2 _ _ rv2
    refine wpT_call (f := ?_) (args := ?_) (by rfl) ?_ ?_
    rotate_left 2; focus (go_simp; constructor <;> with_reducible rfl)
    refine (hq3).mono ?_
    rintro e w3 ⟨rfl, gg3⟩
    refine ⟨_, rfl, Grow.s gg3, ?_⟩
    simp only [Act.put, List.setIfInBounds_toArray, List.set_cons_zero, List.set_cons_succ]
    have gA3 : Grow W0 w3 := gA2.trans gg3
    have VN3 := VN2.grow gg3
    repeat (first
      | (refine wpT_move rfl ?_; simp only [Act.eval, Act.put, Array.getD_eq_getD_getElem?, List.getElem?_toArray, List.getElem?_cons_zero, List.getElem?_cons_succ, Option.getD_some, List.setIfInBounds_toArray, List.set_cons_zero, List.set_cons_succ])
      | (refine wpT_assign rfl ?_; simp only [Act.eval, Act.put, Array.getD_eq_getD_getElem?, List.getElem?_toArray, List.getElem?_cons_zero, List.getElem?_cons_succ, Option.getD_some, List.setIfInBounds_toArray, List.set_cons_zero, List.set_cons_succ])
      | (refine wpT_read (v := ?_) rfl ?_ ?_; rotate_left; (focus (intro w' hG; skip; go_simp; try (with_reducible rfl))); simp only [Act.put, List.setIfInBounds_toArray, List.set_cons_zero, List.set_cons_succ])
      | (refine wpT_skip rfl ?_; simp only [Act.put, List.setIfInBounds_toArray, List.set_cons_zero, List.set_cons_succ]))
    obtain ⟨⟨y0, y1, y2, y3, y4, y5⟩, f0, f1, f2, f3, f4, f5⟩ := VN3.six
    have hlt2 := H0.out.2.2.1.lt
    have H2 : Hid (VarAt (put6 w3 M (.bool u') (.bool d') (.bool r') (.int .i64 p') (.int .i64 q') (.string (strOfNums bs'))) M [.bool u', .bool d', .bool r', .int .i64 p', .int .i64 q', .string (strOfNums bs')] ∧ VarAt (put6 w3 M (.bool u') (.bool d') (.bool r') (.int .i64 p') (.int .i64 q') (.string (strOfNums bs'))) (X + 1 + 1) [.bool false, .bool false, .bool false, .int .i64 0, .int .i64 0, .string ⟨#[]⟩] ∧ Grow w (put6 w3 M (.bool u') (.bool d') (.bool r') (.int .i64 p') (.int .i64 q') (.string (strOfNums bs')))) := by
      have hm := HM.out
      have hx := H0.out.2.2.2.2
      have u6 := upd_put6 w3 M (.bool u') (.bool d') (.bool r') (.int .i64 p') (.int .i64 q') (.string (strOfNums bs'))
      exact ⟨VN3.put6 _ _ _ _ _ _, (H0.out.2.2.1.grow gA3).upd u6 (by omega), UpdS.new (H0.out.2.2.2.1.trans gA3) u6 (fun i hi => by omega)⟩
    refine wpT_store (w' := put6 w3 M (.bool u') (.bool d') (.bool r') (.int .i64 p') (.int .i64 q') (.string (strOfNums bs'))) (by rfl) (by unfold put6; go_simp) ((upd_put6 _ _ _ _ _ _ _ _).mono (fun i hi => by have := HM.out; omega)) ?_
    simp only [Act.put, List.setIfInBounds_toArray, List.set_cons_zero, List.set_cons_succ]
    clear y0 y1 y2 y3 y4 y5 f0 f1 f2 f3 f4 f5 hlt2 fx hfw hc
    generalize put6 w3 M (.bool u') (.bool d') (.bool r') (.int .i64 p') (.int .i64 q') (.string (strOfNums bs')) = W2 at H2 ⊢
    repeat (first
      | (refine wpT_move rfl ?_; simp only [Act.eval, Act.put, Array.getD_eq_getD_getElem?, List.getElem?_toArray, List.getElem?_cons_zero, List.getElem?_cons_succ, Option.getD_some, List.setIfInBounds_toArray, List.set_cons_zero, List.set_cons_succ])
      | (refine wpT_assign rfl ?_; simp only [Act.eval, Act.put, Array.getD_eq_getD_getElem?, List.getElem?_toArray, List.getElem?_cons_zero, List.getElem?_cons_succ, Option.getD_some, List.setIfInBounds_toArray, List.set_cons_zero, List.set_cons_succ])
      | (refine wpT_read (v := ?_) rfl ?_ ?_; rotate_left; (focus (intro w' hG; skip; go_simp; try (with_reducible rfl))); simp only [Act.put, List.setIfInBounds_toArray, List.set_cons_zero, List.set_cons_succ])
      | (refine wpT_skip rfl ?_; simp only [Act.put, List.setIfInBounds_toArray, List.set_cons_zero, List.set_cons_succ]))
    refine wpT_done ?_
    obtain ⟨⟨x0, x1, x2, x3, x4, x5⟩, -⟩ := H2.out.1.six
    obtain ⟨⟨y0, y1, y2, y3, y4, y5⟩, f0, f1, f2, f3, f4, f5⟩ := H2.out.2.1.six
    have HF : Hid (VarAt (put6 W2 (X + 1 + 1) (.bool u') (.bool d') (.bool r') (.int .i64 p') (.int .i64 q') (.string (strOfNums bs'))) (X + 1 + 1) [.bool u', .bool d', .bool r', .int .i64 p', .int .i64 q', .string (strOfNums bs')] ∧ Grow w (put6 W2 (X + 1 + 1) (.bool u') (.bool d') (.bool r') (.int .i64 p') (.int .i64 q') (.string (strOfNums bs')))) := ⟨H2.out.2.1.put6 _ _ _ _ _ _, UpdS.new H2.out.2.2 (upd_put6 _ _ _ _ _ _ _ _) (fun i hi => by have := H0.out.2.2.2.2; omega)⟩
    unfold put6 at HF
    go_wp2
    exact bodyPost_ret_by (results_cell_tmp2 rfl _ _ _ _ rfl (load_F _ _ _ _ _ _ _ _ HF.out.1)) rfl ⟨rfl, HF.out.2⟩

end Go.Proofs.Ytcmehefaceaioaa
