/-
  The walk of the document's text of a step. Conditions: each theorem's own.
-/
import Derived.Test.YtpmmlocigaehnaaDoorPlnD
import Derived.Test.YtpmmlocigaehnaaDoorTree
namespace Go.Proofs.YtpmmlocigaehnaaDoor
open Go.RowKit
set_option linter.unusedVariables false
set_option linter.unusedSimpArgs false

/-- the kinds' words laid: the act, and what is read of them later -/
theorem exec_kd3 {w : World} {o : Oper} {a : Act} (ho : o.op = .buildSlice 47 3 #[(0, .const (.string ⟨#[]⟩)), (1, .const (.string ⟨#[108, 111, 97, 100]⟩)), (2, .const (.string ⟨#[115, 116, 111, 114, 101]⟩))]) :
    (execOp a.eval o).run Tryd.prog w = .ok (.value (.slice (some ⟨w.heap.size, 0, none⟩) 3 3)) (w.alloc (.cells #[.string ⟨#[]⟩, .string ⟨#[108, 111, 97, 100]⟩, .string ⟨#[115, 116, 111, 114, 101]⟩] 9)) := by
  simp only [execOp, ho, List.mapM_cons, Array.map, Array.toList]
  go_simp
theorem kd3_at (w : World) : ∀ w', Grow (w.alloc (.cells #[.string ⟨#[]⟩, .string ⟨#[108, 111, 97, 100]⟩, .string ⟨#[115, 116, 111, 114, 101]⟩] 9)) w' → w'.cell? ⟨w.heap.size, 1, none⟩ = some (.string ⟨#[108, 111, 97, 100]⟩) ∧ w'.cell? ⟨w.heap.size, 2, none⟩ = some (.string ⟨#[115, 116, 111, 114, 101]⟩) := fun w' g => by
  have h := (VarAt.new w [.string ⟨#[]⟩, .string ⟨#[108, 111, 97, 100]⟩, .string ⟨#[115, 116, 111, 114, 101]⟩] 9).grow g
  exact ⟨h.three.1.2.1, h.three.1.2.2⟩
theorem kd3_atD (w : World) : ∀ w', Grow (w.drew.alloc (.cells #[.string ⟨#[]⟩, .string ⟨#[108, 111, 97, 100]⟩, .string ⟨#[115, 116, 111, 114, 101]⟩] 9)) w' → w'.cell? ⟨w.heap.size, 1, none⟩ = some (.string ⟨#[108, 111, 97, 100]⟩) ∧ w'.cell? ⟨w.heap.size, 2, none⟩ = some (.string ⟨#[115, 116, 111, 114, 101]⟩) := kd3_at w.drew

set_option maxHeartbeats 4000000 in
theorem rtext_1 (p k : Int) (w : World) (hp : (Lit.int .i64 p).wf = true) (hk : (Lit.int .i64 k).wf = true) : Calls Tryd.prog 20 #[.agg #[.int .i64 1, .int .i64 p, .int .i64 k]] w fun e w' => e = .returned (.string (tx ([108, 111, 97, 100] ++ placeL ⟨1, p, k⟩))) ∧ Grow w w' := by
  obtain ⟨W0, hW0⟩ : ∃ W0, W0 = w.alloc (.cells #[.int .i64 1, .int .i64 p, .int .i64 k] 43) := ⟨_, rfl⟩
  have HV : Hid (VarAt W0 w.heap.size [.int .i64 1, .int .i64 p, .int .i64 k] ∧ Grow w W0) := by rw [hW0]; exact ⟨VarAt.new w [.int .i64 1, .int .i64 p, .int .i64 k] _, (Grow.refl w).alloc _⟩
  obtain ⟨b, hb⟩ : ∃ b, b = w.heap.size := ⟨_, rfl⟩
  rw [← hb] at HV
  have la := itoa_len p hp
  have lb := itoa_len k hk
  have q0 := tx_add [108, 111, 97, 100] [32] (by simp)
  have q1 := tx_add ([108, 111, 97, 100] ++ [32]) (Lib.itoa p) (by simp; omega)
  have q2 := tx_add ([108, 111, 97, 100] ++ [32] ++ Lib.itoa p) [32] (by simp; omega)
  have q3 := tx_add ([108, 111, 97, 100] ++ [32] ++ Lib.itoa p ++ [32]) (Lib.itoa k) (by simp; omega)
  have eM : [108, 111, 97, 100] ++ placeL ⟨1, p, k⟩ = [108, 111, 97, 100] ++ [32] ++ Lib.itoa p ++ [32] ++ Lib.itoa k := by simp [placeL, List.append_assoc]
  rw [eM]
  have c1 := fun (u : World) => decimal_any p u hp
  have c2 := fun (u : World) => decimal_any k u hk
  generalize [108, 111, 97, 100] ++ [32] ++ Lib.itoa p ++ [32] ++ Lib.itoa k = M3 at q3 ⊢
  generalize [108, 111, 97, 100] ++ [32] ++ Lib.itoa p ++ [32] = M2 at q3 q2
  generalize [108, 111, 97, 100] ++ [32] ++ Lib.itoa p = M1 at q1 q2
  generalize Lib.itoa p = A at q1 c1
  generalize Lib.itoa k = B at q3 c2
  have e32 : tx [32] = ⟨#[32]⟩ := rfl
  have eK : tx [108, 111, 97, 100] = ⟨#[108, 111, 97, 100]⟩ := rfl
  rw [e32] at q2
  rw [e32, eK] at q0
  generalize ([108, 111, 97, 100] ++ [32] : List UInt8) = M0 at q0 q1
  generalize tx A = TA at q1 c1
  generalize tx B = TB at q3 c2
  generalize tx M0 = T0 at q0 q1
  generalize tx M1 = T1 at q1 q2
  generalize tx M2 = T2 at q2 q3
  generalize tx M3 = T3 at q3 ⊢
  have HC := hid (And.intro c1 c2)
  clear hp hk la lb c1 c2 e32 eK eM
  go_enter Tryd.func20, Tryd.ntmps20
  go_upto_region 1 with fail
  rw [← hW0, ← hb]
  clear hW0 hb
  obtain ⟨⟨m0, m1, m2⟩, -⟩ := HV.out.1.three
  have fz : ∀ w', Grow W0.drew w' → (w'.cell? ⟨b, 0, none⟩ = some (.int .i64 1) ∧ w'.cell? ⟨b, 1, none⟩ = some (.int .i64 p) ∧ w'.cell? ⟨b, 2, none⟩ = some (.int .i64 k)) := fun w' g => (HV.out.1.grow ((Grow.refl _).drew.trans g)).three.1
  have HG := hid (HV.out.2.drew)
  go_wp2_with fail
  clear m0 m1 m2
  refine wp_region_tree (by kernel_rfl) (.read 1 (.read 2 (.read 6 (.read 7 (.read 11 (.read 12 (.fork 0 (.read 3 (.read 4 (.read 5 (.act 8 (.read 9 (.read 10 (.act 13 (.read 14 (.read 15 .done))))))))) 8 (.fork 0 (.read 3 (.read 4 (.read 5 (.read 9 (.read 10 (.act 13 (.read 14 (.read 15 .done)))))))) 13 (.act 0 (.read 3 (.read 4 (.read 5 (.read 9 (.read 10 (.read 14 (.read 15 .done)))))))))))))))) (by kernel_rfl) (by kernel_rfl) rfl (fun _ _ d _ _ h => by cases d <;> exact h) ?_
  simp only [Tr.over, List.getElem?_toArray, List.getElem?_cons_zero, List.getElem?_cons_succ]
  repeat (first
    | (refine wpT_move rfl ?_; simp only [Act.eval, Act.put, Array.getD_eq_getD_getElem?, List.getElem?_toArray, List.getElem?_cons_zero, List.getElem?_cons_succ, Option.getD_some, List.setIfInBounds_toArray, List.set_cons_zero, List.set_cons_succ])
    | (refine wpT_assign rfl ?_; simp only [Act.eval, Act.put, Array.getD_eq_getD_getElem?, List.getElem?_toArray, List.getElem?_cons_zero, List.getElem?_cons_succ, Option.getD_some, List.setIfInBounds_toArray, List.set_cons_zero, List.set_cons_succ])
    | (refine wpT_read (v := ?_) rfl ?_ ?_; rotate_left; (focus (intro w' hG; (obtain ⟨y0, y1, y2⟩ := fz w' hG); go_simp; try (with_reducible rfl))); simp only [Act.put, List.setIfInBounds_toArray, List.set_cons_zero, List.set_cons_succ])
    | (refine wpT_skip rfl ?_; simp only [Act.put, List.setIfInBounds_toArray, List.set_cons_zero, List.set_cons_succ]))
  refine wpT_fork ?_ ?_
  · skip
    refine wpT_act (by rfl) (exec_kd3 rfl) ((Grow.refl _).alloc _) ?_
    simp only [Act.put, List.setIfInBounds_toArray, List.set_cons_zero, List.set_cons_succ]
    have kd := kd3_atD W0
    repeat (first
      | (refine wpT_move rfl ?_; simp only [Act.eval, Act.put, Array.getD_eq_getD_getElem?, List.getElem?_toArray, List.getElem?_cons_zero, List.getElem?_cons_succ, Option.getD_some, List.setIfInBounds_toArray, List.set_cons_zero, List.set_cons_succ])
      | (refine wpT_assign rfl ?_; simp only [Act.eval, Act.put, Array.getD_eq_getD_getElem?, List.getElem?_toArray, List.getElem?_cons_zero, List.getElem?_cons_succ, Option.getD_some, List.setIfInBounds_toArray, List.set_cons_zero, List.set_cons_succ])
      | (refine wpT_read (v := ?_) rfl ?_ ?_; rotate_left; (focus (intro w' hG; (obtain ⟨kd1, kd2⟩ := kd w' hG; have z0 := q0 w'); go_simp; try (with_reducible rfl))); simp only [Act.put, List.setIfInBounds_toArray, List.set_cons_zero, List.set_cons_succ])
      | (refine wpT_skip rfl ?_; simp only [Act.put, List.setIfInBounds_toArray, List.set_cons_zero, List.set_cons_succ]))
    refine wpT_call (f := ?_) (args := ?_) (by rfl) ?_ ?_
    rotate_left 2; focus (go_simp; constructor <;> with_reducible rfl)
    refine ((HC.out.1 _)).mono ?_
    rintro e w1 ⟨rfl, g1⟩
    refine ⟨_, rfl, g1, ?_⟩
    simp only [Act.put, List.setIfInBounds_toArray, List.set_cons_zero, List.set_cons_succ]
    repeat (first
      | (refine wpT_move rfl ?_; simp only [Act.eval, Act.put, Array.getD_eq_getD_getElem?, List.getElem?_toArray, List.getElem?_cons_zero, List.getElem?_cons_succ, Option.getD_some, List.setIfInBounds_toArray, List.set_cons_zero, List.set_cons_succ])
      | (refine wpT_assign rfl ?_; simp only [Act.eval, Act.put, Array.getD_eq_getD_getElem?, List.getElem?_toArray, List.getElem?_cons_zero, List.getElem?_cons_succ, Option.getD_some, List.setIfInBounds_toArray, List.set_cons_zero, List.set_cons_succ])
      | (refine wpT_read (v := ?_) rfl ?_ ?_; rotate_left; (focus (intro w' hG; (have z1 := q1 w'; have z2 := q2 w'); go_simp; try (with_reducible rfl))); simp only [Act.put, List.setIfInBounds_toArray, List.set_cons_zero, List.set_cons_succ])
      | (refine wpT_skip rfl ?_; simp only [Act.put, List.setIfInBounds_toArray, List.set_cons_zero, List.set_cons_succ]))
    refine wpT_call (f := ?_) (args := ?_) (by rfl) ?_ ?_
    rotate_left 2; focus (go_simp; constructor <;> with_reducible rfl)
    refine ((HC.out.2 _)).mono ?_
    rintro e w2 ⟨rfl, g2⟩
    refine ⟨_, rfl, g2, ?_⟩
    simp only [Act.put, List.setIfInBounds_toArray, List.set_cons_zero, List.set_cons_succ]
    repeat (first
      | (refine wpT_move rfl ?_; simp only [Act.eval, Act.put, Array.getD_eq_getD_getElem?, List.getElem?_toArray, List.getElem?_cons_zero, List.getElem?_cons_succ, Option.getD_some, List.setIfInBounds_toArray, List.set_cons_zero, List.set_cons_succ])
      | (refine wpT_assign rfl ?_; simp only [Act.eval, Act.put, Array.getD_eq_getD_getElem?, List.getElem?_toArray, List.getElem?_cons_zero, List.getElem?_cons_succ, Option.getD_some, List.setIfInBounds_toArray, List.set_cons_zero, List.set_cons_succ])
      | (refine wpT_read (v := ?_) rfl ?_ ?_; rotate_left; (focus (intro w' hG; (have z3 := q3 w'); go_simp; try (with_reducible rfl))); simp only [Act.put, List.setIfInBounds_toArray, List.set_cons_zero, List.set_cons_succ])
      | (refine wpT_skip rfl ?_; simp only [Act.put, List.setIfInBounds_toArray, List.set_cons_zero, List.set_cons_succ]))
    refine wpT_done ?_
    go_wp2
    go_ret
    exact ⟨rfl, ((HG.out.alloc _).trans g1).trans g2⟩
  · skip
    refine wpT_call (f := ?_) (args := ?_) (by rfl) ?_ ?_
    rotate_left 2; focus (go_simp; constructor <;> with_reducible rfl)
    refine ((HC.out.1 _)).mono ?_
    rintro e w1 ⟨rfl, g1⟩
    refine ⟨_, rfl, g1, ?_⟩
    simp only [Act.put, List.setIfInBounds_toArray, List.set_cons_zero, List.set_cons_succ]
    refine wpT_fork ?_ ?_
    · skip
      refine wpT_act (by rfl) (exec_kd3 rfl) ((Grow.refl _).alloc _) ?_
      simp only [Act.put, List.setIfInBounds_toArray, List.set_cons_zero, List.set_cons_succ]
      have kd := kd3_at w1
      repeat (first
        | (refine wpT_move rfl ?_; simp only [Act.eval, Act.put, Array.getD_eq_getD_getElem?, List.getElem?_toArray, List.getElem?_cons_zero, List.getElem?_cons_succ, Option.getD_some, List.setIfInBounds_toArray, List.set_cons_zero, List.set_cons_succ])
        | (refine wpT_assign rfl ?_; simp only [Act.eval, Act.put, Array.getD_eq_getD_getElem?, List.getElem?_toArray, List.getElem?_cons_zero, List.getElem?_cons_succ, Option.getD_some, List.setIfInBounds_toArray, List.set_cons_zero, List.set_cons_succ])
        | (refine wpT_read (v := ?_) rfl ?_ ?_; rotate_left; (focus (intro w' hG; (obtain ⟨kd1, kd2⟩ := kd w' hG; have z0 := q0 w'; have z1 := q1 w'; have z2 := q2 w'); go_simp; try (with_reducible rfl))); simp only [Act.put, List.setIfInBounds_toArray, List.set_cons_zero, List.set_cons_succ])
        | (refine wpT_skip rfl ?_; simp only [Act.put, List.setIfInBounds_toArray, List.set_cons_zero, List.set_cons_succ]))
      refine wpT_call (f := ?_) (args := ?_) (by rfl) ?_ ?_
      rotate_left 2; focus (go_simp; constructor <;> with_reducible rfl)
      refine ((HC.out.2 _)).mono ?_
      rintro e w2 ⟨rfl, g2⟩
      refine ⟨_, rfl, g2, ?_⟩
      simp only [Act.put, List.setIfInBounds_toArray, List.set_cons_zero, List.set_cons_succ]
      repeat (first
        | (refine wpT_move rfl ?_; simp only [Act.eval, Act.put, Array.getD_eq_getD_getElem?, List.getElem?_toArray, List.getElem?_cons_zero, List.getElem?_cons_succ, Option.getD_some, List.setIfInBounds_toArray, List.set_cons_zero, List.set_cons_succ])
        | (refine wpT_assign rfl ?_; simp only [Act.eval, Act.put, Array.getD_eq_getD_getElem?, List.getElem?_toArray, List.getElem?_cons_zero, List.getElem?_cons_succ, Option.getD_some, List.setIfInBounds_toArray, List.set_cons_zero, List.set_cons_succ])
        | (refine wpT_read (v := ?_) rfl ?_ ?_; rotate_left; (focus (intro w' hG; (have z3 := q3 w'); go_simp; try (with_reducible rfl))); simp only [Act.put, List.setIfInBounds_toArray, List.set_cons_zero, List.set_cons_succ])
        | (refine wpT_skip rfl ?_; simp only [Act.put, List.setIfInBounds_toArray, List.set_cons_zero, List.set_cons_succ]))
      refine wpT_done ?_
      go_wp2
      go_ret
      exact ⟨rfl, ((HG.out.trans g1).alloc _).trans g2⟩
    · skip
      refine wpT_call (f := ?_) (args := ?_) (by rfl) ?_ ?_
      rotate_left 2; focus (go_simp; constructor <;> with_reducible rfl)
      refine ((HC.out.2 _)).mono ?_
      rintro e w2 ⟨rfl, g2⟩
      refine ⟨_, rfl, g2, ?_⟩
      simp only [Act.put, List.setIfInBounds_toArray, List.set_cons_zero, List.set_cons_succ]
      refine wpT_act (by rfl) (exec_kd3 rfl) ((Grow.refl _).alloc _) ?_
      simp only [Act.put, List.setIfInBounds_toArray, List.set_cons_zero, List.set_cons_succ]
      have kd := kd3_at w2
      repeat (first
        | (refine wpT_move rfl ?_; simp only [Act.eval, Act.put, Array.getD_eq_getD_getElem?, List.getElem?_toArray, List.getElem?_cons_zero, List.getElem?_cons_succ, Option.getD_some, List.setIfInBounds_toArray, List.set_cons_zero, List.set_cons_succ])
        | (refine wpT_assign rfl ?_; simp only [Act.eval, Act.put, Array.getD_eq_getD_getElem?, List.getElem?_toArray, List.getElem?_cons_zero, List.getElem?_cons_succ, Option.getD_some, List.setIfInBounds_toArray, List.set_cons_zero, List.set_cons_succ])
        | (refine wpT_read (v := ?_) rfl ?_ ?_; rotate_left; (focus (intro w' hG; (obtain ⟨kd1, kd2⟩ := kd w' hG; have z0 := q0 w'; have z1 := q1 w'; have z2 := q2 w'; have z3 := q3 w'); go_simp; try (with_reducible rfl))); simp only [Act.put, List.setIfInBounds_toArray, List.set_cons_zero, List.set_cons_succ])
        | (refine wpT_skip rfl ?_; simp only [Act.put, List.setIfInBounds_toArray, List.set_cons_zero, List.set_cons_succ]))
      refine wpT_done ?_
      go_wp2
      go_ret
      exact ⟨rfl, ((HG.out.trans g1).trans g2).alloc _⟩

set_option maxHeartbeats 4000000 in
theorem rtext_2 (p k : Int) (w : World) (hp : (Lit.int .i64 p).wf = true) (hk : (Lit.int .i64 k).wf = true) : Calls Tryd.prog 20 #[.agg #[.int .i64 2, .int .i64 p, .int .i64 k]] w fun e w' => e = .returned (.string (tx ([115, 116, 111, 114, 101] ++ placeL ⟨2, p, k⟩))) ∧ Grow w w' := by
  obtain ⟨W0, hW0⟩ : ∃ W0, W0 = w.alloc (.cells #[.int .i64 2, .int .i64 p, .int .i64 k] 43) := ⟨_, rfl⟩
  have HV : Hid (VarAt W0 w.heap.size [.int .i64 2, .int .i64 p, .int .i64 k] ∧ Grow w W0) := by rw [hW0]; exact ⟨VarAt.new w [.int .i64 2, .int .i64 p, .int .i64 k] _, (Grow.refl w).alloc _⟩
  obtain ⟨b, hb⟩ : ∃ b, b = w.heap.size := ⟨_, rfl⟩
  rw [← hb] at HV
  have la := itoa_len p hp
  have lb := itoa_len k hk
  have q0 := tx_add [115, 116, 111, 114, 101] [32] (by simp)
  have q1 := tx_add ([115, 116, 111, 114, 101] ++ [32]) (Lib.itoa p) (by simp; omega)
  have q2 := tx_add ([115, 116, 111, 114, 101] ++ [32] ++ Lib.itoa p) [32] (by simp; omega)
  have q3 := tx_add ([115, 116, 111, 114, 101] ++ [32] ++ Lib.itoa p ++ [32]) (Lib.itoa k) (by simp; omega)
  have eM : [115, 116, 111, 114, 101] ++ placeL ⟨2, p, k⟩ = [115, 116, 111, 114, 101] ++ [32] ++ Lib.itoa p ++ [32] ++ Lib.itoa k := by simp [placeL, List.append_assoc]
  rw [eM]
  have c1 := fun (u : World) => decimal_any p u hp
  have c2 := fun (u : World) => decimal_any k u hk
  generalize [115, 116, 111, 114, 101] ++ [32] ++ Lib.itoa p ++ [32] ++ Lib.itoa k = M3 at q3 ⊢
  generalize [115, 116, 111, 114, 101] ++ [32] ++ Lib.itoa p ++ [32] = M2 at q3 q2
  generalize [115, 116, 111, 114, 101] ++ [32] ++ Lib.itoa p = M1 at q1 q2
  generalize Lib.itoa p = A at q1 c1
  generalize Lib.itoa k = B at q3 c2
  have e32 : tx [32] = ⟨#[32]⟩ := rfl
  have eK : tx [115, 116, 111, 114, 101] = ⟨#[115, 116, 111, 114, 101]⟩ := rfl
  rw [e32] at q2
  rw [e32, eK] at q0
  generalize ([115, 116, 111, 114, 101] ++ [32] : List UInt8) = M0 at q0 q1
  generalize tx A = TA at q1 c1
  generalize tx B = TB at q3 c2
  generalize tx M0 = T0 at q0 q1
  generalize tx M1 = T1 at q1 q2
  generalize tx M2 = T2 at q2 q3
  generalize tx M3 = T3 at q3 ⊢
  have HC := hid (And.intro c1 c2)
  clear hp hk la lb c1 c2 e32 eK eM
  go_enter Tryd.func20, Tryd.ntmps20
  go_upto_region 1 with fail
  rw [← hW0, ← hb]
  clear hW0 hb
  obtain ⟨⟨m0, m1, m2⟩, -⟩ := HV.out.1.three
  have fz : ∀ w', Grow W0.drew w' → (w'.cell? ⟨b, 0, none⟩ = some (.int .i64 2) ∧ w'.cell? ⟨b, 1, none⟩ = some (.int .i64 p) ∧ w'.cell? ⟨b, 2, none⟩ = some (.int .i64 k)) := fun w' g => (HV.out.1.grow ((Grow.refl _).drew.trans g)).three.1
  have HG := hid (HV.out.2.drew)
  go_wp2_with fail
  clear m0 m1 m2
  refine wp_region_tree (by kernel_rfl) (.read 1 (.read 2 (.read 6 (.read 7 (.read 11 (.read 12 (.fork 0 (.read 3 (.read 4 (.read 5 (.act 8 (.read 9 (.read 10 (.act 13 (.read 14 (.read 15 .done))))))))) 8 (.fork 0 (.read 3 (.read 4 (.read 5 (.read 9 (.read 10 (.act 13 (.read 14 (.read 15 .done)))))))) 13 (.act 0 (.read 3 (.read 4 (.read 5 (.read 9 (.read 10 (.read 14 (.read 15 .done)))))))))))))))) (by kernel_rfl) (by kernel_rfl) rfl (fun _ _ d _ _ h => by cases d <;> exact h) ?_
  simp only [Tr.over, List.getElem?_toArray, List.getElem?_cons_zero, List.getElem?_cons_succ]
  repeat (first
    | (refine wpT_move rfl ?_; simp only [Act.eval, Act.put, Array.getD_eq_getD_getElem?, List.getElem?_toArray, List.getElem?_cons_zero, List.getElem?_cons_succ, Option.getD_some, List.setIfInBounds_toArray, List.set_cons_zero, List.set_cons_succ])
    | (refine wpT_assign rfl ?_; simp only [Act.eval, Act.put, Array.getD_eq_getD_getElem?, List.getElem?_toArray, List.getElem?_cons_zero, List.getElem?_cons_succ, Option.getD_some, List.setIfInBounds_toArray, List.set_cons_zero, List.set_cons_succ])
    | (refine wpT_read (v := ?_) rfl ?_ ?_; rotate_left; (focus (intro w' hG; (obtain ⟨y0, y1, y2⟩ := fz w' hG); go_simp; try (with_reducible rfl))); simp only [Act.put, List.setIfInBounds_toArray, List.set_cons_zero, List.set_cons_succ])
    | (refine wpT_skip rfl ?_; simp only [Act.put, List.setIfInBounds_toArray, List.set_cons_zero, List.set_cons_succ]))
  refine wpT_fork ?_ ?_
  · skip
    refine wpT_act (by rfl) (exec_kd3 rfl) ((Grow.refl _).alloc _) ?_
    simp only [Act.put, List.setIfInBounds_toArray, List.set_cons_zero, List.set_cons_succ]
    have kd := kd3_atD W0
    repeat (first
      | (refine wpT_move rfl ?_; simp only [Act.eval, Act.put, Array.getD_eq_getD_getElem?, List.getElem?_toArray, List.getElem?_cons_zero, List.getElem?_cons_succ, Option.getD_some, List.setIfInBounds_toArray, List.set_cons_zero, List.set_cons_succ])
      | (refine wpT_assign rfl ?_; simp only [Act.eval, Act.put, Array.getD_eq_getD_getElem?, List.getElem?_toArray, List.getElem?_cons_zero, List.getElem?_cons_succ, Option.getD_some, List.setIfInBounds_toArray, List.set_cons_zero, List.set_cons_succ])
      | (refine wpT_read (v := ?_) rfl ?_ ?_; rotate_left; (focus (intro w' hG; (obtain ⟨kd1, kd2⟩ := kd w' hG; have z0 := q0 w'); go_simp; try (with_reducible rfl))); simp only [Act.put, List.setIfInBounds_toArray, List.set_cons_zero, List.set_cons_succ])
      | (refine wpT_skip rfl ?_; simp only [Act.put, List.setIfInBounds_toArray, List.set_cons_zero, List.set_cons_succ]))
    refine wpT_call (f := ?_) (args := ?_) (by rfl) ?_ ?_
    rotate_left 2; focus (go_simp; constructor <;> with_reducible rfl)
    refine ((HC.out.1 _)).mono ?_
    rintro e w1 ⟨rfl, g1⟩
    refine ⟨_, rfl, g1, ?_⟩
    simp only [Act.put, List.setIfInBounds_toArray, List.set_cons_zero, List.set_cons_succ]
    repeat (first
      | (refine wpT_move rfl ?_; simp only [Act.eval, Act.put, Array.getD_eq_getD_getElem?, List.getElem?_toArray, List.getElem?_cons_zero, List.getElem?_cons_succ, Option.getD_some, List.setIfInBounds_toArray, List.set_cons_zero, List.set_cons_succ])
      | (refine wpT_assign rfl ?_; simp only [Act.eval, Act.put, Array.getD_eq_getD_getElem?, List.getElem?_toArray, List.getElem?_cons_zero, List.getElem?_cons_succ, Option.getD_some, List.setIfInBounds_toArray, List.set_cons_zero, List.set_cons_succ])
      | (refine wpT_read (v := ?_) rfl ?_ ?_; rotate_left; (focus (intro w' hG; (have z1 := q1 w'; have z2 := q2 w'); go_simp; try (with_reducible rfl))); simp only [Act.put, List.setIfInBounds_toArray, List.set_cons_zero, List.set_cons_succ])
      | (refine wpT_skip rfl ?_; simp only [Act.put, List.setIfInBounds_toArray, List.set_cons_zero, List.set_cons_succ]))
    refine wpT_call (f := ?_) (args := ?_) (by rfl) ?_ ?_
    rotate_left 2; focus (go_simp; constructor <;> with_reducible rfl)
    refine ((HC.out.2 _)).mono ?_
    rintro e w2 ⟨rfl, g2⟩
    refine ⟨_, rfl, g2, ?_⟩
    simp only [Act.put, List.setIfInBounds_toArray, List.set_cons_zero, List.set_cons_succ]
    repeat (first
      | (refine wpT_move rfl ?_; simp only [Act.eval, Act.put, Array.getD_eq_getD_getElem?, List.getElem?_toArray, List.getElem?_cons_zero, List.getElem?_cons_succ, Option.getD_some, List.setIfInBounds_toArray, List.set_cons_zero, List.set_cons_succ])
      | (refine wpT_assign rfl ?_; simp only [Act.eval, Act.put, Array.getD_eq_getD_getElem?, List.getElem?_toArray, List.getElem?_cons_zero, List.getElem?_cons_succ, Option.getD_some, List.setIfInBounds_toArray, List.set_cons_zero, List.set_cons_succ])
      | (refine wpT_read (v := ?_) rfl ?_ ?_; rotate_left; (focus (intro w' hG; (have z3 := q3 w'); go_simp; try (with_reducible rfl))); simp only [Act.put, List.setIfInBounds_toArray, List.set_cons_zero, List.set_cons_succ])
      | (refine wpT_skip rfl ?_; simp only [Act.put, List.setIfInBounds_toArray, List.set_cons_zero, List.set_cons_succ]))
    refine wpT_done ?_
    go_wp2
    go_ret
    exact ⟨rfl, ((HG.out.alloc _).trans g1).trans g2⟩
  · skip
    refine wpT_call (f := ?_) (args := ?_) (by rfl) ?_ ?_
    rotate_left 2; focus (go_simp; constructor <;> with_reducible rfl)
    refine ((HC.out.1 _)).mono ?_
    rintro e w1 ⟨rfl, g1⟩
    refine ⟨_, rfl, g1, ?_⟩
    simp only [Act.put, List.setIfInBounds_toArray, List.set_cons_zero, List.set_cons_succ]
    refine wpT_fork ?_ ?_
    · skip
      refine wpT_act (by rfl) (exec_kd3 rfl) ((Grow.refl _).alloc _) ?_
      simp only [Act.put, List.setIfInBounds_toArray, List.set_cons_zero, List.set_cons_succ]
      have kd := kd3_at w1
      repeat (first
        | (refine wpT_move rfl ?_; simp only [Act.eval, Act.put, Array.getD_eq_getD_getElem?, List.getElem?_toArray, List.getElem?_cons_zero, List.getElem?_cons_succ, Option.getD_some, List.setIfInBounds_toArray, List.set_cons_zero, List.set_cons_succ])
        | (refine wpT_assign rfl ?_; simp only [Act.eval, Act.put, Array.getD_eq_getD_getElem?, List.getElem?_toArray, List.getElem?_cons_zero, List.getElem?_cons_succ, Option.getD_some, List.setIfInBounds_toArray, List.set_cons_zero, List.set_cons_succ])
        | (refine wpT_read (v := ?_) rfl ?_ ?_; rotate_left; (focus (intro w' hG; (obtain ⟨kd1, kd2⟩ := kd w' hG; have z0 := q0 w'; have z1 := q1 w'; have z2 := q2 w'); go_simp; try (with_reducible rfl))); simp only [Act.put, List.setIfInBounds_toArray, List.set_cons_zero, List.set_cons_succ])
        | (refine wpT_skip rfl ?_; simp only [Act.put, List.setIfInBounds_toArray, List.set_cons_zero, List.set_cons_succ]))
      refine wpT_call (f := ?_) (args := ?_) (by rfl) ?_ ?_
      rotate_left 2; focus (go_simp; constructor <;> with_reducible rfl)
      refine ((HC.out.2 _)).mono ?_
      rintro e w2 ⟨rfl, g2⟩
      refine ⟨_, rfl, g2, ?_⟩
      simp only [Act.put, List.setIfInBounds_toArray, List.set_cons_zero, List.set_cons_succ]
      repeat (first
        | (refine wpT_move rfl ?_; simp only [Act.eval, Act.put, Array.getD_eq_getD_getElem?, List.getElem?_toArray, List.getElem?_cons_zero, List.getElem?_cons_succ, Option.getD_some, List.setIfInBounds_toArray, List.set_cons_zero, List.set_cons_succ])
        | (refine wpT_assign rfl ?_; simp only [Act.eval, Act.put, Array.getD_eq_getD_getElem?, List.getElem?_toArray, List.getElem?_cons_zero, List.getElem?_cons_succ, Option.getD_some, List.setIfInBounds_toArray, List.set_cons_zero, List.set_cons_succ])
        | (refine wpT_read (v := ?_) rfl ?_ ?_; rotate_left; (focus (intro w' hG; (have z3 := q3 w'); go_simp; try (with_reducible rfl))); simp only [Act.put, List.setIfInBounds_toArray, List.set_cons_zero, List.set_cons_succ])
        | (refine wpT_skip rfl ?_; simp only [Act.put, List.setIfInBounds_toArray, List.set_cons_zero, List.set_cons_succ]))
      refine wpT_done ?_
      go_wp2
      go_ret
      exact ⟨rfl, ((HG.out.trans g1).alloc _).trans g2⟩
    · skip
      refine wpT_call (f := ?_) (args := ?_) (by rfl) ?_ ?_
      rotate_left 2; focus (go_simp; constructor <;> with_reducible rfl)
      refine ((HC.out.2 _)).mono ?_
      rintro e w2 ⟨rfl, g2⟩
      refine ⟨_, rfl, g2, ?_⟩
      simp only [Act.put, List.setIfInBounds_toArray, List.set_cons_zero, List.set_cons_succ]
      refine wpT_act (by rfl) (exec_kd3 rfl) ((Grow.refl _).alloc _) ?_
      simp only [Act.put, List.setIfInBounds_toArray, List.set_cons_zero, List.set_cons_succ]
      have kd := kd3_at w2
      repeat (first
        | (refine wpT_move rfl ?_; simp only [Act.eval, Act.put, Array.getD_eq_getD_getElem?, List.getElem?_toArray, List.getElem?_cons_zero, List.getElem?_cons_succ, Option.getD_some, List.setIfInBounds_toArray, List.set_cons_zero, List.set_cons_succ])
        | (refine wpT_assign rfl ?_; simp only [Act.eval, Act.put, Array.getD_eq_getD_getElem?, List.getElem?_toArray, List.getElem?_cons_zero, List.getElem?_cons_succ, Option.getD_some, List.setIfInBounds_toArray, List.set_cons_zero, List.set_cons_succ])
        | (refine wpT_read (v := ?_) rfl ?_ ?_; rotate_left; (focus (intro w' hG; (obtain ⟨kd1, kd2⟩ := kd w' hG; have z0 := q0 w'; have z1 := q1 w'; have z2 := q2 w'; have z3 := q3 w'); go_simp; try (with_reducible rfl))); simp only [Act.put, List.setIfInBounds_toArray, List.set_cons_zero, List.set_cons_succ])
        | (refine wpT_skip rfl ?_; simp only [Act.put, List.setIfInBounds_toArray, List.set_cons_zero, List.set_cons_succ]))
      refine wpT_done ?_
      go_wp2
      go_ret
      exact ⟨rfl, ((HG.out.trans g1).trans g2).alloc _⟩

set_option maxHeartbeats 4000000 in
theorem rtext_3 (p k : Int) (w : World) : Calls Tryd.prog 20 #[.agg #[.int .i64 3, .int .i64 p, .int .i64 k]] w fun e w' => e = .returned (.string (tx [98, 97, 114, 114, 105, 101, 114])) ∧ Grow w w' := by
  obtain ⟨W0, hW0⟩ : ∃ W0, W0 = w.alloc (.cells #[.int .i64 3, .int .i64 p, .int .i64 k] 43) := ⟨_, rfl⟩
  have HV : Hid (VarAt W0 w.heap.size [.int .i64 3, .int .i64 p, .int .i64 k] ∧ Grow w W0) := by rw [hW0]; exact ⟨VarAt.new w [.int .i64 3, .int .i64 p, .int .i64 k] _, (Grow.refl w).alloc _⟩
  obtain ⟨b, hb⟩ : ∃ b, b = w.heap.size := ⟨_, rfl⟩
  rw [← hb] at HV
  obtain ⟨⟨m0, m1, m2⟩, -⟩ := HV.out.1.three
  go_enter Tryd.func20, Tryd.ntmps20
  go_upto_region 1 with fail
  rw [← hW0, ← hb]
  clear hW0 hb
  go_wp2
  go_ret
  exact ⟨rfl, HV.out.2⟩

set_option maxHeartbeats 4000000 in
theorem rtext_lo (o p k : Int) (w : World) (h : o < 1) : Calls Tryd.prog 20 #[.agg #[.int .i64 o, .int .i64 p, .int .i64 k]] w fun e w' => e = .returned (.string (tx [])) ∧ Grow w w' := by
  obtain ⟨W0, hW0⟩ : ∃ W0, W0 = w.alloc (.cells #[.int .i64 o, .int .i64 p, .int .i64 k] 43) := ⟨_, rfl⟩
  have HV : Hid (VarAt W0 w.heap.size [.int .i64 o, .int .i64 p, .int .i64 k] ∧ Grow w W0) := by rw [hW0]; exact ⟨VarAt.new w [.int .i64 o, .int .i64 p, .int .i64 k] _, (Grow.refl w).alloc _⟩
  obtain ⟨b, hb⟩ : ∃ b, b = w.heap.size := ⟨_, rfl⟩
  rw [← hb] at HV
  obtain ⟨⟨m0, m1, m2⟩, -⟩ := HV.out.1.three
  have n3 : (o == 3) = false := neqI (by omega)
  go_enter Tryd.func20, Tryd.ntmps20
  go_upto_region 1 with fail
  rw [← hW0, ← hb]
  clear hW0 hb
  go_wp2
  go_ret
  exact ⟨rfl, HV.out.2⟩

set_option maxHeartbeats 4000000 in
theorem rtext_hi (o p k : Int) (w : World) (h : 3 < o) : Calls Tryd.prog 20 #[.agg #[.int .i64 o, .int .i64 p, .int .i64 k]] w fun e w' => e = .returned (.string (tx [])) ∧ Grow w w' := by
  obtain ⟨W0, hW0⟩ : ∃ W0, W0 = w.alloc (.cells #[.int .i64 o, .int .i64 p, .int .i64 k] 43) := ⟨_, rfl⟩
  have HV : Hid (VarAt W0 w.heap.size [.int .i64 o, .int .i64 p, .int .i64 k] ∧ Grow w W0) := by rw [hW0]; exact ⟨VarAt.new w [.int .i64 o, .int .i64 p, .int .i64 k] _, (Grow.refl w).alloc _⟩
  obtain ⟨b, hb⟩ : ∃ b, b = w.heap.size := ⟨_, rfl⟩
  rw [← hb] at HV
  obtain ⟨⟨m0, m1, m2⟩, -⟩ := HV.out.1.three
  have n3 : (o == 3) = false := neqI (by omega)
  have h1 : ¬ o < 1 := by omega
  go_enter Tryd.func20, Tryd.ntmps20
  go_upto_region 1 with fail
  rw [← hW0, ← hb]
  clear hW0 hb
  go_wp2
  go_ret
  exact ⟨rfl, HV.out.2⟩

theorem rtext_any (x : Sp) (w : World) (hp : (Lit.int .i64 x.p).wf = true) (hk : (Lit.int .i64 x.k).wf = true) : Calls Tryd.prog 20 #[.agg #[.int .i64 x.o, .int .i64 x.p, .int .i64 x.k]] w fun e w' => e = .returned (.string (tx (txtL x))) ∧ Grow w w' := by
  obtain ⟨o, p, k⟩ := x
  simp only at hp hk ⊢
  unfold txtL
  by_cases h1 : o = 1
  · subst h1; exact rtext_1 p k w hp hk
  · by_cases h2 : o = 2
    · subst h2; exact rtext_2 p k w hp hk
    · by_cases h3 : o = 3
      · subst h3; exact rtext_3 p k w
      · simp only [if_neg h1, if_neg h2, if_neg h3]
        by_cases h0 : o < 1
        · exact rtext_lo o p k w h0
        · exact rtext_hi o p k w (by omega)
end Go.Proofs.YtpmmlocigaehnaaDoor
