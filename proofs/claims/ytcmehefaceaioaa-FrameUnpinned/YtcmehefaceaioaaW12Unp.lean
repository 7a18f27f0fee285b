/-
  The walk of FrameUnpinned. Conditions: the theorem's own.
-/
import Derived.Test.YtcmehefaceaioaaFraV
import Derived.Test.YtcmehefaceaioaaCelFill
import Derived.Test.YtcmehefaceaioaaBase

namespace Go.Proofs.Ytcmehefaceaioaa
open Go.RowKit
set_option linter.unusedVariables false
set_option linter.unusedSimpArgs false

set_option maxRecDepth 8000 in
set_option maxHeartbeats 4000000 in
theorem frameUnpinned_walk (v0 v3 : Value) (zs ys : List Int) (off n : Int) (w : World) (h0 : Rd .u8 w.heap.size w v0 zs) (h3 : Rd .u8 w.heap.size w v3 ys) :
    Calls Try.prog 8 #[v0, .int .i64 off, .int .i64 n, v3] w fun e w' => e = .returned (.bool true) ∧ Grow w w' := by
  obtain ⟨W1, hW1⟩ : ∃ W1, w.alloc (.cells zeroF 28) = W1 := ⟨_, rfl⟩
  have F1 := FrAt.new w 28
  rw [hW1] at F1
  have g1 : Grow w W1 := by rw [← hW1]; exact (Grow.refl w).alloc _
  obtain ⟨b, hb⟩ : ∃ b, w.heap.size = b := ⟨_, rfl⟩
  rw [hb] at F1
  have hlt1 := F1.lt
  have hF := fill_any v0 zs 32 32 _ W1 rfl (h0.v.grow g1).i (by omega)
  have HL : Hid ((fillL zs 32).length = 32) := fillL_length zs 32
  generalize fillL zs 32 = fs at hF HL
  have H1 : Hid (FrAt W1 b false false false 0 0 z32 ∧ Grow w W1 ∧ w.heap.size = b) := ⟨F1, g1, hb⟩
  obtain ⟨a0, c0, rfl⟩ := h0.v.shape
  obtain ⟨a3, c3, hv3⟩ := h3.v.shape
  subst hv3
  have H3 : Hid (Rd .u8 w.heap.size w (.slice a3 ys.length c3) ys) := h3
  clear F1 g1 h0 h3
  go_enter Try.func8, Try.ntmps8
  go_wp2_with fail
  (try rw [zeroF_lit])
  (try rw [hW1])
  refine hF.mono ?_
  rintro e w2 ⟨v2, rfl, ho2, g2⟩
  obtain ⟨a2, c2, hv2⟩ := ho2.v.shape
  rw [HL.out] at hv2
  subst hv2
  have hL := load_yes w2 b _ _ _ _ _ _ (H1.out.1.grow g2) 7 a2 c2 fs (ho2.v.rd.mono (fun i _ hi => by omega))
  have HG2 : Hid (Grow w w2) := H1.out.2.1.trans g2
  clear ho2 g2 hF hW1
  go_wp2_with fail
  (try rw [hb])
  refine hL.mono ?_
  rintro e w3 ⟨rfl, F3, u3⟩
  have hA := as_any w3 b _ _ _ _ _ _ F3
  have HG3 : Hid (Grow w w3 ∧ FrAt w3 b true false false 0 7 fs) := ⟨UpdS.new HG2.out u3 (fun i hi => by have := H1.out.2.2; omega), F3⟩
  clear hL F3 u3 hb
  go_wp2_with fail
  refine hA.mono ?_
  rintro e w4 ⟨rfl, g4⟩
  obtain ⟨W5, hW5⟩ : ∃ W5, w4.alloc (.cells #[.bool true, .bool false, .bool false, .int .i64 0, .int .i64 7, .string (strOfNums fs)] 30) = W5 := ⟨_, rfl⟩
  have V5 := VarAt.new w4 [.bool true, .bool false, .bool false, .int .i64 0, .int .i64 7, .string (strOfNums fs)] 30
  have g5 : Grow w4 W5 := by rw [← hW5]; exact (Grow.refl w4).alloc _
  have V5' : VarAt W5 w4.heap.size [.bool true, .bool false, .bool false, .int .i64 0, .int .i64 7, .string (strOfNums fs)] := by rw [← hW5]; exact V5
  have F5 := (HG3.out.2.grow g4).grow g5
  have hG := fget_free W5 b _ _ _ _ _ _ F5 off n (by omega)
  have HG5 : Hid (Grow w W5 ∧ FrAt W5 b true false false 0 7 fs ∧ VarAt W5 w4.heap.size [.bool true, .bool false, .bool false, .int .i64 0, .int .i64 7, .string (strOfNums fs)]) := ⟨(HG3.out.1.trans g4).trans g5, F5, V5'⟩
  have hW := fewB_any _ ys 40 40 _ W5 rfl (H3.out.v.grow HG5.out.1).i (by omega)
  generalize ys.take 40 = A at hW
  obtain ⟨X, hX⟩ : ∃ X, w4.heap.size = X := ⟨_, rfl⟩
  rw [hX] at HG5
  clear hA g4 g5 V5 V5' F5
  go_wp2_with fail
  (try rw [hW5])
  (try rw [hX])
  refine hG.mono ?_
  rintro e w6 ⟨rfl, rfl⟩
  clear hG hW5 hX
  go_wp2_with fail
  refine hW.mono ?_
  rintro e w6 ⟨v6, rfl, ho6, g6⟩
  have F6 := HG5.out.2.1.grow g6
  have hU := fput_free w6 b _ _ _ _ _ _ F6 off v6 (by omega)
  have hN := unpin_no w6 b _ _ _ _ _ _ F6 (by omega)
  obtain ⟨a6, c6, rfl⟩ := ho6.v.shape
  have gd : Grow w6 w6.drew := (Grow.refl w6).drew
  have fx : ∀ w', Grow w6.drew w' → (w'.cell? ⟨X, 0, none⟩ = some (.bool true) ∧ w'.cell? ⟨X, 1, none⟩ = some (.bool false) ∧ w'.cell? ⟨X, 2, none⟩ = some (.bool false) ∧ w'.cell? ⟨X, 3, none⟩ = some (.int .i64 0) ∧ w'.cell? ⟨X, 4, none⟩ = some (.int .i64 7) ∧ w'.cell? ⟨X, 5, none⟩ = some (.string (strOfNums fs))) := fun w' g => (((HG5.out.2.2.grow g6).grow gd).grow g).six.1
  have hA := as_any w6.drew b _ _ _ _ _ _ (F6.grow gd)
  have HG6 : Hid (Grow w w6) := HG5.out.1.trans g6
  clear ho6 g6 hW F6 HG5
  go_wp2_with fail
  refine hU.mono ?_
  rintro e w7 ⟨rfl, rfl⟩
  clear hU
  go_wp2_with fail
  refine hN.mono ?_
  rintro e w7 ⟨rfl, rfl⟩
  clear hN
  go_wp2
  refine wp_region_sched (by kernel_rfl) [(0, false), (1, false), (2, false), (3, false), (4, false), (5, false), (6, false), (7, false), (8, false), (9, false), (10, false), (11, false), (12, false), (13, false), (14, false), (15, false), (16, false), (18, false), (17, true), (19, false), (20, false), (21, false), (22, true), (23, false), (24, false)] (by kernel_rfl) (by kernel_rfl) rfl (fun _ _ d _ _ h => by cases d <;> exact h) ?_
  simp only [inOrder, List.filterMap_cons, List.filterMap_nil, List.getElem?_toArray, List.getElem?_cons_zero, List.getElem?_cons_succ, Option.map_some]
  repeat (first
    | (refine wpS_move rfl ?_; simp only [Act.eval, Act.put, Array.getD_eq_getD_getElem?, List.getElem?_toArray, List.getElem?_cons_zero, List.getElem?_cons_succ, Option.getD_some, List.setIfInBounds_toArray, List.set_cons_zero, List.set_cons_succ])
    | (refine wpS_assign rfl ?_; simp only [Act.eval, Act.put, Array.getD_eq_getD_getElem?, List.getElem?_toArray, List.getElem?_cons_zero, List.getElem?_cons_succ, Option.getD_some, List.setIfInBounds_toArray, List.set_cons_zero, List.set_cons_succ])
    | (refine wpS_read (v := ?_) rfl ?_ ?_; rotate_left; (focus (intro w' hG; obtain ⟨q0, q1, q2, q3, q4, q5⟩ := fx w' hG; go_simp; try (with_reducible rfl))); simp only [Act.put, List.setIfInBounds_toArray, List.set_cons_zero, List.set_cons_succ])
    | (refine wpS_skip rfl ?_; simp only [Act.put, List.setIfInBounds_toArray, List.set_cons_zero, List.set_cons_succ]))
  refine wpS_call (f := ?_) (args := ?_) (by rfl) ?_ ?_
  rotate_left 2; focus (go_simp; constructor <;> with_reducible rfl)
  refine (hA).mono ?_
  rintro e w7 ⟨rfl, g7⟩
  refine ⟨_, rfl, g7, ?_⟩
  simp only [Act.put, List.setIfInBounds_toArray, List.set_cons_zero, List.set_cons_succ]
  repeat (first
    | (refine wpS_move rfl ?_; simp only [Act.eval, Act.put, Array.getD_eq_getD_getElem?, List.getElem?_toArray, List.getElem?_cons_zero, List.getElem?_cons_succ, Option.getD_some, List.setIfInBounds_toArray, List.set_cons_zero, List.set_cons_succ])
    | (refine wpS_assign rfl ?_; simp only [Act.eval, Act.put, Array.getD_eq_getD_getElem?, List.getElem?_toArray, List.getElem?_cons_zero, List.getElem?_cons_succ, Option.getD_some, List.setIfInBounds_toArray, List.set_cons_zero, List.set_cons_succ])
    | (refine wpS_read (v := ?_) rfl ?_ ?_; rotate_left; (focus (intro w' hG; skip; go_simp; try (with_reducible rfl))); simp only [Act.put, List.setIfInBounds_toArray, List.set_cons_zero, List.set_cons_succ])
    | (refine wpS_skip rfl ?_; simp only [Act.put, List.setIfInBounds_toArray, List.set_cons_zero, List.set_cons_succ]))
  refine wpS_call (f := ?_) (args := ?_) (by rfl) ?_ ?_
  rotate_left 2; focus (go_simp; constructor <;> with_reducible rfl)
  refine (lives_any w7).mono ?_
  rintro e w8 ⟨rfl, g8⟩
  refine ⟨_, rfl, g8, ?_⟩
  simp only [Act.put, List.setIfInBounds_toArray, List.set_cons_zero, List.set_cons_succ]
  repeat (first
    | (refine wpS_move rfl ?_; simp only [Act.eval, Act.put, Array.getD_eq_getD_getElem?, List.getElem?_toArray, List.getElem?_cons_zero, List.getElem?_cons_succ, Option.getD_some, List.setIfInBounds_toArray, List.set_cons_zero, List.set_cons_succ])
    | (refine wpS_assign rfl ?_; simp only [Act.eval, Act.put, Array.getD_eq_getD_getElem?, List.getElem?_toArray, List.getElem?_cons_zero, List.getElem?_cons_succ, Option.getD_some, List.setIfInBounds_toArray, List.set_cons_zero, List.set_cons_succ])
    | (refine wpS_read (v := ?_) rfl ?_ ?_; rotate_left; (focus (intro w' hG; skip; go_simp; try (with_reducible rfl))); simp only [Act.put, List.setIfInBounds_toArray, List.set_cons_zero, List.set_cons_succ])
    | (refine wpS_skip rfl ?_; simp only [Act.put, List.setIfInBounds_toArray, List.set_cons_zero, List.set_cons_succ]))
  refine wpS_nil ?_
  go_wp2
  go_ret
  exact ⟨rfl, ((HG6.out.trans gd).trans g7).trans g8⟩
end Go.Proofs.Ytcmehefaceaioaa
