/-
  The walk of allotmentlaw02.CrcPuts: it returns true, and nothing that was there is written. Conditions: none but the reading of its arguments.
-/
import Derived.Test.YtddnfhiegoeecaaWalkTurn
namespace Go.Proofs.Ytddnfhiegoeecaa
open Go.RowKit
set_option linter.unusedVariables false
set_option linter.unusedSimpArgs false

set_option maxHeartbeats 4000000 in
theorem crcPuts_walk (v : Value) (zs : List Int) (w : World) (h : Rd .u8 w.heap.size w v zs) (ho : Oct zs) :
    Calls Try.prog 5 #[v] w fun e w' => e = .returned (.bool true) ∧ Below w.heap.size w w' := by
  obtain ⟨ys, hys⟩ : ∃ ys, zs.take 40 = ys := ⟨_, rfl⟩
  have hoy : Oct ys := by rw [← hys]; exact ho.take 40
  have hly : ys.length ≤ 40 := by rw [← hys, List.length_take]; omega
  have HY : Hid (zs.take 40 = ys) := hys
  clear hys
  obtain ⟨ps, hps⟩ : ∃ ps, ys ++ le 4 (chk 0 ys : Nat) = ps := ⟨_, rfl⟩
  have hop : Oct ps := by rw [← hps]; exact hoy.append (oct_le _ _)
  have hlp : ps.length ≤ 1000000 := by rw [← hps, List.length_append, le_length]; omega
  have HTK : Hid (taken ps = (ys, 0)) := by
    show taken ps = (ys, 0)
    rw [← hps, taken_append _ _ (le_length _ _), if_pos rfl]
  have HP : Hid (ys ++ le 4 (chk 0 ys : Nat) = ps) := hps
  clear hps
  go_enter Try.func5, Try.ntmps5
  go_wp2_with fail
  refine (few_any _ zs _ 40 _ _ rfl h (by omega)).mono ?_
  rintro e w1 ⟨v1, rfl, ho1, hb1⟩
  rw [HY.out] at ho1
  go_wp2_with fail
  refine (put_any _ ys _ _ ho1.rd hoy (by omega)).mono ?_
  rintro e w2 ⟨v2, rfl, ho2, hb2⟩
  rw [HP.out] at ho2
  have hb12 := hb1.trans (hb2.mono hb1.size)
  replace ho1 := ho1.below hb2 (Nat.le_refl _)
  go_wp2_with fail
  refine (take_any _ ps _ _ ho2.rd hop hlp).mono ?_
  rintro e w3 ⟨v3, rfl, ho3, hb3⟩
  rw [HTK.out] at ho3 ⊢
  replace ho3 : Own .u8 w2.heap.size w3 v3 ys := ho3
  have hb13 := hb12.trans (hb3.mono hb12.size)
  replace ho1 := ho1.below hb3 (Nat.le_refl _)
  replace ho2 := ho2.below hb3 (Nat.le_refl _)
  have hs1 : ∀ w', Grow w3.drew w' → (convert 22 9 v1).run Try.prog w' = .ok (.string (strOfNums ys)) w' := fun w' hg => (ho1.rd.below (Grow.trans (Grow.refl w3).drew hg)).string 22 9 5 Try.underlying22 Try.underlying5 Try.underlying9
  have hs2 : ∀ w', Grow w3.drew w' → (convert 22 9 v2).run Try.prog w' = .ok (.string (strOfNums ps)) w' := fun w' hg => (ho2.rd.below (Grow.trans (Grow.refl w3).drew hg)).string 22 9 5 Try.underlying22 Try.underlying5 Try.underlying9
  have hs3 : ∀ w', Grow w3.drew w' → (convert 22 9 v3).run Try.prog w' = .ok (.string (strOfNums ys)) w' := fun w' hg => (ho3.rd.below (Grow.trans (Grow.refl w3).drew hg)).string 22 9 5 Try.underlying22 Try.underlying5 Try.underlying9
  have hr1 := ho1.rd
  clear ho2 ho3 ho1
  go_wp2
  refine wp_region_sched (by kernel_rfl) [(0, false), (1, false), (2, false), (3, true), (4, false), (5, false), (6, false), (7, false), (8, false), (9, false), (10, false), (11, false), (12, false), (13, false), (14, false), (15, false), (16, false), (17, false), (18, false), (19, false), (20, false), (21, true), (22, false), (23, false), (24, false), (25, false), (26, true), (27, false), (28, false)] (by kernel_rfl) (by kernel_rfl) rfl (fun _ _ d _ _ h => by cases d <;> exact h) ?_
  simp only [inOrder, List.filterMap_cons, List.filterMap_nil, List.getElem?_toArray, List.getElem?_cons_zero, List.getElem?_cons_succ, Option.map_some]
  repeat (first
    | (refine wpS_move rfl ?_; simp only [Act.eval, Act.put, Array.getD_eq_getD_getElem?, List.getElem?_toArray, List.getElem?_cons_zero, List.getElem?_cons_succ, Option.getD_some, List.setIfInBounds_toArray, List.set_cons_zero, List.set_cons_succ])
    | (refine wpS_assign rfl ?_; simp only [Act.eval, Act.put, Array.getD_eq_getD_getElem?, List.getElem?_toArray, List.getElem?_cons_zero, List.getElem?_cons_succ, Option.getD_some, List.setIfInBounds_toArray, List.set_cons_zero, List.set_cons_succ])
    | (refine wpS_read (v := ?_) rfl ?_ ?_; rotate_left; (focus (intro w' hG; go_simp; try (with_reducible rfl))); simp only [Act.put, List.setIfInBounds_toArray, List.set_cons_zero, List.set_cons_succ]))
  refine wpS_call (f := ?_) (args := ?_) (by rfl) ?_ ?_
  rotate_left 2; focus (go_simp; constructor <;> with_reducible rfl)
  refine (rput_any _ ys _ _ hr1.drew hoy (by omega)).mono ?_
  rintro e w4 ⟨v4, rfl, ho4, hb4⟩
  refine ⟨v4, rfl, hb4, ?_⟩
  rw [HP.out] at ho4
  have hg4 : Grow w3.drew w4 := hb4
  replace hs1 : ∀ w', Grow w4 w' → (convert 22 9 v1).run Try.prog w' = .ok (.string (strOfNums ys)) w' := fun w' hg => hs1 w' (hg4.trans hg)
  replace hs2 : ∀ w', Grow w4 w' → (convert 22 9 v2).run Try.prog w' = .ok (.string (strOfNums ps)) w' := fun w' hg => hs2 w' (hg4.trans hg)
  replace hs3 : ∀ w', Grow w4 w' → (convert 22 9 v3).run Try.prog w' = .ok (.string (strOfNums ys)) w' := fun w' hg => hs3 w' (hg4.trans hg)
  have hs4 : ∀ w', Grow w4 w' → (convert 22 9 v4).run Try.prog w' = .ok (.string (strOfNums ps)) w' := fun w' hg => (ho4.rd.below hg).string 22 9 5 Try.underlying22 Try.underlying5 Try.underlying9
  simp only [Act.put, List.setIfInBounds_toArray, List.set_cons_zero, List.set_cons_succ]
  repeat (first
    | (refine wpS_move rfl ?_; simp only [Act.eval, Act.put, Array.getD_eq_getD_getElem?, List.getElem?_toArray, List.getElem?_cons_zero, List.getElem?_cons_succ, Option.getD_some, List.setIfInBounds_toArray, List.set_cons_zero, List.set_cons_succ])
    | (refine wpS_assign rfl ?_; simp only [Act.eval, Act.put, Array.getD_eq_getD_getElem?, List.getElem?_toArray, List.getElem?_cons_zero, List.getElem?_cons_succ, Option.getD_some, List.setIfInBounds_toArray, List.set_cons_zero, List.set_cons_succ])
    | (refine wpS_read (v := ?_) rfl ?_ ?_; rotate_left; (focus (intro w' hG; go_simp; try (with_reducible rfl))); simp only [Act.put, List.setIfInBounds_toArray, List.set_cons_zero, List.set_cons_succ]))
  refine wpS_call (f := ?_) (args := ?_) (by rfl) ?_ ?_
  rotate_left 2; focus (go_simp; constructor <;> with_reducible rfl)
  refine (few_any _ zs _ 40 _ _ rfl (h.below (hb13.trans ((Below.refl w.heap.size w3).drew.trans (hb4.mono hb13.size)))) (by omega)).mono ?_
  rintro e w5 ⟨v5, rfl, ho5, hb5⟩
  refine ⟨v5, rfl, hb5, ?_⟩
  rw [HY.out] at ho5
  have hs5 : ∀ w', Grow w5 w' → (convert 22 9 v5).run Try.prog w' = .ok (.string (strOfNums ys)) w' := fun w' hg => (ho5.rd.below hg).string 22 9 5 Try.underlying22 Try.underlying5 Try.underlying9
  clear hs1 hs2 hs3 hs4
  simp only [Act.put, List.setIfInBounds_toArray, List.set_cons_zero, List.set_cons_succ]
  repeat (first
    | (refine wpS_move rfl ?_; simp only [Act.eval, Act.put, Array.getD_eq_getD_getElem?, List.getElem?_toArray, List.getElem?_cons_zero, List.getElem?_cons_succ, Option.getD_some, List.setIfInBounds_toArray, List.set_cons_zero, List.set_cons_succ])
    | (refine wpS_assign rfl ?_; simp only [Act.eval, Act.put, Array.getD_eq_getD_getElem?, List.getElem?_toArray, List.getElem?_cons_zero, List.getElem?_cons_succ, Option.getD_some, List.setIfInBounds_toArray, List.set_cons_zero, List.set_cons_succ])
    | (refine wpS_read (v := ?_) rfl ?_ ?_; rotate_left; (focus (intro w' hG; go_simp; try (with_reducible rfl))); simp only [Act.put, List.setIfInBounds_toArray, List.set_cons_zero, List.set_cons_succ]))
  refine wpS_call (f := ?_) (args := ?_) (by rfl) ?_ ?_
  rotate_left 2; focus (go_simp; constructor <;> with_reducible rfl)
  refine (lives_any _).mono ?_
  rintro e w6 ⟨rfl, hb6⟩
  refine ⟨_, rfl, hb6, ?_⟩
  clear hs5
  simp only [Act.put, List.setIfInBounds_toArray, List.set_cons_zero, List.set_cons_succ]
  repeat (first
    | (refine wpS_move rfl ?_; simp only [Act.eval, Act.put, Array.getD_eq_getD_getElem?, List.getElem?_toArray, List.getElem?_cons_zero, List.getElem?_cons_succ, Option.getD_some, List.setIfInBounds_toArray, List.set_cons_zero, List.set_cons_succ])
    | (refine wpS_assign rfl ?_; simp only [Act.eval, Act.put, Array.getD_eq_getD_getElem?, List.getElem?_toArray, List.getElem?_cons_zero, List.getElem?_cons_succ, Option.getD_some, List.setIfInBounds_toArray, List.set_cons_zero, List.set_cons_succ])
    | (refine wpS_read (v := ?_) rfl ?_ ?_; rotate_left; (focus (intro w' hG; go_simp; try (with_reducible rfl))); simp only [Act.put, List.setIfInBounds_toArray, List.set_cons_zero, List.set_cons_succ]))
  refine wpS_nil ?_
  have hg6 : Grow w3 w6 := Grow.trans (Grow.trans (Grow.trans (Grow.refl w3).drew hg4) hb5) hb6
  go_wp2
  go_ret
  exact ⟨rfl, hb13.trans (hg6.below hb13.size)⟩
end Go.Proofs.Ytddnfhiegoeecaa
