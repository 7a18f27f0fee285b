/-
  The walk of the law CellSeals. Conditions: none but the reading of its argument.
-/
import Derived.Test.YtlhkjmhdhpgjkaaW8Com
namespace Go.Proofs.Ytlhkjmhdhpgjkaa
open Go.RowKit
set_option linter.unusedVariables false
set_option linter.unusedSimpArgs false

set_option maxHeartbeats 8000000 in
theorem cellSeals_walk (v : Value) (zs : List Int) (w : World) (h : Rd .u8 w.heap.size w v zs) (ho : Oct zs) :
    Calls Try.prog 3 #[v] w fun e w' => e = .returned (.bool true) ∧ Below w.heap.size w w' := by
  obtain ⟨fs, hfs⟩ := name_list (zs.take 20)
  have hof : Oct fs := by rw [← hfs]; exact ho.take 20
  have hlf : fs.length ≤ 20 := by rw [← hfs, List.length_take]; omega
  have HF : Hid (zs.take 20 = fs) := hfs
  obtain ⟨os, hos⟩ := name_list (fillL zs 16)
  have hoo : Oct os := by rw [← hos]; exact oct_fill ho 16
  have HL16 : Hid (os.length = 16) := by show os.length = 16; rw [← hos, fillL_length]
  have HLO : Hid (os.length ≤ 1000000) := by show os.length ≤ 1000000; have := HL16.out; omega
  have HO : Hid (fillL zs 16 = os) := hos
  obtain ⟨cs, hcs⟩ := name_list (os ++ le 4 (chk 0 os : Nat))
  have hoc : Oct cs := by rw [← hcs]; exact hoo.append (oct_le _ _)
  have HLC : Hid (cs.length ≤ 1000000) := by show cs.length ≤ 1000000; rw [← hcs, List.length_append, le_length, HL16.out]; omega
  have HOP : Hid (opened cs = (os, 0)) := by show opened cs = (os, 0); rw [← hcs]; exact opened_sealed os HL16.out
  have HC : Hid (os ++ le 4 (chk 0 os : Nat) = cs) := hcs
  clear hfs hos hcs
  go_enter Try.func3, Try.ntmps3
  go_wp2_with fail
  refine (fewB_any _ zs _ 20 _ _ rfl h (by omega)).mono ?_
  rintro e w1 ⟨v1, rfl, ho1, hb1⟩
  rw [HF.out] at ho1
  have hr1 := ho1.rd
  obtain ⟨a1, c1, hv1⟩ := ho1.shape
  subst hv1
  clear ho1
  go_wp2_with fail
  refine (fill_any _ zs _ 16 _ _ rfl (h.below hb1) (by omega)).mono ?_
  rintro e w2 ⟨v2, rfl, ho2, hb2⟩
  rw [HO.out] at ho2
  have hr2 := ho2.rd
  obtain ⟨a2, c2, hv2⟩ := ho2.shape
  rw [HL16.out] at hv2
  subst hv2
  have hse := seal_yes a2 c2 os _ w2 hr2 hoo
  rw [HC.out] at hse
  clear ho2
  go_wp2_with fail
  refine hse.mono ?_
  rintro e w3 ⟨v3, rfl, ho3, hb3⟩
  have hr3 := ho3.rd
  have hop := open_any v3 cs _ w3 hr3 hoc HLC.out
  rw [HOP.out] at hop
  clear ho3 hse
  go_wp2_with fail
  refine hop.mono ?_
  rintro e w4 ⟨v4, rfl, ho4, hb4⟩
  have hr4 := ho4.rd
  have hg14 : Grow w1 w4 := (Grow.trans hb2 hb3).trans hb4
  have hg4 : Grow w w4 := Grow.trans hb1 hg14
  have Y4 : Hid (Rd .u8 w4.heap.size w4 v3 cs ∧ Rd .u8 w4.heap.size w4 v4 os ∧ Rd .u8 w4.heap.size w4 (.slice a2 16 c2) os ∧ Grow w w4) := ⟨(hr3.below hb4).size, hr4, ((hr2.below hb3).size.below hb4).size, hg4⟩
  have hr14 := (hr1.below hg14).size
  clear hop ho4 hr3 hr4 hr2 hr1 hg4 hg14 hb1 hb2 hb3 hb4 h
  by_cases h16 : fs.length = 16
  · rw [h16] at hr14 ⊢
    have hse := seal_yes a1 c1 fs _ w4 hr14 hof
    have HLF : Hid (fs.length ≤ 1000000) := by show fs.length ≤ 1000000; omega
    have HPT : Hid (∀ u, Rd .u8 u.heap.size u (.slice a1 16 c1) fs → Calls Try.prog 13 #[.slice a1 16 c1] u fun e w' => ∃ v', e = .returned v' ∧ Own .u8 u.heap.size w' v' (fs ++ le 4 (chk 0 fs : Nat)) ∧ Below u.heap.size u w') := fun u hu => rput_any _ fs _ u hu hof HLF.out
    generalize fs ++ le 4 (chk 0 fs : Nat) = rs at hse HPT
    clear h16 hlf
    go_wp2_with fail
    refine hse.mono ?_
    rintro e w5 ⟨v5, rfl, ho5, hb5⟩
    have k9 : ∀ w', Grow w5.drew w' → (convert 22 9 v5).run Try.prog w' = .ok (.string (strOfNums rs)) w' := fun w' g => (Rd.below ho5.rd ((Grow.refl _).drew.trans g)).string 22 9 5 Try.underlying22 Try.underlying5 Try.underlying9
    have hpf := HPT.out w5.drew (Rd.below hr14 (hb5.drew)).size
    have Y5 : Hid (Rd .u8 w5.heap.size w5 v3 cs ∧ Rd .u8 w5.heap.size w5 v4 os ∧ Rd .u8 w5.heap.size w5 (.slice a2 16 c2) os ∧ Grow w w5) := ⟨(Y4.out.1.below hb5).size, (Y4.out.2.1.below hb5).size, (Y4.out.2.2.1.below hb5).size, Y4.out.2.2.2.trans hb5⟩
    obtain ⟨a5, c5, hv5⟩ := ho5.shape
    subst hv5
    clear ho5 hb5 hse Y4
    go_wp2
    refine wp_region_sched (by kernel_rfl) [(0, false), (1, false), (2, false), (3, false), (4, false), (5, false), (6, false), (7, false), (8, false), (9, false), (10, true), (11, false), (12, false), (13, false), (14, false)] (by kernel_rfl) (by kernel_rfl) rfl (fun _ _ d _ _ h => by cases d <;> exact h) ?_
    simp only [inOrder, List.filterMap_cons, List.filterMap_nil, List.getElem?_toArray, List.getElem?_cons_zero, List.getElem?_cons_succ, Option.map_some]
    repeat (first
      | (refine wpS_move rfl ?_; simp only [Act.eval, Act.put, Array.getD_eq_getD_getElem?, List.getElem?_toArray, List.getElem?_cons_zero, List.getElem?_cons_succ, Option.getD_some, List.setIfInBounds_toArray, List.set_cons_zero, List.set_cons_succ])
      | (refine wpS_assign rfl ?_; simp only [Act.eval, Act.put, Array.getD_eq_getD_getElem?, List.getElem?_toArray, List.getElem?_cons_zero, List.getElem?_cons_succ, Option.getD_some, List.setIfInBounds_toArray, List.set_cons_zero, List.set_cons_succ])
      | (refine wpS_read (v := ?_) rfl ?_ ?_; rotate_left; (focus (intro w' hG; skip; go_simp; try (with_reducible rfl))); simp only [Act.put, List.setIfInBounds_toArray, List.set_cons_zero, List.set_cons_succ])
      | (refine wpS_skip rfl ?_; simp only [Act.put, List.setIfInBounds_toArray, List.set_cons_zero, List.set_cons_succ]))
    refine wpS_call (f := ?_) (args := ?_) (by rfl) ?_ ?_
    rotate_left 2; focus (go_simp; constructor <;> with_reducible rfl)
    refine (hpf).mono ?_
    rintro e w6 ⟨v6, rfl, ho6, g6⟩
    refine ⟨v6, rfl, g6, ?_⟩
    simp only [Act.put, List.setIfInBounds_toArray, List.set_cons_zero, List.set_cons_succ]
    have k10 : ∀ w', Grow w6 w' → (convert 22 9 (v6)).run Try.prog w' = .ok (.string (strOfNums rs)) w' := fun w' g => (Rd.below (Own.rd ho6) g).string 22 9 5 Try.underlying22 Try.underlying5 Try.underlying9
    repeat (first
      | (refine wpS_move rfl ?_; simp only [Act.eval, Act.put, Array.getD_eq_getD_getElem?, List.getElem?_toArray, List.getElem?_cons_zero, List.getElem?_cons_succ, Option.getD_some, List.setIfInBounds_toArray, List.set_cons_zero, List.set_cons_succ])
      | (refine wpS_assign rfl ?_; simp only [Act.eval, Act.put, Array.getD_eq_getD_getElem?, List.getElem?_toArray, List.getElem?_cons_zero, List.getElem?_cons_succ, Option.getD_some, List.setIfInBounds_toArray, List.set_cons_zero, List.set_cons_succ])
      | (refine wpS_read (v := ?_) rfl ?_ ?_; rotate_left; (focus (intro w' hG; skip; go_simp; try (with_reducible rfl))); simp only [Act.put, List.setIfInBounds_toArray, List.set_cons_zero, List.set_cons_succ])
      | (refine wpS_skip rfl ?_; simp only [Act.put, List.setIfInBounds_toArray, List.set_cons_zero, List.set_cons_succ]))
    refine wpS_nil ?_
    have g56 : Grow w5 w6 := (Grow.refl w5).drew.trans g6
    have Y : Hid (Rd .u8 w6.heap.size w6 v3 cs ∧ Rd .u8 w6.heap.size w6 v4 os ∧ Rd .u8 w6.heap.size w6 (.slice a2 16 c2) os ∧ Grow w w6) := ⟨(Y5.out.1.below g56).size, (Y5.out.2.1.below g56).size, (Y5.out.2.2.1.below g56).size, Y5.out.2.2.2.trans g56⟩
    clear k9 k10 hpf Y5 g56 g6 ho6
    have k5 : ∀ w', Grow w6.drew w' → (convert 22 9 v3).run Try.prog w' = .ok (.string (strOfNums cs)) w' := fun w' g => (Rd.below Y.out.1 ((Grow.refl _).drew.trans g)).string 22 9 5 Try.underlying22 Try.underlying5 Try.underlying9
    have k7 : ∀ w', Grow w6.drew w' → (convert 22 9 v4).run Try.prog w' = .ok (.string (strOfNums os)) w' := fun w' g => (Rd.below Y.out.2.1 ((Grow.refl _).drew.trans g)).string 22 9 5 Try.underlying22 Try.underlying5 Try.underlying9
    have k4 : ∀ w', Grow w6.drew w' → (convert 22 9 (.slice a2 16 c2)).run Try.prog w' = .ok (.string (strOfNums os)) w' := fun w' g => (Rd.below Y.out.2.2.1 ((Grow.refl _).drew.trans g)).string 22 9 5 Try.underlying22 Try.underlying5 Try.underlying9
    have hpt := rput_any (.slice a2 16 c2) os _ w6.drew (Rd.below Y.out.2.2.1 (Grow.refl _).drew) hoo HLO.out
    rw [HC.out] at hpt
    go_wp2
    refine wp_region_tree (by kernel_rfl) (.read 0 (.read 1 (.read 2 (.read 3 (.read 4 (.read 5 (.act 6 (.read 7 (.read 8 (.read 9 (.read 10 (.read 11 (.read 12 (.read 13 (.read 14 (.read 15 (.read 16 (.read 17 (.read 18 (.read 19 (.read 20 (.read 21 (.fork 22 (.read 23 (.act 24 (.read 25 (.read 26 (.read 27 (.read 28 (.act 29 (.read 30 (.read 31 .done))))))))) 24 (.read 25 (.act 22 (.read 23 (.read 26 (.read 27 (.read 28 (.act 29 (.read 30 (.read 31 .done)))))))))))))))))))))))))))))))) (by kernel_rfl) (by kernel_rfl) rfl (fun _ _ d _ _ h => by cases d <;> exact h) ?_
    simp only [Tr.over, List.getElem?_toArray, List.getElem?_cons_zero, List.getElem?_cons_succ]
    repeat (first
      | (refine wpT_move rfl ?_; simp only [Act.eval, Act.put, Array.getD_eq_getD_getElem?, List.getElem?_toArray, List.getElem?_cons_zero, List.getElem?_cons_succ, Option.getD_some, List.setIfInBounds_toArray, List.set_cons_zero, List.set_cons_succ])
      | (refine wpT_assign rfl ?_; simp only [Act.eval, Act.put, Array.getD_eq_getD_getElem?, List.getElem?_toArray, List.getElem?_cons_zero, List.getElem?_cons_succ, Option.getD_some, List.setIfInBounds_toArray, List.set_cons_zero, List.set_cons_succ])
      | (refine wpT_read (v := ?_) rfl ?_ ?_; rotate_left; (focus (intro w' hG; skip; go_simp; try (with_reducible rfl))); simp only [Act.put, List.setIfInBounds_toArray, List.set_cons_zero, List.set_cons_succ])
      | (refine wpT_skip rfl ?_; simp only [Act.put, List.setIfInBounds_toArray, List.set_cons_zero, List.set_cons_succ]))
    refine wpT_call (f := ?_) (args := ?_) (by rfl) ?_ ?_
    rotate_left 2; focus (go_simp; constructor <;> with_reducible rfl)
    refine (hpt).mono ?_
    rintro e w7 ⟨v7, rfl, ho7, g7⟩
    refine ⟨v7, rfl, g7, ?_⟩
    simp only [Act.put, List.setIfInBounds_toArray, List.set_cons_zero, List.set_cons_succ]
    have k6 : ∀ w', Grow w7 w' → (convert 22 9 (v7)).run Try.prog w' = .ok (.string (strOfNums cs)) w' := fun w' g => (Rd.below (Own.rd ho7) g).string 22 9 5 Try.underlying22 Try.underlying5 Try.underlying9
    have k7' : ∀ w', Grow w7 w' → (convert 22 9 v4).run Try.prog w' = .ok (.string (strOfNums os)) w' := fun w' g => k7 w' (Grow.trans g7 g)
    have k4' : ∀ w', Grow w7 w' → (convert 22 9 (.slice a2 16 c2)).run Try.prog w' = .ok (.string (strOfNums os)) w' := fun w' g => k4 w' (Grow.trans g7 g)
    repeat (first
      | (refine wpT_move rfl ?_; simp only [Act.eval, Act.put, Array.getD_eq_getD_getElem?, List.getElem?_toArray, List.getElem?_cons_zero, List.getElem?_cons_succ, Option.getD_some, List.setIfInBounds_toArray, List.set_cons_zero, List.set_cons_succ])
      | (refine wpT_assign rfl ?_; simp only [Act.eval, Act.put, Array.getD_eq_getD_getElem?, List.getElem?_toArray, List.getElem?_cons_zero, List.getElem?_cons_succ, Option.getD_some, List.setIfInBounds_toArray, List.set_cons_zero, List.set_cons_succ])
      | (refine wpT_read (v := ?_) rfl ?_ ?_; rotate_left; (focus (intro w' hG; skip; go_simp; try (with_reducible rfl))); simp only [Act.put, List.setIfInBounds_toArray, List.set_cons_zero, List.set_cons_succ])
      | (refine wpT_skip rfl ?_; simp only [Act.put, List.setIfInBounds_toArray, List.set_cons_zero, List.set_cons_succ]))
    refine wpT_fork ?_ ?_
    · skip
      refine wpT_call (f := ?_) (args := ?_) (by rfl) ?_ ?_
      rotate_left 2; focus (go_simp; constructor <;> with_reducible rfl)
      refine (zero_any w7).mono ?_
      rintro e wz ⟨vz, rfl, hoz, hgz⟩
      refine ⟨vz, rfl, hgz, ?_⟩
      simp only [Act.put, List.setIfInBounds_toArray, List.set_cons_zero, List.set_cons_succ]
      have kz : ∀ w', Grow wz w' → (convert 22 9 (vz)).run Try.prog w' = .ok (.string (strOfNums (List.replicate 16 0))) w' := fun w' g => (Rd.below (Own.rd hoz) g).string 22 9 5 Try.underlying22 Try.underlying5 Try.underlying9
      repeat (first
        | (refine wpT_move rfl ?_; simp only [Act.eval, Act.put, Array.getD_eq_getD_getElem?, List.getElem?_toArray, List.getElem?_cons_zero, List.getElem?_cons_succ, Option.getD_some, List.setIfInBounds_toArray, List.set_cons_zero, List.set_cons_succ])
        | (refine wpT_assign rfl ?_; simp only [Act.eval, Act.put, Array.getD_eq_getD_getElem?, List.getElem?_toArray, List.getElem?_cons_zero, List.getElem?_cons_succ, Option.getD_some, List.setIfInBounds_toArray, List.set_cons_zero, List.set_cons_succ])
        | (refine wpT_read (v := ?_) rfl ?_ ?_; rotate_left; (focus (intro w' hG; skip; go_simp; try (with_reducible rfl))); simp only [Act.put, List.setIfInBounds_toArray, List.set_cons_zero, List.set_cons_succ])
        | (refine wpT_skip rfl ?_; simp only [Act.put, List.setIfInBounds_toArray, List.set_cons_zero, List.set_cons_succ]))
      obtain ⟨vm, wm, hm, hom, hgm⟩ := make16 wz
      refine wpT_act (v := vm) (w' := wm) (by rfl) (by simp [execOp, Act.eval, hm, Result.andThen]) hgm ?_
      simp only [Act.put, List.setIfInBounds_toArray, List.set_cons_zero, List.set_cons_succ]
      have km : ∀ w', Grow wm w' → (convert 22 9 (vm)).run Try.prog w' = .ok (.string (strOfNums (List.replicate 16 0))) w' := fun w' g => (Rd.below (Own.rd hom) g).string 22 9 5 Try.underlying22 Try.underlying5 Try.underlying9
      repeat (first
        | (refine wpT_move rfl ?_; simp only [Act.eval, Act.put, Array.getD_eq_getD_getElem?, List.getElem?_toArray, List.getElem?_cons_zero, List.getElem?_cons_succ, Option.getD_some, List.setIfInBounds_toArray, List.set_cons_zero, List.set_cons_succ])
        | (refine wpT_assign rfl ?_; simp only [Act.eval, Act.put, Array.getD_eq_getD_getElem?, List.getElem?_toArray, List.getElem?_cons_zero, List.getElem?_cons_succ, Option.getD_some, List.setIfInBounds_toArray, List.set_cons_zero, List.set_cons_succ])
        | (refine wpT_read (v := ?_) rfl ?_ ?_; rotate_left; (focus (intro w' hG; skip; go_simp; try (with_reducible rfl))); simp only [Act.put, List.setIfInBounds_toArray, List.set_cons_zero, List.set_cons_succ])
        | (refine wpT_skip rfl ?_; simp only [Act.put, List.setIfInBounds_toArray, List.set_cons_zero, List.set_cons_succ]))
      refine wpT_call (f := ?_) (args := ?_) (by rfl) ?_ ?_
      rotate_left 2; focus (go_simp; constructor <;> with_reducible rfl)
      refine (lives8_any wm).mono ?_
      rintro e w8 ⟨rfl, g8⟩
      refine ⟨_, rfl, g8, ?_⟩
      simp only [Act.put, List.setIfInBounds_toArray, List.set_cons_zero, List.set_cons_succ]
      repeat (first
        | (refine wpT_move rfl ?_; simp only [Act.eval, Act.put, Array.getD_eq_getD_getElem?, List.getElem?_toArray, List.getElem?_cons_zero, List.getElem?_cons_succ, Option.getD_some, List.setIfInBounds_toArray, List.set_cons_zero, List.set_cons_succ])
        | (refine wpT_assign rfl ?_; simp only [Act.eval, Act.put, Array.getD_eq_getD_getElem?, List.getElem?_toArray, List.getElem?_cons_zero, List.getElem?_cons_succ, Option.getD_some, List.setIfInBounds_toArray, List.set_cons_zero, List.set_cons_succ])
        | (refine wpT_read (v := ?_) rfl ?_ ?_; rotate_left; (focus (intro w' hG; skip; go_simp; try (with_reducible rfl))); simp only [Act.put, List.setIfInBounds_toArray, List.set_cons_zero, List.set_cons_succ])
        | (refine wpT_skip rfl ?_; simp only [Act.put, List.setIfInBounds_toArray, List.set_cons_zero, List.set_cons_succ]))
      refine wpT_done ?_
      go_wp2
      go_ret
      exact ⟨rfl, ((Y.out.2.2.2.trans ((Grow.refl _).drew.trans g7)).trans (hgz.trans hgm)).trans g8⟩
    · skip
      obtain ⟨vm, wm, hm, hom, hgm⟩ := make16 w7
      refine wpT_act (v := vm) (w' := wm) (by rfl) (by simp [execOp, Act.eval, hm, Result.andThen]) hgm ?_
      simp only [Act.put, List.setIfInBounds_toArray, List.set_cons_zero, List.set_cons_succ]
      have km : ∀ w', Grow wm w' → (convert 22 9 (vm)).run Try.prog w' = .ok (.string (strOfNums (List.replicate 16 0))) w' := fun w' g => (Rd.below (Own.rd hom) g).string 22 9 5 Try.underlying22 Try.underlying5 Try.underlying9
      repeat (first
        | (refine wpT_move rfl ?_; simp only [Act.eval, Act.put, Array.getD_eq_getD_getElem?, List.getElem?_toArray, List.getElem?_cons_zero, List.getElem?_cons_succ, Option.getD_some, List.setIfInBounds_toArray, List.set_cons_zero, List.set_cons_succ])
        | (refine wpT_assign rfl ?_; simp only [Act.eval, Act.put, Array.getD_eq_getD_getElem?, List.getElem?_toArray, List.getElem?_cons_zero, List.getElem?_cons_succ, Option.getD_some, List.setIfInBounds_toArray, List.set_cons_zero, List.set_cons_succ])
        | (refine wpT_read (v := ?_) rfl ?_ ?_; rotate_left; (focus (intro w' hG; skip; go_simp; try (with_reducible rfl))); simp only [Act.put, List.setIfInBounds_toArray, List.set_cons_zero, List.set_cons_succ])
        | (refine wpT_skip rfl ?_; simp only [Act.put, List.setIfInBounds_toArray, List.set_cons_zero, List.set_cons_succ]))
      refine wpT_call (f := ?_) (args := ?_) (by rfl) ?_ ?_
      rotate_left 2; focus (go_simp; constructor <;> with_reducible rfl)
      refine (zero_any wm).mono ?_
      rintro e wz ⟨vz, rfl, hoz, hgz⟩
      refine ⟨vz, rfl, hgz, ?_⟩
      simp only [Act.put, List.setIfInBounds_toArray, List.set_cons_zero, List.set_cons_succ]
      have kz : ∀ w', Grow wz w' → (convert 22 9 (vz)).run Try.prog w' = .ok (.string (strOfNums (List.replicate 16 0))) w' := fun w' g => (Rd.below (Own.rd hoz) g).string 22 9 5 Try.underlying22 Try.underlying5 Try.underlying9
      repeat (first
        | (refine wpT_move rfl ?_; simp only [Act.eval, Act.put, Array.getD_eq_getD_getElem?, List.getElem?_toArray, List.getElem?_cons_zero, List.getElem?_cons_succ, Option.getD_some, List.setIfInBounds_toArray, List.set_cons_zero, List.set_cons_succ])
        | (refine wpT_assign rfl ?_; simp only [Act.eval, Act.put, Array.getD_eq_getD_getElem?, List.getElem?_toArray, List.getElem?_cons_zero, List.getElem?_cons_succ, Option.getD_some, List.setIfInBounds_toArray, List.set_cons_zero, List.set_cons_succ])
        | (refine wpT_read (v := ?_) rfl ?_ ?_; rotate_left; (focus (intro w' hG; skip; go_simp; try (with_reducible rfl))); simp only [Act.put, List.setIfInBounds_toArray, List.set_cons_zero, List.set_cons_succ])
        | (refine wpT_skip rfl ?_; simp only [Act.put, List.setIfInBounds_toArray, List.set_cons_zero, List.set_cons_succ]))
      refine wpT_call (f := ?_) (args := ?_) (by rfl) ?_ ?_
      rotate_left 2; focus (go_simp; constructor <;> with_reducible rfl)
      refine (lives8_any wz).mono ?_
      rintro e w8 ⟨rfl, g8⟩
      refine ⟨_, rfl, g8, ?_⟩
      simp only [Act.put, List.setIfInBounds_toArray, List.set_cons_zero, List.set_cons_succ]
      repeat (first
        | (refine wpT_move rfl ?_; simp only [Act.eval, Act.put, Array.getD_eq_getD_getElem?, List.getElem?_toArray, List.getElem?_cons_zero, List.getElem?_cons_succ, Option.getD_some, List.setIfInBounds_toArray, List.set_cons_zero, List.set_cons_succ])
        | (refine wpT_assign rfl ?_; simp only [Act.eval, Act.put, Array.getD_eq_getD_getElem?, List.getElem?_toArray, List.getElem?_cons_zero, List.getElem?_cons_succ, Option.getD_some, List.setIfInBounds_toArray, List.set_cons_zero, List.set_cons_succ])
        | (refine wpT_read (v := ?_) rfl ?_ ?_; rotate_left; (focus (intro w' hG; skip; go_simp; try (with_reducible rfl))); simp only [Act.put, List.setIfInBounds_toArray, List.set_cons_zero, List.set_cons_succ])
        | (refine wpT_skip rfl ?_; simp only [Act.put, List.setIfInBounds_toArray, List.set_cons_zero, List.set_cons_succ]))
      refine wpT_done ?_
      go_wp2
      go_ret
      exact ⟨rfl, ((Y.out.2.2.2.trans ((Grow.refl _).drew.trans g7)).trans (hgm.trans hgz)).trans g8⟩
  · have hse := seal_no a1 fs.length c1 w4 h16 (by simp only [maxLen]; omega)
    have h16' : ¬ (fs.length : Int) = 16 := by omega
    have d16 : ((fs.length : Int) == 16) = false := by rw [beq_eq_false_iff_ne]; exact h16'
    clear h16
    go_wp2_with fail
    refine hse.mono ?_
    rintro e w5 ⟨rfl, rfl⟩
    go_wp2
    refine wp_region_sched (by kernel_rfl) [(0, false), (1, false), (2, false), (3, false), (4, false), (5, false), (6, false), (7, false), (8, false), (9, false), (10, true), (11, false), (12, false), (13, false), (14, false)] (by kernel_rfl) (by kernel_rfl) rfl (fun _ _ d _ _ h => by cases d <;> exact h) ?_
    simp only [inOrder, List.filterMap_cons, List.filterMap_nil, List.getElem?_toArray, List.getElem?_cons_zero, List.getElem?_cons_succ, Option.map_some]
    repeat (first
      | (refine wpS_move rfl ?_; simp only [Act.eval, Act.put, Array.getD_eq_getD_getElem?, List.getElem?_toArray, List.getElem?_cons_zero, List.getElem?_cons_succ, Option.getD_some, List.setIfInBounds_toArray, List.set_cons_zero, List.set_cons_succ])
      | (refine wpS_assign rfl ?_; simp only [Act.eval, Act.put, Array.getD_eq_getD_getElem?, List.getElem?_toArray, List.getElem?_cons_zero, List.getElem?_cons_succ, Option.getD_some, List.setIfInBounds_toArray, List.set_cons_zero, List.set_cons_succ])
      | (refine wpS_read (v := ?_) rfl ?_ ?_; rotate_left; (focus (intro w' hG; skip; go_simp; try (with_reducible rfl))); simp only [Act.put, List.setIfInBounds_toArray, List.set_cons_zero, List.set_cons_succ])
      | (refine wpS_skip rfl ?_; simp only [Act.put, List.setIfInBounds_toArray, List.set_cons_zero, List.set_cons_succ]))
    refine wpS_nil ?_
    have Y : Hid (Rd .u8 w4.drew.heap.size w4.drew v3 cs ∧ Rd .u8 w4.drew.heap.size w4.drew v4 os ∧ Rd .u8 w4.drew.heap.size w4.drew (.slice a2 16 c2) os ∧ Grow w w4.drew) := ⟨Y4.out.1.drew, Y4.out.2.1.drew, Y4.out.2.2.1.drew, Y4.out.2.2.2.drew⟩
    generalize w4.drew = w6 at Y ⊢
    clear Y4 hr14 hse
    have k5 : ∀ w', Grow w6.drew w' → (convert 22 9 v3).run Try.prog w' = .ok (.string (strOfNums cs)) w' := fun w' g => (Rd.below Y.out.1 ((Grow.refl _).drew.trans g)).string 22 9 5 Try.underlying22 Try.underlying5 Try.underlying9
    have k7 : ∀ w', Grow w6.drew w' → (convert 22 9 v4).run Try.prog w' = .ok (.string (strOfNums os)) w' := fun w' g => (Rd.below Y.out.2.1 ((Grow.refl _).drew.trans g)).string 22 9 5 Try.underlying22 Try.underlying5 Try.underlying9
    have k4 : ∀ w', Grow w6.drew w' → (convert 22 9 (.slice a2 16 c2)).run Try.prog w' = .ok (.string (strOfNums os)) w' := fun w' g => (Rd.below Y.out.2.2.1 ((Grow.refl _).drew.trans g)).string 22 9 5 Try.underlying22 Try.underlying5 Try.underlying9
    have hpt := rput_any (.slice a2 16 c2) os _ w6.drew (Rd.below Y.out.2.2.1 (Grow.refl _).drew) hoo HLO.out
    rw [HC.out] at hpt
    go_wp2
    refine wp_region_tree (by kernel_rfl) (.read 0 (.read 1 (.read 2 (.read 3 (.read 4 (.read 5 (.act 6 (.read 7 (.read 8 (.read 9 (.read 10 (.read 11 (.read 12 (.read 13 (.read 14 (.read 15 (.read 16 (.read 17 (.read 18 (.read 19 (.read 20 (.read 21 (.fork 22 (.read 23 (.act 24 (.read 25 (.read 26 (.read 27 (.read 28 (.act 29 (.read 30 (.read 31 .done))))))))) 24 (.read 25 (.act 22 (.read 23 (.read 26 (.read 27 (.read 28 (.act 29 (.read 30 (.read 31 .done)))))))))))))))))))))))))))))))) (by kernel_rfl) (by kernel_rfl) rfl (fun _ _ d _ _ h => by cases d <;> exact h) ?_
    simp only [Tr.over, List.getElem?_toArray, List.getElem?_cons_zero, List.getElem?_cons_succ]
    repeat (first
      | (refine wpT_move rfl ?_; simp only [Act.eval, Act.put, Array.getD_eq_getD_getElem?, List.getElem?_toArray, List.getElem?_cons_zero, List.getElem?_cons_succ, Option.getD_some, List.setIfInBounds_toArray, List.set_cons_zero, List.set_cons_succ])
      | (refine wpT_assign rfl ?_; simp only [Act.eval, Act.put, Array.getD_eq_getD_getElem?, List.getElem?_toArray, List.getElem?_cons_zero, List.getElem?_cons_succ, Option.getD_some, List.setIfInBounds_toArray, List.set_cons_zero, List.set_cons_succ])
      | (refine wpT_read (v := ?_) rfl ?_ ?_; rotate_left; (focus (intro w' hG; skip; go_simp; try (with_reducible rfl))); simp only [Act.put, List.setIfInBounds_toArray, List.set_cons_zero, List.set_cons_succ])
      | (refine wpT_skip rfl ?_; simp only [Act.put, List.setIfInBounds_toArray, List.set_cons_zero, List.set_cons_succ]))
    refine wpT_call (f := ?_) (args := ?_) (by rfl) ?_ ?_
    rotate_left 2; focus (go_simp; constructor <;> with_reducible rfl)
    refine (hpt).mono ?_
    rintro e w7 ⟨v7, rfl, ho7, g7⟩
    refine ⟨v7, rfl, g7, ?_⟩
    simp only [Act.put, List.setIfInBounds_toArray, List.set_cons_zero, List.set_cons_succ]
    have k6 : ∀ w', Grow w7 w' → (convert 22 9 (v7)).run Try.prog w' = .ok (.string (strOfNums cs)) w' := fun w' g => (Rd.below (Own.rd ho7) g).string 22 9 5 Try.underlying22 Try.underlying5 Try.underlying9
    have k7' : ∀ w', Grow w7 w' → (convert 22 9 v4).run Try.prog w' = .ok (.string (strOfNums os)) w' := fun w' g => k7 w' (Grow.trans g7 g)
    have k4' : ∀ w', Grow w7 w' → (convert 22 9 (.slice a2 16 c2)).run Try.prog w' = .ok (.string (strOfNums os)) w' := fun w' g => k4 w' (Grow.trans g7 g)
    repeat (first
      | (refine wpT_move rfl ?_; simp only [Act.eval, Act.put, Array.getD_eq_getD_getElem?, List.getElem?_toArray, List.getElem?_cons_zero, List.getElem?_cons_succ, Option.getD_some, List.setIfInBounds_toArray, List.set_cons_zero, List.set_cons_succ])
      | (refine wpT_assign rfl ?_; simp only [Act.eval, Act.put, Array.getD_eq_getD_getElem?, List.getElem?_toArray, List.getElem?_cons_zero, List.getElem?_cons_succ, Option.getD_some, List.setIfInBounds_toArray, List.set_cons_zero, List.set_cons_succ])
      | (refine wpT_read (v := ?_) rfl ?_ ?_; rotate_left; (focus (intro w' hG; skip; go_simp; try (with_reducible rfl))); simp only [Act.put, List.setIfInBounds_toArray, List.set_cons_zero, List.set_cons_succ])
      | (refine wpT_skip rfl ?_; simp only [Act.put, List.setIfInBounds_toArray, List.set_cons_zero, List.set_cons_succ]))
    refine wpT_fork ?_ ?_
    · skip
      refine wpT_call (f := ?_) (args := ?_) (by rfl) ?_ ?_
      rotate_left 2; focus (go_simp; constructor <;> with_reducible rfl)
      refine (zero_any w7).mono ?_
      rintro e wz ⟨vz, rfl, hoz, hgz⟩
      refine ⟨vz, rfl, hgz, ?_⟩
      simp only [Act.put, List.setIfInBounds_toArray, List.set_cons_zero, List.set_cons_succ]
      have kz : ∀ w', Grow wz w' → (convert 22 9 (vz)).run Try.prog w' = .ok (.string (strOfNums (List.replicate 16 0))) w' := fun w' g => (Rd.below (Own.rd hoz) g).string 22 9 5 Try.underlying22 Try.underlying5 Try.underlying9
      repeat (first
        | (refine wpT_move rfl ?_; simp only [Act.eval, Act.put, Array.getD_eq_getD_getElem?, List.getElem?_toArray, List.getElem?_cons_zero, List.getElem?_cons_succ, Option.getD_some, List.setIfInBounds_toArray, List.set_cons_zero, List.set_cons_succ])
        | (refine wpT_assign rfl ?_; simp only [Act.eval, Act.put, Array.getD_eq_getD_getElem?, List.getElem?_toArray, List.getElem?_cons_zero, List.getElem?_cons_succ, Option.getD_some, List.setIfInBounds_toArray, List.set_cons_zero, List.set_cons_succ])
        | (refine wpT_read (v := ?_) rfl ?_ ?_; rotate_left; (focus (intro w' hG; skip; go_simp; try (with_reducible rfl))); simp only [Act.put, List.setIfInBounds_toArray, List.set_cons_zero, List.set_cons_succ])
        | (refine wpT_skip rfl ?_; simp only [Act.put, List.setIfInBounds_toArray, List.set_cons_zero, List.set_cons_succ]))
      obtain ⟨vm, wm, hm, hom, hgm⟩ := make16 wz
      refine wpT_act (v := vm) (w' := wm) (by rfl) (by simp [execOp, Act.eval, hm, Result.andThen]) hgm ?_
      simp only [Act.put, List.setIfInBounds_toArray, List.set_cons_zero, List.set_cons_succ]
      have km : ∀ w', Grow wm w' → (convert 22 9 (vm)).run Try.prog w' = .ok (.string (strOfNums (List.replicate 16 0))) w' := fun w' g => (Rd.below (Own.rd hom) g).string 22 9 5 Try.underlying22 Try.underlying5 Try.underlying9
      repeat (first
        | (refine wpT_move rfl ?_; simp only [Act.eval, Act.put, Array.getD_eq_getD_getElem?, List.getElem?_toArray, List.getElem?_cons_zero, List.getElem?_cons_succ, Option.getD_some, List.setIfInBounds_toArray, List.set_cons_zero, List.set_cons_succ])
        | (refine wpT_assign rfl ?_; simp only [Act.eval, Act.put, Array.getD_eq_getD_getElem?, List.getElem?_toArray, List.getElem?_cons_zero, List.getElem?_cons_succ, Option.getD_some, List.setIfInBounds_toArray, List.set_cons_zero, List.set_cons_succ])
        | (refine wpT_read (v := ?_) rfl ?_ ?_; rotate_left; (focus (intro w' hG; skip; go_simp; try (with_reducible rfl))); simp only [Act.put, List.setIfInBounds_toArray, List.set_cons_zero, List.set_cons_succ])
        | (refine wpT_skip rfl ?_; simp only [Act.put, List.setIfInBounds_toArray, List.set_cons_zero, List.set_cons_succ]))
      refine wpT_call (f := ?_) (args := ?_) (by rfl) ?_ ?_
      rotate_left 2; focus (go_simp; constructor <;> with_reducible rfl)
      refine (lives8_any wm).mono ?_
      rintro e w8 ⟨rfl, g8⟩
      refine ⟨_, rfl, g8, ?_⟩
      simp only [Act.put, List.setIfInBounds_toArray, List.set_cons_zero, List.set_cons_succ]
      repeat (first
        | (refine wpT_move rfl ?_; simp only [Act.eval, Act.put, Array.getD_eq_getD_getElem?, List.getElem?_toArray, List.getElem?_cons_zero, List.getElem?_cons_succ, Option.getD_some, List.setIfInBounds_toArray, List.set_cons_zero, List.set_cons_succ])
        | (refine wpT_assign rfl ?_; simp only [Act.eval, Act.put, Array.getD_eq_getD_getElem?, List.getElem?_toArray, List.getElem?_cons_zero, List.getElem?_cons_succ, Option.getD_some, List.setIfInBounds_toArray, List.set_cons_zero, List.set_cons_succ])
        | (refine wpT_read (v := ?_) rfl ?_ ?_; rotate_left; (focus (intro w' hG; skip; go_simp; try (with_reducible rfl))); simp only [Act.put, List.setIfInBounds_toArray, List.set_cons_zero, List.set_cons_succ])
        | (refine wpT_skip rfl ?_; simp only [Act.put, List.setIfInBounds_toArray, List.set_cons_zero, List.set_cons_succ]))
      refine wpT_done ?_
      go_wp2
      go_ret
      exact ⟨rfl, ((Y.out.2.2.2.trans ((Grow.refl _).drew.trans g7)).trans (hgz.trans hgm)).trans g8⟩
    · skip
      obtain ⟨vm, wm, hm, hom, hgm⟩ := make16 w7
      refine wpT_act (v := vm) (w' := wm) (by rfl) (by simp [execOp, Act.eval, hm, Result.andThen]) hgm ?_
      simp only [Act.put, List.setIfInBounds_toArray, List.set_cons_zero, List.set_cons_succ]
      have km : ∀ w', Grow wm w' → (convert 22 9 (vm)).run Try.prog w' = .ok (.string (strOfNums (List.replicate 16 0))) w' := fun w' g => (Rd.below (Own.rd hom) g).string 22 9 5 Try.underlying22 Try.underlying5 Try.underlying9
      repeat (first
        | (refine wpT_move rfl ?_; simp only [Act.eval, Act.put, Array.getD_eq_getD_getElem?, List.getElem?_toArray, List.getElem?_cons_zero, List.getElem?_cons_succ, Option.getD_some, List.setIfInBounds_toArray, List.set_cons_zero, List.set_cons_succ])
        | (refine wpT_assign rfl ?_; simp only [Act.eval, Act.put, Array.getD_eq_getD_getElem?, List.getElem?_toArray, List.getElem?_cons_zero, List.getElem?_cons_succ, Option.getD_some, List.setIfInBounds_toArray, List.set_cons_zero, List.set_cons_succ])
        | (refine wpT_read (v := ?_) rfl ?_ ?_; rotate_left; (focus (intro w' hG; skip; go_simp; try (with_reducible rfl))); simp only [Act.put, List.setIfInBounds_toArray, List.set_cons_zero, List.set_cons_succ])
        | (refine wpT_skip rfl ?_; simp only [Act.put, List.setIfInBounds_toArray, List.set_cons_zero, List.set_cons_succ]))
      refine wpT_call (f := ?_) (args := ?_) (by rfl) ?_ ?_
      rotate_left 2; focus (go_simp; constructor <;> with_reducible rfl)
      refine (zero_any wm).mono ?_
      rintro e wz ⟨vz, rfl, hoz, hgz⟩
      refine ⟨vz, rfl, hgz, ?_⟩
      simp only [Act.put, List.setIfInBounds_toArray, List.set_cons_zero, List.set_cons_succ]
      have kz : ∀ w', Grow wz w' → (convert 22 9 (vz)).run Try.prog w' = .ok (.string (strOfNums (List.replicate 16 0))) w' := fun w' g => (Rd.below (Own.rd hoz) g).string 22 9 5 Try.underlying22 Try.underlying5 Try.underlying9
      repeat (first
        | (refine wpT_move rfl ?_; simp only [Act.eval, Act.put, Array.getD_eq_getD_getElem?, List.getElem?_toArray, List.getElem?_cons_zero, List.getElem?_cons_succ, Option.getD_some, List.setIfInBounds_toArray, List.set_cons_zero, List.set_cons_succ])
        | (refine wpT_assign rfl ?_; simp only [Act.eval, Act.put, Array.getD_eq_getD_getElem?, List.getElem?_toArray, List.getElem?_cons_zero, List.getElem?_cons_succ, Option.getD_some, List.setIfInBounds_toArray, List.set_cons_zero, List.set_cons_succ])
        | (refine wpT_read (v := ?_) rfl ?_ ?_; rotate_left; (focus (intro w' hG; skip; go_simp; try (with_reducible rfl))); simp only [Act.put, List.setIfInBounds_toArray, List.set_cons_zero, List.set_cons_succ])
        | (refine wpT_skip rfl ?_; simp only [Act.put, List.setIfInBounds_toArray, List.set_cons_zero, List.set_cons_succ]))
      refine wpT_call (f := ?_) (args := ?_) (by rfl) ?_ ?_
      rotate_left 2; focus (go_simp; constructor <;> with_reducible rfl)
      refine (lives8_any wz).mono ?_
      rintro e w8 ⟨rfl, g8⟩
      refine ⟨_, rfl, g8, ?_⟩
      simp only [Act.put, List.setIfInBounds_toArray, List.set_cons_zero, List.set_cons_succ]
      repeat (first
        | (refine wpT_move rfl ?_; simp only [Act.eval, Act.put, Array.getD_eq_getD_getElem?, List.getElem?_toArray, List.getElem?_cons_zero, List.getElem?_cons_succ, Option.getD_some, List.setIfInBounds_toArray, List.set_cons_zero, List.set_cons_succ])
        | (refine wpT_assign rfl ?_; simp only [Act.eval, Act.put, Array.getD_eq_getD_getElem?, List.getElem?_toArray, List.getElem?_cons_zero, List.getElem?_cons_succ, Option.getD_some, List.setIfInBounds_toArray, List.set_cons_zero, List.set_cons_succ])
        | (refine wpT_read (v := ?_) rfl ?_ ?_; rotate_left; (focus (intro w' hG; skip; go_simp; try (with_reducible rfl))); simp only [Act.put, List.setIfInBounds_toArray, List.set_cons_zero, List.set_cons_succ])
        | (refine wpT_skip rfl ?_; simp only [Act.put, List.setIfInBounds_toArray, List.set_cons_zero, List.set_cons_succ]))
      refine wpT_done ?_
      go_wp2
      go_ret
      exact ⟨rfl, ((Y.out.2.2.2.trans ((Grow.refl _).drew.trans g7)).trans (hgm.trans hgz)).trans g8⟩
end Go.Proofs.Ytlhkjmhdhpgjkaa
