/-
  The walk of PartNews. Conditions: the theorem's own.
-/
import Derived.Test.YthdhfojogckflaaPrtW
import Derived.Deep.LoopGhost
namespace Go.Proofs.Ythdhfojogckflaa
open Go.RowKit
set_option linter.unusedVariables false
set_option linter.unusedSimpArgs false

theorem emptyL_repl (n : Nat) : emptyL (List.replicate n FS.empty) = true := (emptyL_iff _).2 (fun i hi => repl_at (by simpa using hi))
theorem dirN_repl (n j : Nat) (hj : j ≤ n) : dirN (List.replicate n FS.empty) j = [] := by
  unfold dirN
  have : (List.range j).filter (fun i => ((List.replicate n FS.empty).getD i FS.empty).d) = [] := by
    rw [List.filter_eq_nil_iff]
    intro i hi
    rw [List.mem_range] at hi
    rw [repl_at (by omega)]
    decide
  rw [this]; rfl

set_option maxRecDepth 8000 in
set_option maxHeartbeats 4000000 in
theorem partNews_walk (n : Int) (w : World) (hn : (Lit.int .i64 n).wf = true) : Calls Try.prog 5 #[.int .i64 n] w fun e w' => e = .returned (.bool true) ∧ Grow w w' := by
  have ha := around_any n 66 w hn (by omega) (by omega)
  generalize around n 66 = z at ha
  go_enter Try.func5, Try.ntmps5
  go_wp2_with fail
  refine ha.mono ?_
  rintro e w1 ⟨rfl, rfl⟩
  obtain ⟨A, hA⟩ : ∃ A, w.heap.size = A := ⟨_, rfl⟩
  obtain ⟨W, hW⟩ : ∃ W, w.alloc (.cells #[.int .i64 n, .int .i64 z] 3) = W := ⟨_, rfl⟩
  have V : VarAt W A [.int .i64 n, .int .i64 z] := by rw [← hW, ← hA]; exact VarAt.new w [.int .i64 n, .int .i64 z] 3
  have g0 : Grow w W := by rw [← hW]; exact (Grow.refl w).alloc _
  have H0 : Hid (VarAt W A [.int .i64 n, .int .i64 z] ∧ Grow w W) := ⟨V, g0⟩
  clear V g0 ha
  go_upto_region 2 with fail
  (try rw [hW])
  (try rw [hA])
  clear hW hA
  go_wp2
  go_loopg [4] 2 (fun m iv wr => ∃ j : Nat, m = 2 - j ∧ j ≤ 2 ∧ iv = .int .i64 j ∧ Hid (VarAt wr A [.int .i64 n, .int .i64 z] ∧ Grow w wr))
  case atStart => exact ⟨0, rfl, by omega, rfl, H0⟩
  case round =>
    clear H0
    obtain ⟨j, hj, hj2, rfl, HI⟩ := hrel
    have HK : Hid (gk = 2 - j) := hj
    clear hj
    by_cases hlt : j < 2
    · have hle : (j : Int) < 2 := by omega
      have HJ : Hid (j < 2) := hlt
      have hw0 : IntKind.i64.wrap ((j : Int) + 1) = ((j + 1 : Nat) : Int) := by rw [IntKind.wrap_i64]; omega
      obtain ⟨x, hx⟩ : ∃ x : Int, ∀ w', Grow wr w' → w'.cell? ⟨A, j, none⟩ = some (.int .i64 x) := by
        obtain rfl | rfl : j = 0 ∨ j = 1 := by omega
        · exact ⟨n, fun w' g => (HI.out.1.grow g).two.1.1⟩
        · exact ⟨z, fun w' g => (HI.out.1.grow g).two.1.2⟩
      have HX : Hid (∀ w', Grow wr w' → w'.cell? ⟨A, j, none⟩ = some (.int .i64 x)) := hx
      have c0 := hx wr (Grow.refl wr)
      clear hx hlt
      by_cases hin : 1 ≤ x ∧ x ≤ 64
      · obtain ⟨m, rfl, hm1, hm2⟩ : ∃ m : Nat, x = (m : Int) ∧ 1 ≤ m ∧ m ≤ 64 := ⟨x.toNat, by omega, by omega, by omega⟩
        have hnw := new_yes m wr hm1 hm2
        have hi1 : (1 : Int) ≤ (m : Int) := hin.1
        have hi2 : (m : Int) ≤ 64 := hin.2
        have HM : Hid (1 ≤ m ∧ m ≤ 64) := ⟨hm1, hm2⟩
        clear hin hm1 hm2
        go_wp2_with fail
        refine hnw.mono ?_
        rintro e w2 ⟨rfl, k2, g2⟩
        obtain ⟨P, hP⟩ : ∃ P, wr.heap.size + 1 = P := ⟨_, rfl⟩
        rw [hP] at k2 ⊢
        generalize wr.heap.size = b at k2 hP
        have HP : Hid (PtO w2 P b 0 (List.replicate m FS.empty) 0 ∧ Grow wr w2) := ⟨k2, g2⟩
        have c0 := HX.out w2 g2
        clear k2 g2 hP hnw
        go_wp2
        have gd : Grow w2 w2.drew := (Grow.refl w2).drew
        have kx : ∀ w', Grow w2.drew w' → w'.cell? ⟨A, j, none⟩ = some (.int .i64 (m : Int)) := fun w' g => HX.out w' (HP.out.2.trans (gd.trans g))
        refine wp_region_sched (by kernel_rfl) [(0, false), (2, false), (3, false), (4, false), (5, false), (1, true), (6, false), (7, false), (8, false), (9, true), (10, false), (11, false), (12, false), (13, false), (14, true), (15, false), (16, false), (17, false), (18, false), (19, true), (20, false), (21, false), (22, false)] (by kernel_rfl) (by kernel_rfl) rfl (fun _ _ d _ _ h => by cases d <;> exact h) ?_
        simp only [inOrder, List.filterMap_cons, List.filterMap_nil, List.getElem?_toArray, List.getElem?_cons_zero, List.getElem?_cons_succ, Option.map_some]
        repeat (first
          | (refine wpS_move rfl ?_; simp only [Act.eval, Act.put, Array.getD_eq_getD_getElem?, List.getElem?_toArray, List.getElem?_cons_zero, List.getElem?_cons_succ, Option.getD_some, List.setIfInBounds_toArray, List.set_cons_zero, List.set_cons_succ])
          | (refine wpS_assign rfl ?_; simp only [Act.eval, Act.put, Array.getD_eq_getD_getElem?, List.getElem?_toArray, List.getElem?_cons_zero, List.getElem?_cons_succ, Option.getD_some, List.setIfInBounds_toArray, List.set_cons_zero, List.set_cons_succ])
          | (refine wpS_read (v := ?_) rfl ?_ ?_; rotate_left; (focus (intro w' hG; have q0 := kx w' hG; go_simp; try (with_reducible rfl))); simp only [Act.put, List.setIfInBounds_toArray, List.set_cons_zero, List.set_cons_succ])
          | (refine wpS_skip rfl ?_; simp only [Act.put, List.setIfInBounds_toArray, List.set_cons_zero, List.set_cons_succ]))
        have d1 := len_any w2.drew P b 0 _ 0 (HP.out.1.grow gd)
        rw [List.length_replicate] at d1
        refine wpS_call (f := ?_) (args := ?_) (by rfl) ?_ ?_
        rotate_left 2; focus (go_simp; constructor <;> with_reducible rfl)
        refine (d1).mono ?_
        rintro e w3 ⟨rfl, rfl⟩
        refine ⟨_, rfl, Grow.refl _, ?_⟩
        simp only [Act.put, List.setIfInBounds_toArray, List.set_cons_zero, List.set_cons_succ]
        repeat (first
          | (refine wpS_move rfl ?_; simp only [Act.eval, Act.put, Array.getD_eq_getD_getElem?, List.getElem?_toArray, List.getElem?_cons_zero, List.getElem?_cons_succ, Option.getD_some, List.setIfInBounds_toArray, List.set_cons_zero, List.set_cons_succ])
          | (refine wpS_assign rfl ?_; simp only [Act.eval, Act.put, Array.getD_eq_getD_getElem?, List.getElem?_toArray, List.getElem?_cons_zero, List.getElem?_cons_succ, Option.getD_some, List.setIfInBounds_toArray, List.set_cons_zero, List.set_cons_succ])
          | (refine wpS_read (v := ?_) rfl ?_ ?_; rotate_left; (focus (intro w' hG; skip; go_simp; try (with_reducible rfl))); simp only [Act.put, List.setIfInBounds_toArray, List.set_cons_zero, List.set_cons_succ])
          | (refine wpS_skip rfl ?_; simp only [Act.put, List.setIfInBounds_toArray, List.set_cons_zero, List.set_cons_succ]))
        have d2 := pempty_any w2.drew P b 0 _ 0 (HP.out.1.grow gd) (by rw [List.length_replicate]; exact HM.out.2)
        rw [emptyL_repl] at d2
        refine wpS_call (f := ?_) (args := ?_) (by rfl) ?_ ?_
        rotate_left 2; focus (go_simp; constructor <;> with_reducible rfl)
        refine (d2).mono ?_
        rintro e w3 ⟨rfl, rfl⟩
        refine ⟨_, rfl, Grow.refl _, ?_⟩
        simp only [Act.put, List.setIfInBounds_toArray, List.set_cons_zero, List.set_cons_succ]
        repeat (first
          | (refine wpS_move rfl ?_; simp only [Act.eval, Act.put, Array.getD_eq_getD_getElem?, List.getElem?_toArray, List.getElem?_cons_zero, List.getElem?_cons_succ, Option.getD_some, List.setIfInBounds_toArray, List.set_cons_zero, List.set_cons_succ])
          | (refine wpS_assign rfl ?_; simp only [Act.eval, Act.put, Array.getD_eq_getD_getElem?, List.getElem?_toArray, List.getElem?_cons_zero, List.getElem?_cons_succ, Option.getD_some, List.setIfInBounds_toArray, List.set_cons_zero, List.set_cons_succ])
          | (refine wpS_read (v := ?_) rfl ?_ ?_; rotate_left; (focus (intro w' hG; skip; go_simp; try (with_reducible rfl))); simp only [Act.put, List.setIfInBounds_toArray, List.set_cons_zero, List.set_cons_succ])
          | (refine wpS_skip rfl ?_; simp only [Act.put, List.setIfInBounds_toArray, List.set_cons_zero, List.set_cons_succ]))
        have d3 := hand_any w2.drew P b 0 _ 0 (HP.out.1.grow gd)
        refine wpS_call (f := ?_) (args := ?_) (by rfl) ?_ ?_
        rotate_left 2; focus (go_simp; constructor <;> with_reducible rfl)
        refine (d3).mono ?_
        rintro e w3 ⟨rfl, rfl⟩
        refine ⟨_, rfl, Grow.refl _, ?_⟩
        simp only [Act.put, List.setIfInBounds_toArray, List.set_cons_zero, List.set_cons_succ]
        repeat (first
          | (refine wpS_move rfl ?_; simp only [Act.eval, Act.put, Array.getD_eq_getD_getElem?, List.getElem?_toArray, List.getElem?_cons_zero, List.getElem?_cons_succ, Option.getD_some, List.setIfInBounds_toArray, List.set_cons_zero, List.set_cons_succ])
          | (refine wpS_assign rfl ?_; simp only [Act.eval, Act.put, Array.getD_eq_getD_getElem?, List.getElem?_toArray, List.getElem?_cons_zero, List.getElem?_cons_succ, Option.getD_some, List.setIfInBounds_toArray, List.set_cons_zero, List.set_cons_succ])
          | (refine wpS_read (v := ?_) rfl ?_ ?_; rotate_left; (focus (intro w' hG; skip; go_simp; try (with_reducible rfl))); simp only [Act.put, List.setIfInBounds_toArray, List.set_cons_zero, List.set_cons_succ])
          | (refine wpS_skip rfl ?_; simp only [Act.put, List.setIfInBounds_toArray, List.set_cons_zero, List.set_cons_succ]))
        have d4 := dirty_any w2.drew P b 0 _ 0 (HP.out.1.grow gd) (by rw [List.length_replicate]; exact HM.out.2)
        rw [List.length_replicate, dirN_repl m m (Nat.le_refl _)] at d4
        refine wpS_call (f := ?_) (args := ?_) (by rfl) ?_ ?_
        rotate_left 2; focus (go_simp; constructor <;> with_reducible rfl)
        refine (d4).mono ?_
        rintro e w4 ⟨v4, rfl, o4, g4⟩
        refine ⟨_, rfl, g4, ?_⟩
        obtain ⟨a4, c4, rfl⟩ := o4.shape
        simp only [Act.put, List.setIfInBounds_toArray, List.set_cons_zero, List.set_cons_succ]
        repeat (first
          | (refine wpS_move rfl ?_; simp only [Act.eval, Act.put, Array.getD_eq_getD_getElem?, List.getElem?_toArray, List.getElem?_cons_zero, List.getElem?_cons_succ, Option.getD_some, List.setIfInBounds_toArray, List.set_cons_zero, List.set_cons_succ])
          | (refine wpS_assign rfl ?_; simp only [Act.eval, Act.put, Array.getD_eq_getD_getElem?, List.getElem?_toArray, List.getElem?_cons_zero, List.getElem?_cons_succ, Option.getD_some, List.setIfInBounds_toArray, List.set_cons_zero, List.set_cons_succ])
          | (refine wpS_read (v := ?_) rfl ?_ ?_; rotate_left; (focus (intro w' hG; skip; go_simp; try (with_reducible rfl))); simp only [Act.put, List.setIfInBounds_toArray, List.set_cons_zero, List.set_cons_succ])
          | (refine wpS_skip rfl ?_; simp only [Act.put, List.setIfInBounds_toArray, List.set_cons_zero, List.set_cons_succ]))
        refine wpS_nil ?_
        have HF : Hid (VarAt w4 A [.int .i64 n, .int .i64 z] ∧ Grow w w4) := by
          have g := (HP.out.2.trans gd).trans g4
          exact ⟨HI.out.1.grow g, HI.out.2.trans g⟩
        clear d1 d2 d3 d4 o4 g4 gd kx c0
        go_wp2
        go_roundg (2 - (j + 1))
        case measure => have := HK.out; have := HJ.out; omega
        case rel => exact ⟨j + 1, rfl, by have := HJ.out; omega, by go_num, HF⟩
      · have hnw := new_no x wr hin
        by_cases h1 : 1 ≤ x
        · have h2 : ¬ x ≤ 64 := fun e => hin ⟨h1, e⟩
          clear hin
          go_wp2_with fail
          refine hnw.mono ?_
          rintro e w2 ⟨rfl, rfl⟩
          clear hnw
          go_wp2
          go_roundg (2 - (j + 1))
          case measure => have := HK.out; have := HJ.out; omega
          case rel => exact ⟨j + 1, rfl, by have := HJ.out; omega, by go_num, HI⟩
        · clear hin
          go_wp2_with fail
          refine hnw.mono ?_
          rintro e w2 ⟨rfl, rfl⟩
          clear hnw
          go_wp2
          go_roundg (2 - (j + 1))
          case measure => have := HK.out; have := HJ.out; omega
          case rel => exact ⟨j + 1, rfl, by have := HJ.out; omega, by go_num, HI⟩
    · have hge : ¬ (j : Int) < 2 := by omega
      have hl := lives_any wr
      go_wp2_with fail
      refine hl.mono ?_
      rintro e w2 ⟨rfl, g2⟩
      go_wp2
      go_ret
      exact ⟨rfl, HI.out.2.trans g2⟩
end Go.Proofs.Ythdhfojogckflaa
