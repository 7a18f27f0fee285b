/-
  The walk of DeviceNews. Conditions: the theorem's own.
-/
import Derived.Test.YtpkoiogdkaklfaaDevLive
namespace Go.Proofs.Ytpkoiogdkaklfaa
open Go.RowKit
set_option linter.unusedVariables false
set_option linter.unusedSimpArgs false

set_option maxRecDepth 16000 in
set_option maxHeartbeats 4000000 in
theorem deviceNews_walk (n : Int) (w : World) (hn : (Lit.int .i64 n).wf = true) :
    Calls Try.prog 4 #[.int .i64 n] w fun e w' => e = .returned (.bool true) ∧ Grow w w' := by
  have har := around_any n 1027 w hn (by omega) (by omega)
  have hab := around_bd n 1027 (by omega)
  have hwr : (Lit.int .i64 (around n 1027)).wf = true := wfI (by omega)
  generalize around n 1027 = r at har hab hwr
  have HC : Hid (∀ j : Nat, j < 2 → ∃ x : Int, (Lit.int .i64 x).wf = true ∧ (w.alloc (.cells #[.int .i64 n, .int .i64 r] 3)).cell? ⟨w.heap.size, j, none⟩ = some (.int .i64 x)) := fun j hj => by
    have h : j = 0 ∨ j = 1 := by omega
    rcases h with rfl | rfl
    · exact ⟨n, hn, (World.cell?_alloc_new w _ _ _).trans (by simp)⟩
    · exact ⟨r, hwr, (World.cell?_alloc_new w _ _ _).trans (by simp)⟩
  clear hab hwr
  go_enter Try.func4, Try.ntmps4
  go_wp2_with fail
  refine har.mono ?_
  rintro e w1 ⟨rfl, rfl⟩
  go_wp2
  go_loopg [4] 2 (fun k i wr => ∃ j : Nat, k = 2 - j ∧ j ≤ 2 ∧ i = .int .i64 j ∧ Grow (w.alloc (.cells #[.int .i64 n, .int .i64 r] 3)) wr)
  case atStart => exact ⟨0, rfl, Nat.zero_le _, rfl, Grow.refl _⟩
  case round =>
    obtain ⟨j, hk, hj, rfl, hg0⟩ := hrel
    by_cases hlt : j < 2
    · have hlt' : (j : Int) < 2 := by omega
      have HJ : Hid (j < 2 ∧ gk = 2 - j) := ⟨hlt, hk⟩
      obtain ⟨x, hwx, cx0⟩ := HC.out j hlt
      have hbw0 : w.heap.size < (w.alloc (.cells #[.int .i64 n, .int .i64 r] 3)).heap.size := by simp
      have cx : wr.cell? ⟨w.heap.size, j, none⟩ = some (.int .i64 x) := by rw [Below.cell (p := ⟨w.heap.size, j, none⟩) hg0 hbw0]; exact cx0
      have hbw : w.heap.size < wr.heap.size := by have := hg0.size; omega
      have bx := bounds_i64 hwx
      clear hlt hk cx0 hbw0
      by_cases h1 : x < 1
      · have h1' : ¬ 1 ≤ x := by omega
        have hg := hg0
        have hnw := dnew_no x wr (.inl h1) hwx
        go_wp2_with fail
        refine hnw.mono ?_
        rintro e w1 ⟨rfl, rfl⟩
        go_wp2
        go_roundg (2 - (j + 1))
        case measure => have := HJ.out; omega
        case rel => exact ⟨j + 1, rfl, HJ.out.1, by go_num, hg⟩
      · by_cases h2 : 1024 < x
        · have h1' : 1 ≤ x := by omega
          have h2' : ¬ x ≤ 1024 := by omega
          have hg := hg0
          have hnw := dnew_no x wr (.inr h2) hwx
          go_wp2_with fail
          refine hnw.mono ?_
          rintro e w1 ⟨rfl, rfl⟩
          go_wp2
          go_roundg (2 - (j + 1))
          case measure => have := HJ.out; omega
          case rel => exact ⟨j + 1, rfl, HJ.out.1, by go_num, hg⟩
        · have h1' : 1 ≤ x := by omega
          have h2' : x ≤ 1024 := by omega
          have hg := hg0
          clear hg0
          obtain ⟨m, hm⟩ := Int.eq_ofNat_of_zero_le (show 0 ≤ x by omega)
          have hnw := dnew_yes m wr (by omega) (by omega)
          rw [← hm] at hnw
          have HM : Hid (x = (m : Int) ∧ 1 ≤ m ∧ m ≤ 1024) := ⟨hm, by omega, by omega⟩
          obtain ⟨q, hq⟩ := Int.eq_ofNat_of_zero_le (show 0 ≤ x - 1 by omega)
          have HQ : Hid (q < m) := by show q < m; omega
          have hwq : IntKind.i64.wrap (x - 1) = (q : Int) := by rw [IntKind.wrap_i64]; omega
          have hkq : (Lit.int .i64 (q : Int)).wf = true := wfI (by omega)
          clear hm hq
          go_wp2_with fail
          refine hnw.mono ?_
          rintro e w1 ⟨b, rfl, bl, bt, hD1, hg1, hb, hbl, hbt⟩
          have H1 : Hid (DevAt w1 (fun i => i ≠ b ∧ i ≠ bl ∧ i ≠ bt) b bl bt 0 (List.replicate m zcell) (List.replicate m []) [] ∧ Grow (w.alloc (.cells #[.int .i64 n, .int .i64 r] 3)) w1) := ⟨hD1, hg.trans hg1⟩
          have hr1 := dread_any w1 _ b bl bt _ _ _ _ hD1 q hkq
          rw [readL_at (repl_nil m q) (by simpa using HQ.out), repl_at m q HQ.out, opened_zcell] at hr1
          have cx1 : w1.cell? ⟨w.heap.size, j, none⟩ = some (.int .i64 x) := by rw [Below.cell (p := ⟨w.heap.size, j, none⟩) hg1 hbw]; exact cx
          have hbw1 : w.heap.size < w1.heap.size := by have := hg1.size; omega
          clear hD1 hnw hb hbl hbt hg1 cx
          go_wp2_with fail
          refine hr1.mono ?_
          rintro e w2 ⟨v2, rfl, ho2, hb2⟩
          obtain ⟨a2, c2, hv2⟩ := ho2.shape
          rw [List.length_replicate] at hv2
          subst hv2
          have H2 : Hid (DevAt w2 (fun i => i ≠ b ∧ i ≠ bl ∧ i ≠ bt) b bl bt 0 (List.replicate m zcell) (List.replicate m []) [] ∧ RdV (Value.int .u8) 0 (fun i => i ≠ b ∧ i ≠ bl ∧ i ≠ bt) w2 (.slice a2 16 c2) (List.replicate 16 0) ∧ Grow (w.alloc (.cells #[.int .i64 n, .int .i64 r] 3)) w2) := ⟨H1.out.1.grow hb2, ho2.v.rd.mono (fun k _ hk => by have := H1.out.1.lt; omega), H1.out.2.trans hb2⟩
          have hr2 := dread_any w2 _ b bl bt _ _ _ _ H2.out.1 x hwx
          have hro : readL (List.replicate m zcell) (List.replicate m []) x = ([], 4) := by
            have h1 := HM.out
            unfold readL
            rw [if_neg (by simp only [List.length_replicate]; omega)]
            exact if_neg (by simp only [List.length_replicate]; omega)
          rw [hro] at hr2
          have cx2 : w2.cell? ⟨w.heap.size, j, none⟩ = some (.int .i64 x) := by rw [Below.cell (p := ⟨w.heap.size, j, none⟩) hb2 hbw1]; exact cx1
          have hbw2 : w.heap.size < w2.heap.size := by have := hb2.size; omega
          clear ho2 hb2 hr1 hro H1 cx1
          go_wp2_with fail
          refine hr2.mono ?_
          rintro e w3 ⟨v3, rfl, ho3, hb3⟩
          have gd3 : Grow w3 w3.drew := (Grow.refl w3).drew
          have H3 : Hid (DevAt w3 (fun i => i ≠ b ∧ i ≠ bl ∧ i ≠ bt) b bl bt 0 (List.replicate m zcell) (List.replicate m []) [] ∧ RdV (Value.int .u8) 0 (fun i => i ≠ b ∧ i ≠ bl ∧ i ≠ bt) w3 (.slice a2 16 c2) (List.replicate 16 0) ∧ Grow (w.alloc (.cells #[.int .i64 n, .int .i64 r] 3)) w3) := ⟨H2.out.1.grow hb3, H2.out.2.1.grow hb3, H2.out.2.2.trans hb3⟩
          have cx3 : ∀ w', Grow w3.drew w' → w'.cell? ⟨w.heap.size, j, none⟩ = some (.int .i64 x) := fun w' g => by rw [Below.cell (p := ⟨w.heap.size, j, none⟩) ((Grow.trans hb3 gd3).trans g) hbw2]; exact cx2
          have k1 : ∀ w', Grow w3.drew w' → (convert 29 9 (.slice a2 16 c2)).run Try.prog w' = .ok (.string (strOfNums (List.replicate 16 0))) w' := fun w' g => ((H3.out.2.1.grow (gd3.trans g)).i).string 29 9 5 Try.underlying29 Try.underlying5 Try.underlying9
          clear ho3 hb3 hr2 H2 cx2
          go_wp2
          refine wp_region_sched (by kernel_rfl) [(0, false), (1, false), (2, false), (3, false), (4, false), (5, true), (6, false), (7, false), (8, false), (9, false), (10, false), (11, false), (12, false), (13, false), (14, false), (16, false), (17, false), (18, false), (19, false), (15, true), (20, false), (21, false), (22, false), (23, false), (24, true), (25, false), (26, false), (27, false)] (by kernel_rfl) (by kernel_rfl) rfl (fun _ _ d _ _ h => by cases d <;> exact h) ?_
          simp only [inOrder, List.filterMap_cons, List.filterMap_nil, List.getElem?_toArray, List.getElem?_cons_zero, List.getElem?_cons_succ, Option.map_some]
          repeat (first
            | (refine wpS_move rfl ?_; simp only [Act.eval, Act.put, Array.getD_eq_getD_getElem?, List.getElem?_toArray, List.getElem?_cons_zero, List.getElem?_cons_succ, Option.getD_some, List.setIfInBounds_toArray, List.set_cons_zero, List.set_cons_succ])
            | (refine wpS_assign rfl ?_; simp only [Act.eval, Act.put, Array.getD_eq_getD_getElem?, List.getElem?_toArray, List.getElem?_cons_zero, List.getElem?_cons_succ, Option.getD_some, List.setIfInBounds_toArray, List.set_cons_zero, List.set_cons_succ])
            | (refine wpS_read (v := ?_) rfl ?_ ?_; rotate_left; (focus (intro w' hG; have z1 := k1 w' hG; go_simp; try (with_reducible rfl))); simp only [Act.put, List.setIfInBounds_toArray, List.set_cons_zero, List.set_cons_succ])
            | (refine wpS_skip rfl ?_; simp only [Act.put, List.setIfInBounds_toArray, List.set_cons_zero, List.set_cons_succ]))
          obtain ⟨vm, wm, hmk, hom, hgm⟩ := make16 w3.drew
          refine wpS_act (v := vm) (w' := wm) (by rfl) (by simp [execOp, Act.eval, hmk, Result.andThen]) hgm ?_
          simp only [Act.put, List.setIfInBounds_toArray, List.set_cons_zero, List.set_cons_succ]
          have km : ∀ w', Grow wm w' → (convert 29 9 vm).run Try.prog w' = .ok (.string (strOfNums (List.replicate 16 0))) w' := fun w' g => (Rd.below (Own.rd hom) g).string 29 9 5 Try.underlying29 Try.underlying5 Try.underlying9
          have cxm : ∀ w', Grow wm w' → w'.cell? ⟨w.heap.size, j, none⟩ = some (.int .i64 x) := fun w' g => cx3 w' (Grow.trans hgm g)
          repeat (first
            | (refine wpS_move rfl ?_; simp only [Act.eval, Act.put, Array.getD_eq_getD_getElem?, List.getElem?_toArray, List.getElem?_cons_zero, List.getElem?_cons_succ, Option.getD_some, List.setIfInBounds_toArray, List.set_cons_zero, List.set_cons_succ])
            | (refine wpS_assign rfl ?_; simp only [Act.eval, Act.put, Array.getD_eq_getD_getElem?, List.getElem?_toArray, List.getElem?_cons_zero, List.getElem?_cons_succ, Option.getD_some, List.setIfInBounds_toArray, List.set_cons_zero, List.set_cons_succ])
            | (refine wpS_read (v := ?_) rfl ?_ ?_; rotate_left; (focus (intro w' hG; (have z2 := km w' hG; have z3 := cxm w' hG); go_simp; try (with_reducible rfl))); simp only [Act.put, List.setIfInBounds_toArray, List.set_cons_zero, List.set_cons_succ])
            | (refine wpS_skip rfl ?_; simp only [Act.put, List.setIfInBounds_toArray, List.set_cons_zero, List.set_cons_succ]))
          have hln := dlen_any wm _ b bl bt _ _ _ _ (H3.out.1.grow (gd3.trans hgm))
          rw [List.length_replicate, ← HM.out.1] at hln
          refine wpS_call (f := ?_) (args := ?_) (by rfl) ?_ ?_
          rotate_left 2; focus (go_simp; constructor <;> with_reducible rfl)
          refine (hln).mono ?_
          rintro e wn ⟨rfl, rfl⟩
          refine ⟨_, rfl, Grow.refl _, ?_⟩
          simp only [Act.put, List.setIfInBounds_toArray, List.set_cons_zero, List.set_cons_succ]
          repeat (first
            | (refine wpS_move rfl ?_; simp only [Act.eval, Act.put, Array.getD_eq_getD_getElem?, List.getElem?_toArray, List.getElem?_cons_zero, List.getElem?_cons_succ, Option.getD_some, List.setIfInBounds_toArray, List.set_cons_zero, List.set_cons_succ])
            | (refine wpS_assign rfl ?_; simp only [Act.eval, Act.put, Array.getD_eq_getD_getElem?, List.getElem?_toArray, List.getElem?_cons_zero, List.getElem?_cons_succ, Option.getD_some, List.setIfInBounds_toArray, List.set_cons_zero, List.set_cons_succ])
            | (refine wpS_read (v := ?_) rfl ?_ ?_; rotate_left; (focus (intro w' hG; skip; go_simp; try (with_reducible rfl))); simp only [Act.put, List.setIfInBounds_toArray, List.set_cons_zero, List.set_cons_succ])
            | (refine wpS_skip rfl ?_; simp only [Act.put, List.setIfInBounds_toArray, List.set_cons_zero, List.set_cons_succ]))
          have hhd := dhead_any wm _ b bl bt _ _ _ _ (H3.out.1.grow (gd3.trans hgm))
          refine wpS_call (f := ?_) (args := ?_) (by rfl) ?_ ?_
          rotate_left 2; focus (go_simp; constructor <;> with_reducible rfl)
          refine (hhd).mono ?_
          rintro e wh ⟨vh, rfl, hoh, hgh⟩
          refine ⟨vh, rfl, hgh, ?_⟩
          simp only [Act.put, List.setIfInBounds_toArray, List.set_cons_zero, List.set_cons_succ]
          obtain ⟨ah, ch, hvh⟩ := hoh.shape
          simp only [List.length_nil] at hvh
          subst hvh
          repeat (first
            | (refine wpS_move rfl ?_; simp only [Act.eval, Act.put, Array.getD_eq_getD_getElem?, List.getElem?_toArray, List.getElem?_cons_zero, List.getElem?_cons_succ, Option.getD_some, List.setIfInBounds_toArray, List.set_cons_zero, List.set_cons_succ])
            | (refine wpS_assign rfl ?_; simp only [Act.eval, Act.put, Array.getD_eq_getD_getElem?, List.getElem?_toArray, List.getElem?_cons_zero, List.getElem?_cons_succ, Option.getD_some, List.setIfInBounds_toArray, List.set_cons_zero, List.set_cons_succ])
            | (refine wpS_read (v := ?_) rfl ?_ ?_; rotate_left; (focus (intro w' hG; skip; go_simp; try (with_reducible rfl))); simp only [Act.put, List.setIfInBounds_toArray, List.set_cons_zero, List.set_cons_succ])
            | (refine wpS_skip rfl ?_; simp only [Act.put, List.setIfInBounds_toArray, List.set_cons_zero, List.set_cons_succ]))
          refine wpS_nil ?_
          have HGh : Hid (Grow (w.alloc (.cells #[.int .i64 n, .int .i64 r] 3)) wh) := ((H3.out.2.2.trans gd3).trans hgm).trans hgh
          clear cx3 k1 hgm hom hmk km cxm hln hhd hoh hgh
          go_wp2
          go_roundg (2 - (j + 1))
          case measure => have := HJ.out; omega
          case rel => exact ⟨j + 1, rfl, HJ.out.1, by go_num, HGh.out⟩
    · obtain rfl : j = 2 := by omega
      go_wp2_with fail
      refine (dlives_any wr).mono ?_
      rintro e w2 ⟨rfl, hg2⟩
      go_wp2
      go_ret
      exact ⟨rfl, (((Grow.refl w).alloc _).trans hg0).trans hg2⟩
end Go.Proofs.Ytpkoiogdkaklfaa
