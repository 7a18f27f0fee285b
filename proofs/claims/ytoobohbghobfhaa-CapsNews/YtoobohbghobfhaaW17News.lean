/-
  The walk of CapsNews. Conditions: the theorem's own.
-/
import Derived.Test.YtoobohbghobfhaaCapL
namespace Go.Proofs.Ytoobohbghobfhaa
open Go.RowKit
set_option linter.unusedVariables false
set_option linter.unusedSimpArgs false

theorem lit_two (w : World) (t : TypeId) (x y : Int) : RdV (Value.int .i64) 0 (fun i => i = w.heap.size) (w.alloc (.cells #[.int .i64 x, .int .i64 y] t)) (.slice (some ⟨w.heap.size, 0, none⟩) 2 2) [x, y] :=
  ⟨_, 2, rfl, Nat.le_refl _, by decide, fun i hi => ⟨w.heap.size, 0, rfl, rfl, by
    rw [Nat.zero_add]
    refine (World.cell?_alloc_new w _ _ i).trans ?_
    rcases (show i = 0 ∨ i = 1 by simp at hi; omega) with rfl | rfl <;> rfl⟩⟩

theorem field_s (w : World) (a c : Int) : (Instr.field 33 (.agg #[.int .i64 a, .int .i64 c]) 0).run Try.prog w = .ok (.int .i64 a) w := by kernel_rfl
theorem field_g (w : World) (a c : Int) : (Instr.field 33 (.agg #[.int .i64 a, .int .i64 c]) 1).run Try.prog w = .ok (.int .i64 c) w := by kernel_rfl

set_option maxRecDepth 8000 in
set_option maxHeartbeats 4000000 in
theorem capsNews_walk (n : Int) (w : World) (hn : (Lit.int .i64 n).wf = true) : Calls Try.prog 7 #[.int .i64 n] w fun e w' => e = .returned (.bool true) ∧ Grow w w' := by
  have har := around_any n 6 w hn (by omega) (by omega)
  generalize around n 6 = r at har
  have hrd := lit_two w 3 n r
  have hg : Grow w (w.alloc (.cells #[.int .i64 n, .int .i64 r] 3)) := (Grow.refl w).alloc _
  clear hn
  go_enter Try.func7, Try.ntmps7
  go_wp2_with fail
  refine har.mono ?_
  rintro e w1 ⟨rfl, rfl⟩
  clear har
  go_wp2
  generalize w.alloc (.cells #[.int .i64 n, .int .i64 r] 3) = W1 at *
  obtain ⟨B, hB⟩ : ∃ B, B = w.heap.size := ⟨_, rfl⟩
  rw [← hB] at hrd ⊢
  have HR : Hid (RdV (Value.int .i64) 0 (fun i => i = B) W1 (.slice (some ⟨B, 0, none⟩) 2 2) [n, r] ∧ Grow w W1) := ⟨hrd, hg⟩
  clear hrd hg hB
  go_loopg [4] 2 (fun k i wr => ∃ j : Nat, k = 2 - j ∧ j ≤ 2 ∧ i = .int .i64 j ∧ Hid (Grow W1 wr))
  case atStart => exact ⟨0, rfl, Nat.zero_le _, rfl, Grow.refl _⟩
  case round =>
    obtain ⟨j, hk, hj, rfl, HG⟩ := hrel
    by_cases hlt : j < 2
    · have hlt' : (j : Int) < 2 := by omega
      have HJ : Hid (j < 2 ∧ gk = 2 - j) := ⟨hlt, hk⟩
      obtain ⟨bb, oo, e1, -, hc⟩ := (HR.out.1.grow HG.out).addr (by simp)
      injection e1 with e1
      injection e1 with e1 e2
      subst e1 e2
      have f1 := hc j hlt
      rw [Nat.zero_add] at f1
      generalize ([n, r] : List Int).getD j 0 = y at f1
      clear hc hk hj hlt
      by_cases y1 : 1 ≤ y
      · by_cases y2 : y ≤ 1073741824
        · have h1 := new_in y wr y1 y2
          have hR := newS_root y1 y2
          obtain ⟨b, hb⟩ : ∃ b, b = wr.heap.size := ⟨_, rfl⟩
          rw [← hb] at h1
          clear hb
          have HX := hid hR
          have HY : Hid (1 ≤ y ∧ (allS (newS y)).length = 1) := ⟨y1, newS_len y y1⟩
          have hwy : IntKind.i64.wrap (y * 1048576) = y * 1048576 := by rw [IntKind.wrap_i64]; omega
          have HC := hid (fun w' (hg : Grow wr w') => grow_cell hg f1)
          clear hR
          go_wp2_with fail
          refine h1.mono ?_
          rintro e w2 ⟨rfl, t2, g2⟩
          have T2 := hid t2
          have G2 := hid g2
          have f2 := HC.out w2 g2
          have k2 := rootR_any b (newS y) y 1 w2 t2 HX.out.1
          clear h1 t2 f1 g2
          go_wp2_with fail
          refine k2.mono ?_
          rintro e w3 ⟨rfl, g3⟩
          have T3 := hid (T2.out.grow g3)
          have G3 := hid (G2.out.trans g3)
          have k3 := rights_any b (newS y) y 1 (rootC y) w3 T3.out HX.out.1.len
          have er : rgtS (newS y) (rootC y) = 15 := by unfold rgtS; rw [HX.out.good]; rfl
          rw [er, HX.out.good] at k3
          simp only [rootC] at k3
          clear k2 g3 f2 er T2 G2
          go_wp2_with fail
          refine k3.mono ?_
          rintro e w4 ⟨rfl, g4⟩
          have T4 := hid (T3.out.grow g4)
          have G4 := hid (G3.out.trans g4)
          clear k3 g4 T3 G3
          go_wp2
          have T5 := hid (T4.out.grow (Grow.refl _).drew)
          have G5 := hid (G4.out.trans (Grow.refl _).drew)
          have k5 : Calls Try.prog 25 #[.pointer (some ⟨b, 0, none⟩)] w4.drew fun e w' => e = .returned (.int .i64 1) ∧ Grow w4.drew w' := by
            have := live_any b (newS y) y 1 _ T5.out HX.out.1.len
            rw [HY.out.2] at this
            exact this
          refine wp_region_sched (by kernel_rfl) [(0, false), (1, true), (2, false), (3, false), (4, false), (5, true), (6, false), (7, false), (8, false), (9, false), (10, false), (13, false), (14, false), (15, false), (16, false), (17, false), (11, true), (12, false), (18, false), (19, false), (20, false), (21, false), (22, false), (23, false), (24, false), (25, false), (26, true), (27, false), (28, false)] (by kernel_rfl) (by kernel_rfl) rfl (fun _ _ d _ _ h => by cases d <;> exact h) ?_
          simp only [inOrder, List.filterMap_cons, List.filterMap_nil, List.getElem?_toArray, List.getElem?_cons_zero, List.getElem?_cons_succ, Option.map_some]
          repeat (first
            | (refine wpS_move rfl ?_; simp only [Act.eval, Act.put, Array.getD_eq_getD_getElem?, List.getElem?_toArray, List.getElem?_cons_zero, List.getElem?_cons_succ, Option.getD_some, List.setIfInBounds_toArray, List.set_cons_zero, List.set_cons_succ])
            | (refine wpS_assign rfl ?_; simp only [Act.eval, Act.put, Array.getD_eq_getD_getElem?, List.getElem?_toArray, List.getElem?_cons_zero, List.getElem?_cons_succ, Option.getD_some, List.setIfInBounds_toArray, List.set_cons_zero, List.set_cons_succ])
            | (refine wpS_read (v := ?_) rfl ?_ ?_; rotate_left; (focus (intro w' hG; go_simp; try (with_reducible rfl))); simp only [Act.put, List.setIfInBounds_toArray, List.set_cons_zero, List.set_cons_succ])
            | (refine wpS_skip rfl ?_; simp only [Act.put, List.setIfInBounds_toArray, List.set_cons_zero, List.set_cons_succ]))
          refine wpS_call (f := ?_) (args := ?_) (by rfl) ?_ ?_
          rotate_left 2; focus (go_simp; constructor <;> with_reducible rfl)
          refine (k5).mono ?_
          rintro e w5 ⟨rfl, g5⟩
          refine ⟨_, rfl, g5, ?_⟩
          simp only [Act.put, List.setIfInBounds_toArray, List.set_cons_zero, List.set_cons_succ]
          have T6 := hid (T5.out.grow g5)
          have G6 := hid (G5.out.trans g5)
          have k6 := rootR_any b (newS y) y 1 w5 T6.out HX.out.1
          repeat (first
            | (refine wpS_move rfl ?_; simp only [Act.eval, Act.put, Array.getD_eq_getD_getElem?, List.getElem?_toArray, List.getElem?_cons_zero, List.getElem?_cons_succ, Option.getD_some, List.setIfInBounds_toArray, List.set_cons_zero, List.set_cons_succ])
            | (refine wpS_assign rfl ?_; simp only [Act.eval, Act.put, Array.getD_eq_getD_getElem?, List.getElem?_toArray, List.getElem?_cons_zero, List.getElem?_cons_succ, Option.getD_some, List.setIfInBounds_toArray, List.set_cons_zero, List.set_cons_succ])
            | (refine wpS_read (v := ?_) rfl ?_ ?_; rotate_left; (focus (intro w' hG; go_simp; try (with_reducible rfl))); simp only [Act.put, List.setIfInBounds_toArray, List.set_cons_zero, List.set_cons_succ])
            | (refine wpS_skip rfl ?_; simp only [Act.put, List.setIfInBounds_toArray, List.set_cons_zero, List.set_cons_succ]))
          refine wpS_call (f := ?_) (args := ?_) (by rfl) ?_ ?_
          rotate_left 2; focus (go_simp; constructor <;> with_reducible rfl)
          refine (k6).mono ?_
          rintro e w6 ⟨rfl, g6⟩
          refine ⟨_, rfl, g6, ?_⟩
          simp only [Act.put, List.setIfInBounds_toArray, List.set_cons_zero, List.set_cons_succ]
          have T7 := hid (T6.out.grow g6)
          have G7 := hid (G6.out.trans g6)
          have k7 := rootR_any b (newS y) y 1 w6 T7.out HX.out.1
          repeat (first
            | (refine wpS_move rfl ?_; simp only [Act.eval, Act.put, Array.getD_eq_getD_getElem?, List.getElem?_toArray, List.getElem?_cons_zero, List.getElem?_cons_succ, Option.getD_some, List.setIfInBounds_toArray, List.set_cons_zero, List.set_cons_succ])
            | (refine wpS_assign rfl ?_; simp only [Act.eval, Act.put, Array.getD_eq_getD_getElem?, List.getElem?_toArray, List.getElem?_cons_zero, List.getElem?_cons_succ, Option.getD_some, List.setIfInBounds_toArray, List.set_cons_zero, List.set_cons_succ])
            | (refine wpS_read (v := ?_) rfl ?_ ?_; rotate_left; (focus (intro w' hG; have q1 := HC.out w' (G7.out.trans hG); have q2 := field_s w' 0 (y * 1048576); go_simp; try (with_reducible rfl))); simp only [Act.put, List.setIfInBounds_toArray, List.set_cons_zero, List.set_cons_succ])
            | (refine wpS_skip rfl ?_; simp only [Act.put, List.setIfInBounds_toArray, List.set_cons_zero, List.set_cons_succ]))
          refine wpS_call (f := ?_) (args := ?_) (by rfl) ?_ ?_
          rotate_left 2; focus (go_simp; constructor <;> with_reducible rfl)
          refine (k7).mono ?_
          rintro e w7 ⟨rfl, g7⟩
          refine ⟨_, rfl, g7, ?_⟩
          simp only [Act.put, List.setIfInBounds_toArray, List.set_cons_zero, List.set_cons_succ]
          have G8 := hid (G7.out.trans g7)
          have k8 := all_any w7
          repeat (first
            | (refine wpS_move rfl ?_; simp only [Act.eval, Act.put, Array.getD_eq_getD_getElem?, List.getElem?_toArray, List.getElem?_cons_zero, List.getElem?_cons_succ, Option.getD_some, List.setIfInBounds_toArray, List.set_cons_zero, List.set_cons_succ])
            | (refine wpS_assign rfl ?_; simp only [Act.eval, Act.put, Array.getD_eq_getD_getElem?, List.getElem?_toArray, List.getElem?_cons_zero, List.getElem?_cons_succ, Option.getD_some, List.setIfInBounds_toArray, List.set_cons_zero, List.set_cons_succ])
            | (refine wpS_read (v := ?_) rfl ?_ ?_; rotate_left; (focus (intro w' hG; have q2 := field_g w' 0 (y * 1048576); go_simp; try (with_reducible rfl))); simp only [Act.put, List.setIfInBounds_toArray, List.set_cons_zero, List.set_cons_succ])
            | (refine wpS_skip rfl ?_; simp only [Act.put, List.setIfInBounds_toArray, List.set_cons_zero, List.set_cons_succ]))
          refine wpS_call (f := ?_) (args := ?_) (by rfl) ?_ ?_
          rotate_left 2; focus (go_simp; constructor <;> with_reducible rfl)
          refine (k8).mono ?_
          rintro e w8 ⟨rfl, g8⟩
          refine ⟨_, rfl, g8, ?_⟩
          simp only [Act.put, List.setIfInBounds_toArray, List.set_cons_zero, List.set_cons_succ]
          have G9 := hid (G8.out.trans g8)
          repeat (first
            | (refine wpS_move rfl ?_; simp only [Act.eval, Act.put, Array.getD_eq_getD_getElem?, List.getElem?_toArray, List.getElem?_cons_zero, List.getElem?_cons_succ, Option.getD_some, List.setIfInBounds_toArray, List.set_cons_zero, List.set_cons_succ])
            | (refine wpS_assign rfl ?_; simp only [Act.eval, Act.put, Array.getD_eq_getD_getElem?, List.getElem?_toArray, List.getElem?_cons_zero, List.getElem?_cons_succ, Option.getD_some, List.setIfInBounds_toArray, List.set_cons_zero, List.set_cons_succ])
            | (refine wpS_read (v := ?_) rfl ?_ ?_; rotate_left; (focus (intro w' hG; go_simp; try (with_reducible rfl))); simp only [Act.put, List.setIfInBounds_toArray, List.set_cons_zero, List.set_cons_succ])
            | (refine wpS_skip rfl ?_; simp only [Act.put, List.setIfInBounds_toArray, List.set_cons_zero, List.set_cons_succ]))
          refine wpS_nil ?_
          clear k5 k6 k7 k8 g5 g6 g7 g8 T4 T5 T6 T7 G4 G5 G6 G7 G8
          go_wp2
          go_roundg (2 - (j + 1))
          case measure => have := HJ.out; omega
          case rel => exact ⟨j + 1, rfl, HJ.out.1, by go_num, HG.out.trans G9.out⟩
        · have h1 := new_out y wr (by omega)
          have HC := hid (fun w' (hg : Grow wr w') => grow_cell hg f1)
          have y3 : 1073741824 < y := by omega
          go_wp2_with fail
          refine h1.mono ?_
          rintro e w2 ⟨rfl, g2⟩
          have f2 := HC.out w2 g2
          clear h1
          go_wp2
          go_roundg (2 - (j + 1))
          case measure => have := HJ.out; omega
          case rel => exact ⟨j + 1, rfl, HJ.out.1, by go_num, HG.out.trans g2⟩
      · have h1 := new_out y wr (by omega)
        have HC := hid (fun w' (hg : Grow wr w') => grow_cell hg f1)
        have y3 : y < 1 := by omega
        go_wp2_with fail
        refine h1.mono ?_
        rintro e w2 ⟨rfl, g2⟩
        have f2 := HC.out w2 g2
        clear h1
        go_wp2
        go_roundg (2 - (j + 1))
        case measure => have := HJ.out; omega
        case rel => exact ⟨j + 1, rfl, HJ.out.1, by go_num, HG.out.trans g2⟩
    · obtain rfl : 2 = j := by omega
      have hG : Hid (Grow w wr) := HR.out.2.trans HG.out
      clear hj hlt hk
      go_wp2_with fail
      refine (lives_any wr).mono ?_
      rintro e w2 ⟨rfl, g2⟩
      go_wp2
      go_ret
      exact ⟨rfl, hG.out.trans g2⟩
end Go.Proofs.Ytoobohbghobfhaa
