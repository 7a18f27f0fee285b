/-
  The walks of SameInts, of the law's 'as' and 'like'. Conditions: each theorem's own.
-/
import Derived.Test.YthdhfojogckflaaPrtX
import Derived.Test.YthdhfojogckflaaPrtK
import Derived.Test.YthdhfojogckflaaPrtG
import Derived.Deep.LoopGhost
namespace Go.Proofs.Ythdhfojogckflaa
open Go.RowKit
set_option linter.unusedVariables false
set_option linter.unusedSimpArgs false

set_option maxHeartbeats 1000000 in
theorem samez_any (av bv : Value) (xs ys : List Int) (p q : Nat → Prop) (w : World) (ha : RdV (Value.int .i64) 0 p w av xs) (hb : RdV (Value.int .i64) 0 q w bv ys) :
    Calls Try.prog 41 #[av, bv] w fun e w' => e = .returned (.bool (decide (xs = ys))) ∧ Grow w w' := by
  have la := ha.len
  have lb := hb.len
  unfold maxLen at la lb
  have HA : Hid (RdV (Value.int .i64) 0 p w av xs) := ha
  have HB : Hid (RdV (Value.int .i64) 0 q w bv ys) := hb
  obtain ⟨a1, c1, rfl⟩ := ha.shape
  obtain ⟨a2, c2, rfl⟩ := hb.shape
  clear ha hb
  by_cases hl : xs.length = ys.length
  · have hl' : (xs.length : Int) = (ys.length : Int) := by omega
    have HLL : Hid (xs.length = ys.length) := hl
    go_enter Try.func41, Try.ntmps41
    go_wp2
    go_loopg [5] xs.length (fun k i wr => ∃ j : Nat, k = xs.length - j ∧ j ≤ xs.length ∧ i = .int .i64 j ∧ Hid (xs.take j = ys.take j) ∧ Grow w wr)
    case atStart => exact ⟨0, rfl, Nat.zero_le _, rfl, by simp [Hid], Grow.refl _⟩
    case round =>
      obtain ⟨j, hk, hj, rfl, HE, hg⟩ := hrel
      by_cases hlt : j < xs.length
      · have hlt' : (j : Int) < (xs.length : Int) := by omega
        have hlt2 : (j : Int) < (ys.length : Int) := by omega
        obtain ⟨b1, o1, e1, -, hc1⟩ := (HA.out.grow hg).addr (by omega)
        obtain ⟨b2, o2, e2, -, hc2⟩ := (HB.out.grow hg).addr (by omega)
        have f1 := hc1 j hlt
        have f2 := hc2 j (by omega)
        clear hc1 hc2
        have HT : Hid (xs.take (j + 1) = xs.take j ++ [xs.getD j 0] ∧ ys.take (j + 1) = ys.take j ++ [ys.getD j 0]) := ⟨take_snoc xs 0 j hlt, take_snoc ys 0 j (by omega)⟩
        have hne : ∀ x y : Int, x ≠ y → xs.getD j 0 = x → ys.getD j 0 = y → xs ≠ ys := fun x y h1 h2 h3 h4 => h1 (by rw [← h2, ← h3, h4])
        have HJ : Hid (j < xs.length ∧ gk = xs.length - j) := ⟨hlt, hk⟩
        generalize xs.getD j 0 = x at f1 HT hne
        generalize ys.getD j 0 = y at f2 HT hne
        clear hlt hk hl
        have HN := hne x y
        clear hne
        subst e1 e2
        by_cases hxy : x = y
        · subst hxy
          clear HN
          go_wp2
          go_region
          all_goals
            go_wp2
            go_roundg (xs.length - (j + 1))
            case measure => have := HJ.out; omega
            case rel =>
              refine ⟨j + 1, rfl, HJ.out.1, by go_num, ?_, hg.drew⟩
              show xs.take (j + 1) = ys.take (j + 1)
              rw [HT.out.1, HT.out.2, HE.out]
        · have hns : xs ≠ ys := HN hxy rfl rfl
          have hd : decide (xs = ys) = false := decide_eq_false hns
          clear HN hns
          go_wp2
          go_region
          all_goals
            go_wp2
            go_ret
            exact ⟨ret_bool hd.symm, hg.drew⟩
      · obtain rfl : j = xs.length := by omega
        have he : xs = ys := by
          have := HE.out
          rwa [List.take_length, HLL.out, List.take_length] at this
        have hd : decide (xs = ys) = true := decide_eq_true he
        clear he hl
        go_wp2
        go_ret
        exact ⟨ret_bool hd.symm, hg⟩
  · have hl' : ¬ (xs.length : Int) = (ys.length : Int) := by omega
    have hd : decide (xs = ys) = false := decide_eq_false (fun h => hl (by rw [h]))
    go_enter Try.func41, Try.ntmps41
    go_wp2
    go_ret
    exact ⟨ret_bool hd.symm, Grow.refl _⟩


theorem equal_self (w : World) (s : FS) (n dp : Nat) (hn : n = dp + 2) : (Op.equalIn n 68 (.agg #[.bool s.u, .bool s.d, .bool s.r, .int .i64 s.p, .int .i64 s.q, .string (strOfNums s.bs)]) (.agg #[.bool s.u, .bool s.d, .bool s.r, .int .i64 s.p, .int .i64 s.q, .string (strOfNums s.bs)])).run Try.prog w = .ok true w := by
  subst hn
  have hA : Try.prog.underlying 68 = some (.struct (Try.prog.fieldsOf 68)) := by kernel_rfl
  have hS : Try.prog.stoodInHeld 68 = false := by kernel_rfl
  have hT : true = ((s.u == s.u) && ((s.d == s.d) && ((s.r == s.r) && ((s.p == s.p) && ((s.q == s.q) && (((strOfNums s.bs).toList == (strOfNums s.bs).toList) && true)))))) := by simp
  rw [run_equalIn_agg _ _ _ _ _ hA hS, hT]
  simp only [Program.fieldsOf, Try.underlying68]
  refine fields_cons w _ _ _ _ _ (by decide) _ _ _ _ (part_one w 4 _ _ 0 _ Try.underlying4 rfl rfl) (part_one w 4 _ _ 0 _ Try.underlying4 rfl rfl) (run_equalIn_bool' w dp 4 _ _ Try.underlying4) ?_
  refine fields_cons w _ _ _ _ _ (by decide) _ _ _ _ (part_one w 4 _ _ 1 _ Try.underlying4 rfl rfl) (part_one w 4 _ _ 1 _ Try.underlying4 rfl rfl) (run_equalIn_bool' w dp 4 _ _ Try.underlying4) ?_
  refine fields_cons w _ _ _ _ _ (by decide) _ _ _ _ (part_one w 4 _ _ 2 _ Try.underlying4 rfl rfl) (part_one w 4 _ _ 2 _ Try.underlying4 rfl rfl) (run_equalIn_bool' w dp 4 _ _ Try.underlying4) ?_
  refine fields_cons w _ _ _ _ _ (by decide) _ _ _ _ (part_one w 3 _ _ 3 _ Try.underlying3 rfl rfl) (part_one w 3 _ _ 3 _ Try.underlying3 rfl rfl) (run_equalIn_int w dp 3 .i64 .i64 _ _ Try.underlying3) ?_
  refine fields_cons w _ _ _ _ _ (by decide) _ _ _ _ (part_one w 3 _ _ 4 _ Try.underlying3 rfl rfl) (part_one w 3 _ _ 4 _ Try.underlying3 rfl rfl) (run_equalIn_int w dp 3 .i64 .i64 _ _ Try.underlying3) ?_
  refine fields_cons w _ _ _ _ _ (by decide) _ _ _ _ (part_one w 9 _ _ 5 _ Try.underlying9 rfl rfl) (part_one w 9 _ _ 5 _ Try.underlying9 rfl rfl) (run_equalIn_string w dp 9 _ _ Try.underlying9) ?_
  simp [Op.eqFields]
theorem neq_self (w : World) (s : FS) : (binOp .neq 68 (.agg #[.bool s.u, .bool s.d, .bool s.r, .int .i64 s.p, .int .i64 s.q, .string (strOfNums s.bs)]) (.agg #[.bool s.u, .bool s.d, .bool s.r, .int .i64 s.p, .int .i64 s.q, .string (strOfNums s.bs)])).run Try.prog w = .ok (.bool false) w := by
  rw [run_neq_struct, equal_self w s 10000 9998 rfl]; rfl
theorem eql_self (w : World) (s : FS) : (binOp .eql 68 (.agg #[.bool s.u, .bool s.d, .bool s.r, .int .i64 s.p, .int .i64 s.q, .string (strOfNums s.bs)]) (.agg #[.bool s.u, .bool s.d, .bool s.r, .int .i64 s.p, .int .i64 s.q, .string (strOfNums s.bs)])).run Try.prog w = .ok (.bool true) w := by
  rw [run_eql_struct, equal_self w s 10000 9998 rfl]; rfl
theorem guard_eql (w : World) (x y : Operand) (A B : Array Value) : (eqGuard .eql 68 x y (.agg A) (.agg B)).run Try.prog w = .ok () w := run_eqGuard_agg w .eql 68 x y A B (by kernel_rfl)

set_option maxRecDepth 8000 in
set_option maxHeartbeats 4000000 in
theorem as_any (w : World) (s : FS) (hl : s.bs.length = 32) :
    Calls Try.prog 44 #[.agg s.arr] w fun e w' => e = .returned (.agg #[.bool s.u, .bool s.d, .bool s.r, .int .i64 s.p, .int .i64 s.q, .string (strOfNums s.bs)]) ∧ Grow w w' := by
  obtain ⟨W0, hW0⟩ : ∃ W0, (w.alloc (.cells s.arr 47)).alloc (.cells #[.bool false, .bool false, .bool false, .int .i64 0, .int .i64 0, .string ⟨#[]⟩] 68) = W0 := ⟨_, rfl⟩
  have g0 : Grow w W0 := by rw [← hW0]; exact ((Grow.refl w).alloc _).alloc _
  obtain ⟨X, hX⟩ : ∃ X, w.heap.size = X := ⟨_, rfl⟩
  have V0 : VarAt W0 (X + 1) [.bool false, .bool false, .bool false, .int .i64 0, .int .i64 0, .string ⟨#[]⟩] := by rw [← hW0, ← hX]; exact VarAt.new2 w _ [.bool false, .bool false, .bool false, .int .i64 0, .int .i64 0, .string ⟨#[]⟩] 68
  have hF : FrAt W0 X s.u s.d s.r s.p s.q s.bs := by
    rw [← hW0, ← hX]
    exact (FrX.at0 (FrX.new hl w 47)).grow ((Grow.refl _).alloc _)
  have HX : Hid (X = w.heap.size) := hX.symm
  have gd : Grow W0 W0.drew := (Grow.refl W0).drew
  have fx : ∀ w', Grow W0.drew w' → (w'.cell? ⟨X, 0, none⟩ = some (.bool s.u) ∧ w'.cell? ⟨X, 1, none⟩ = some (.bool s.d) ∧ w'.cell? ⟨X, 2, none⟩ = some (.bool s.r) ∧ w'.cell? ⟨X, 3, none⟩ = some (.int .i64 s.p) ∧ w'.cell? ⟨X, 4, none⟩ = some (.int .i64 s.q)) := fun w' g => ((hF.grow gd).grow g).five.1
  have hb := bytes_any W0.drew X s.u s.d s.r s.p s.q s.bs (hF.grow gd)
  have HV : Hid (VarAt W0 (X + 1) [.bool false, .bool false, .bool false, .int .i64 0, .int .i64 0, .string ⟨#[]⟩] ∧ Grow w W0) := ⟨V0, g0⟩
  generalize s.arr = A at hW0 ⊢
  obtain ⟨u, d, r, p, q, bs⟩ := s
  simp only at fx hb ⊢
  clear hF V0 g0 hl
  go_enter Try.func44, Try.ntmps44
  go_upto_region 1 with fail
  (try rw [hW0])
  (try rw [hX])
  clear hW0 hX
  go_wp2
  refine wp_region_last 17 (by kernel_rfl) [(0, false), (1, false), (2, false), (3, false), (4, false), (5, false), (6, false), (7, false), (8, false), (9, false), (10, false), (11, false), (12, false), (13, false), (14, true), (15, false), (16, false)] (by kernel_rfl) (by kernel_rfl) rfl (fun _ _ d _ _ h => by cases d <;> exact h) ?_
  simp only [inOrder, List.filterMap_cons, List.filterMap_nil, List.getElem?_toArray, List.getElem?_cons_zero, List.getElem?_cons_succ, Option.map_some]
  repeat (first
    | (refine wpS_move rfl ?_; simp only [Act.eval, Act.put, Array.getD_eq_getD_getElem?, List.getElem?_toArray, List.getElem?_cons_zero, List.getElem?_cons_succ, Option.getD_some, List.setIfInBounds_toArray, List.set_cons_zero, List.set_cons_succ])
    | (refine wpS_assign rfl ?_; simp only [Act.eval, Act.put, Array.getD_eq_getD_getElem?, List.getElem?_toArray, List.getElem?_cons_zero, List.getElem?_cons_succ, Option.getD_some, List.setIfInBounds_toArray, List.set_cons_zero, List.set_cons_succ])
    | (refine wpS_read (v := ?_) rfl ?_ ?_; rotate_left; (focus (intro w' hG; obtain ⟨q0, q1, q2, q3, q4⟩ := fx w' hG; go_simp; try (with_reducible rfl))); simp only [Act.put, List.setIfInBounds_toArray, List.set_cons_zero, List.set_cons_succ])
    | (refine wpS_skip rfl ?_; simp only [Act.put, List.setIfInBounds_toArray, List.set_cons_zero, List.set_cons_succ]))
  refine wpS_call (f := ?_) (args := ?_) (by rfl) ?_ ?_
  rotate_left 2; focus (go_simp; constructor <;> with_reducible rfl)
  refine (hb).mono ?_
  rintro e w1 ⟨v1, rfl, ho1, hg1⟩
  refine ⟨_, rfl, hg1, ?_⟩
  simp only [Act.put, List.setIfInBounds_toArray, List.set_cons_zero, List.set_cons_succ]
  have km : ∀ w', Grow w1 w' → (convert 34 9 v1).run Try.prog w' = .ok (.string (strOfNums bs)) w' := fun w' g => (ho1.rd.grow g).i.string 34 9 5 Try.underlying34 Try.underlying5 Try.underlying9
  repeat (first
    | (refine wpS_move rfl ?_; simp only [Act.eval, Act.put, Array.getD_eq_getD_getElem?, List.getElem?_toArray, List.getElem?_cons_zero, List.getElem?_cons_succ, Option.getD_some, List.setIfInBounds_toArray, List.set_cons_zero, List.set_cons_succ])
    | (refine wpS_assign rfl ?_; simp only [Act.eval, Act.put, Array.getD_eq_getD_getElem?, List.getElem?_toArray, List.getElem?_cons_zero, List.getElem?_cons_succ, Option.getD_some, List.setIfInBounds_toArray, List.set_cons_zero, List.set_cons_succ])
    | (refine wpS_read (v := ?_) rfl ?_ ?_; rotate_left; (focus (intro w' hG; have q9 := km w' hG; go_simp; try (with_reducible rfl))); simp only [Act.put, List.setIfInBounds_toArray, List.set_cons_zero, List.set_cons_succ])
    | (refine wpS_skip rfl ?_; simp only [Act.put, List.setIfInBounds_toArray, List.set_cons_zero, List.set_cons_succ]))
  have V1 := (HV.out.1.grow gd).grow hg1
  have HF : Hid (VarAt (put6 w1 (X + 1) (.bool u) (.bool d) (.bool r) (.int .i64 p) (.int .i64 q) (.string (strOfNums bs))) (X + 1) [.bool u, .bool d, .bool r, .int .i64 p, .int .i64 q, .string (strOfNums bs)] ∧ Grow w (put6 w1 (X + 1) (.bool u) (.bool d) (.bool r) (.int .i64 p) (.int .i64 q) (.string (strOfNums bs)))) :=
    ⟨V1.put6 _ _ _ _ _ _, UpdS.new ((HV.out.2.trans gd).trans hg1) (upd_put6 _ _ _ _ _ _ _ _) (fun i hi => by have := HX.out; omega)⟩
  obtain ⟨⟨y0, y1, y2, y3, y4, y5⟩, f0, f1, f2, f3, f4, f5⟩ := V1.six
  clear fx hb hg1 ho1 km V1
  refine wpS_nil ?_
  refine last_store (w' := put6 w1 (X + 1) (.bool u) (.bool d) (.bool r) (.int .i64 p) (.int .i64 q) (.string (strOfNums bs))) rfl rfl (by unfold put6; go_simp) ?_
  simp only [Act.put, List.setIfInBounds_toArray, List.set_cons_zero, List.set_cons_succ]
  generalize put6 w1 (X + 1) (.bool u) (.bool d) (.bool r) (.int .i64 p) (.int .i64 q) (.string (strOfNums bs)) = w2 at HF
  clear y0 y1 y2 y3 y4 y5 f0 f1 f2 f3 f4 f5
  go_wp2
  exact bodyPost_ret_by (results_cell rfl _ _ _ _ rfl (load_F _ _ _ _ _ _ _ _ HF.out.1)) rfl ⟨rfl, HF.out.2⟩

set_option maxRecDepth 8000 in
set_option maxHeartbeats 4000000 in
theorem like_any (w : World) (P b o : Nat) (L : List FS) (h : Nat) (k : PtO w P b o L h) (hk : PtOk L h) (a : Option Addr) (c : Nat) (pq : Nat → Prop) (hr : RdQ pq w (.slice a L.length c) L) :
    Calls Try.prog 13 #[.pointer (some ⟨P, 0, none⟩), .agg #[.slice a L.length c, .int .i64 h]] w fun e w' => e = .returned (.bool true) ∧ Grow w w' := by
  obtain ⟨W, hW⟩ : ∃ W, w.alloc (.cells #[.slice a L.length c, .int .i64 h] 30) = W := ⟨_, rfl⟩
  obtain ⟨X, hX⟩ : ∃ X, w.heap.size = X := ⟨_, rfl⟩
  have g0 : Grow w W := by rw [← hW]; exact (Grow.refl w).alloc _
  have V0 : VarAt W X [.slice a L.length c, .int .i64 h] := by rw [← hW, ← hX]; exact VarAt.new w [.slice a L.length c, .int .i64 h] 30
  have HL : Hid (PtOk L h) := hk
  have hL := hk.2.2
  have HR : Hid (RdQ pq W (.slice a L.length c) L ∧ Grow w W ∧ VarAt W X [.slice a L.length c, .int .i64 h] ∧ PtO W P b o L h) := ⟨RdS.grow hr g0, g0, V0, k.grow g0⟩
  clear hr g0 V0 k hk
  go_enter Try.func13, Try.ntmps13
  go_upto_region 1 with fail
  (try rw [hW])
  (try rw [hX])
  clear hW hX
  go_wp2
  have gd : Grow W W.drew := (Grow.refl W).drew
  have fx : ∀ w', Grow W w' → (w'.cell? ⟨X, 0, none⟩ = some (.slice a L.length c) ∧ w'.cell? ⟨X, 1, none⟩ = some (.int .i64 h)) := fun w' g => (HR.out.2.2.1.grow g).two.1
  refine wp_region_sched (by kernel_rfl) [(0, false), (2, false), (3, false), (4, false), (1, true), (5, false), (6, false), (7, false), (9, false), (10, false), (8, true), (11, false), (12, false), (13, false), (14, false), (16, false), (15, true), (17, true), (18, true), (19, false), (20, false), (21, false), (22, false), (24, false), (23, true), (25, true), (26, false), (27, false)] (by kernel_rfl) (by kernel_rfl) rfl (fun _ _ d _ _ h => by cases d <;> exact h) ?_
  simp only [inOrder, List.filterMap_cons, List.filterMap_nil, List.getElem?_toArray, List.getElem?_cons_zero, List.getElem?_cons_succ, Option.map_some]
  repeat (first
    | (refine wpS_move rfl ?_; simp only [Act.eval, Act.put, Array.getD_eq_getD_getElem?, List.getElem?_toArray, List.getElem?_cons_zero, List.getElem?_cons_succ, Option.getD_some, List.setIfInBounds_toArray, List.set_cons_zero, List.set_cons_succ])
    | (refine wpS_assign rfl ?_; simp only [Act.eval, Act.put, Array.getD_eq_getD_getElem?, List.getElem?_toArray, List.getElem?_cons_zero, List.getElem?_cons_succ, Option.getD_some, List.setIfInBounds_toArray, List.set_cons_zero, List.set_cons_succ])
    | (refine wpS_read (v := ?_) rfl ?_ ?_; rotate_left; (focus (intro w' hG; obtain ⟨q0, q1⟩ := fx w' (gd.trans hG); go_simp; try (with_reducible rfl))); simp only [Act.put, List.setIfInBounds_toArray, List.set_cons_zero, List.set_cons_succ])
    | (refine wpS_skip rfl ?_; simp only [Act.put, List.setIfInBounds_toArray, List.set_cons_zero, List.set_cons_succ]))
  have c1 := len_any W.drew P b o L h (HR.out.2.2.2.grow gd)
  refine wpS_call (f := ?_) (args := ?_) (by rfl) ?_ ?_
  rotate_left 2; focus (go_simp; constructor <;> with_reducible rfl)
  refine (c1).mono ?_
  rintro e w1 ⟨rfl, rfl⟩
  refine ⟨_, rfl, Grow.refl _, ?_⟩
  simp only [Act.put, List.setIfInBounds_toArray, List.set_cons_zero, List.set_cons_succ]
  repeat (first
    | (refine wpS_move rfl ?_; simp only [Act.eval, Act.put, Array.getD_eq_getD_getElem?, List.getElem?_toArray, List.getElem?_cons_zero, List.getElem?_cons_succ, Option.getD_some, List.setIfInBounds_toArray, List.set_cons_zero, List.set_cons_succ])
    | (refine wpS_assign rfl ?_; simp only [Act.eval, Act.put, Array.getD_eq_getD_getElem?, List.getElem?_toArray, List.getElem?_cons_zero, List.getElem?_cons_succ, Option.getD_some, List.setIfInBounds_toArray, List.set_cons_zero, List.set_cons_succ])
    | (refine wpS_read (v := ?_) rfl ?_ ?_; rotate_left; (focus (intro w' hG; obtain ⟨q0, q1⟩ := fx w' (gd.trans hG); go_simp; try (with_reducible rfl))); simp only [Act.put, List.setIfInBounds_toArray, List.set_cons_zero, List.set_cons_succ])
    | (refine wpS_skip rfl ?_; simp only [Act.put, List.setIfInBounds_toArray, List.set_cons_zero, List.set_cons_succ]))
  have c2 := hand_any W.drew P b o L h (HR.out.2.2.2.grow gd)
  refine wpS_call (f := ?_) (args := ?_) (by rfl) ?_ ?_
  rotate_left 2; focus (go_simp; constructor <;> with_reducible rfl)
  refine (c2).mono ?_
  rintro e w1 ⟨rfl, rfl⟩
  refine ⟨_, rfl, Grow.refl _, ?_⟩
  simp only [Act.put, List.setIfInBounds_toArray, List.set_cons_zero, List.set_cons_succ]
  repeat (first
    | (refine wpS_move rfl ?_; simp only [Act.eval, Act.put, Array.getD_eq_getD_getElem?, List.getElem?_toArray, List.getElem?_cons_zero, List.getElem?_cons_succ, Option.getD_some, List.setIfInBounds_toArray, List.set_cons_zero, List.set_cons_succ])
    | (refine wpS_assign rfl ?_; simp only [Act.eval, Act.put, Array.getD_eq_getD_getElem?, List.getElem?_toArray, List.getElem?_cons_zero, List.getElem?_cons_succ, Option.getD_some, List.setIfInBounds_toArray, List.set_cons_zero, List.set_cons_succ])
    | (refine wpS_read (v := ?_) rfl ?_ ?_; rotate_left; (focus (intro w' hG; obtain ⟨q0, q1⟩ := fx w' (gd.trans hG); go_simp; try (with_reducible rfl))); simp only [Act.put, List.setIfInBounds_toArray, List.set_cons_zero, List.set_cons_succ])
    | (refine wpS_skip rfl ?_; simp only [Act.put, List.setIfInBounds_toArray, List.set_cons_zero, List.set_cons_succ]))
  have c3 := dirty_any W.drew P b o L h (HR.out.2.2.2.grow gd) hL
  refine wpS_call (f := ?_) (args := ?_) (by rfl) ?_ ?_
  rotate_left 2; focus (go_simp; constructor <;> with_reducible rfl)
  refine (c3).mono ?_
  rintro e w3 ⟨v3, rfl, o3, g3⟩
  refine ⟨_, rfl, g3, ?_⟩
  simp only [Act.put, List.setIfInBounds_toArray, List.set_cons_zero, List.set_cons_succ]
  have gA := gd.trans g3
  have c4 := qdirty_any w3 a c L (h : Int) (RdS.grow HR.out.1 gA) hL
  refine wpS_call (f := ?_) (args := ?_) (by rfl) ?_ ?_
  rotate_left 2; focus (go_simp; constructor <;> with_reducible rfl)
  refine (c4).mono ?_
  rintro e w4 ⟨v4, rfl, o4, g4⟩
  refine ⟨_, rfl, g4, ?_⟩
  simp only [Act.put, List.setIfInBounds_toArray, List.set_cons_zero, List.set_cons_succ]
  have c5 := samez_any v3 v4 _ _ _ _ w4 (o3.rd.grow g4) o4.rd
  rw [decide_eq_true rfl] at c5
  refine wpS_call (f := ?_) (args := ?_) (by rfl) ?_ ?_
  rotate_left 2; focus (go_simp; constructor <;> with_reducible rfl)
  refine (c5).mono ?_
  rintro e w5 ⟨rfl, g5⟩
  refine ⟨_, rfl, g5, ?_⟩
  simp only [Act.put, List.setIfInBounds_toArray, List.set_cons_zero, List.set_cons_succ]
  have gB : Grow W w5 := (gA.trans g4).trans g5
  repeat (first
    | (refine wpS_move rfl ?_; simp only [Act.eval, Act.put, Array.getD_eq_getD_getElem?, List.getElem?_toArray, List.getElem?_cons_zero, List.getElem?_cons_succ, Option.getD_some, List.setIfInBounds_toArray, List.set_cons_zero, List.set_cons_succ])
    | (refine wpS_assign rfl ?_; simp only [Act.eval, Act.put, Array.getD_eq_getD_getElem?, List.getElem?_toArray, List.getElem?_cons_zero, List.getElem?_cons_succ, Option.getD_some, List.setIfInBounds_toArray, List.set_cons_zero, List.set_cons_succ])
    | (refine wpS_read (v := ?_) rfl ?_ ?_; rotate_left; (focus (intro w' hG; obtain ⟨q0, q1⟩ := fx w' (gB.trans hG); go_simp; try (with_reducible rfl))); simp only [Act.put, List.setIfInBounds_toArray, List.set_cons_zero, List.set_cons_succ])
    | (refine wpS_skip rfl ?_; simp only [Act.put, List.setIfInBounds_toArray, List.set_cons_zero, List.set_cons_succ]))
  have c6 := pempty_any w5 P b o L h (HR.out.2.2.2.grow gB) hL
  have c7 := qempty_any w5 a c L (h : Int) (RdS.grow HR.out.1 gB) hL (fun s hs => (HL.out.1 s hs).2.1)
  obtain ⟨t, ht⟩ : ∃ t, t = emptyL L := ⟨_, rfl⟩
  rw [← ht] at c6 c7
  clear ht
  refine wpS_call (f := ?_) (args := ?_) (by rfl) ?_ ?_
  rotate_left 2; focus (go_simp; constructor <;> with_reducible rfl)
  refine (c6).mono ?_
  rintro e w6 ⟨rfl, rfl⟩
  refine ⟨_, rfl, Grow.refl _, ?_⟩
  simp only [Act.put, List.setIfInBounds_toArray, List.set_cons_zero, List.set_cons_succ]
  refine wpS_call (f := ?_) (args := ?_) (by rfl) ?_ ?_
  rotate_left 2; focus (go_simp; constructor <;> with_reducible rfl)
  refine (c7).mono ?_
  rintro e w7 ⟨rfl, g7⟩
  refine ⟨_, rfl, g7, ?_⟩
  simp only [Act.put, List.setIfInBounds_toArray, List.set_cons_zero, List.set_cons_succ]
  repeat (first
    | (refine wpS_move rfl ?_; simp only [Act.eval, Act.put, Array.getD_eq_getD_getElem?, List.getElem?_toArray, List.getElem?_cons_zero, List.getElem?_cons_succ, Option.getD_some, List.setIfInBounds_toArray, List.set_cons_zero, List.set_cons_succ])
    | (refine wpS_assign rfl ?_; simp only [Act.eval, Act.put, Array.getD_eq_getD_getElem?, List.getElem?_toArray, List.getElem?_cons_zero, List.getElem?_cons_succ, Option.getD_some, List.setIfInBounds_toArray, List.set_cons_zero, List.set_cons_succ])
    | (refine wpS_read (v := ?_) rfl ?_ ?_; rotate_left; (focus (intro w' hG; skip; go_simp; try (with_reducible rfl))); simp only [Act.put, List.setIfInBounds_toArray, List.set_cons_zero, List.set_cons_succ])
    | (refine wpS_skip rfl ?_; simp only [Act.put, List.setIfInBounds_toArray, List.set_cons_zero, List.set_cons_succ]))
  refine wpS_nil ?_
  have HG : Hid (Grow W w7) := gB.trans g7
  clear c1 c2 c3 c4 c5 c6 c7 o3 o4 g3 g4 g5 g7 gA gB gd
  go_wp2
  go_loopg [5] L.length (fun m iv wr => ∃ j : Nat, m = L.length - j ∧ j ≤ L.length ∧ iv = .int .i64 j ∧ Hid (Grow W wr))
  case atStart => exact ⟨0, rfl, by omega, rfl, HG⟩
  case round =>
    clear HG
    obtain ⟨j, hj, hj2, rfl, HI⟩ := hrel
    have HK : Hid (gk = L.length - j) := hj
    clear hj
    obtain ⟨q0', q1'⟩ := fx wr HI.out
    by_cases hlt : j < L.length
    · have hle : (j : Int) < (L.length : Int) := by omega
      have HJ : Hid (j < L.length) := hlt
      have hw0 : IntKind.i64.wrap ((j : Int) + 1) = ((j + 1 : Nat) : Int) := by rw [IntKind.wrap_i64]; omega
      obtain ⟨bb, oo, rfl⟩ := rdQ_addr HR.out.1 (by omega)
      have gd : Grow wr wr.drew := (Grow.refl wr).drew
      have HQ : Hid (∀ w', Grow W w' → QIn w' bb (oo + j * 6) (L.getD j FS.empty)) := fun w' g => rdQ_in (RdS.grow HR.out.1 g) hlt
      have c1 := at_any wr.drew P b o L h (HR.out.2.2.2.grow (HI.out.trans gd)) hL (j : Int)
      rw [atL_yes hlt] at c1
      generalize L.getD j FS.empty = s at c1 HQ
      have ky : ∀ w', Grow wr.drew w' → ((w'.cell? ⟨X, 0, none⟩ = some (.slice (some ⟨bb, oo, none⟩) L.length c)) ∧ QIn w' bb (oo + j * 6) s) := fun w' g => ⟨(fx w' ((HI.out.trans gd).trans g)).1, HQ.out w' ((HI.out.trans gd).trans g)⟩
      clear hlt
      go_wp2
      refine wp_region_sched (by kernel_rfl) [(0, false), (1, false), (4, false), (5, false), (6, false), (7, false), (8, false), (2, true), (3, true), (9, false)] (by kernel_rfl) (by kernel_rfl) rfl (fun _ _ d _ _ h => by cases d <;> exact h) ?_
      simp only [inOrder, List.filterMap_cons, List.filterMap_nil, List.getElem?_toArray, List.getElem?_cons_zero, List.getElem?_cons_succ, Option.map_some]
      repeat (first
        | (refine wpS_move rfl ?_; simp only [Act.eval, Act.put, Array.getD_eq_getD_getElem?, List.getElem?_toArray, List.getElem?_cons_zero, List.getElem?_cons_succ, Option.getD_some, List.setIfInBounds_toArray, List.set_cons_zero, List.set_cons_succ])
        | (refine wpS_assign rfl ?_; simp only [Act.eval, Act.put, Array.getD_eq_getD_getElem?, List.getElem?_toArray, List.getElem?_cons_zero, List.getElem?_cons_succ, Option.getD_some, List.setIfInBounds_toArray, List.set_cons_zero, List.set_cons_succ])
        | (refine wpS_read (v := ?_) rfl ?_ ?_; rotate_left; (focus (intro w' hG; obtain ⟨q0, k0, k1, k2, k3, k4, k5⟩ := ky w' hG; go_simp; try (with_reducible rfl))); simp only [Act.put, List.setIfInBounds_toArray, List.set_cons_zero, List.set_cons_succ])
        | (refine wpS_skip rfl ?_; simp only [Act.put, List.setIfInBounds_toArray, List.set_cons_zero, List.set_cons_succ]))
      refine wpS_call (f := ?_) (args := ?_) (by rfl) ?_ ?_
      rotate_left 2; focus (go_simp; constructor <;> with_reducible rfl)
      refine (c1).mono ?_
      rintro e w2 ⟨rfl, hsl, g2⟩
      refine ⟨_, rfl, g2, ?_⟩
      simp only [Act.put, List.setIfInBounds_toArray, List.set_cons_zero, List.set_cons_succ]
      have c2 := as_any w2 s hsl
      refine wpS_call (f := ?_) (args := ?_) (by rfl) ?_ ?_
      rotate_left 2; focus (go_simp; constructor <;> with_reducible rfl)
      refine (c2).mono ?_
      rintro e w3 ⟨rfl, g3⟩
      refine ⟨_, rfl, g3, ?_⟩
      simp only [Act.put, List.setIfInBounds_toArray, List.set_cons_zero, List.set_cons_succ]
      refine wpS_read (v := .bool false) rfl (fun w' hG => exec_bin rfl rfl rfl (guard_docs w' _ _ _ _) (neq_self w' s)) ?_
      simp only [Act.put, List.setIfInBounds_toArray, List.set_cons_zero, List.set_cons_succ]
      repeat (first
        | (refine wpS_move rfl ?_; simp only [Act.eval, Act.put, Array.getD_eq_getD_getElem?, List.getElem?_toArray, List.getElem?_cons_zero, List.getElem?_cons_succ, Option.getD_some, List.setIfInBounds_toArray, List.set_cons_zero, List.set_cons_succ])
        | (refine wpS_assign rfl ?_; simp only [Act.eval, Act.put, Array.getD_eq_getD_getElem?, List.getElem?_toArray, List.getElem?_cons_zero, List.getElem?_cons_succ, Option.getD_some, List.setIfInBounds_toArray, List.set_cons_zero, List.set_cons_succ])
        | (refine wpS_read (v := ?_) rfl ?_ ?_; rotate_left; (focus (intro w' hG; skip; go_simp; try (with_reducible rfl))); simp only [Act.put, List.setIfInBounds_toArray, List.set_cons_zero, List.set_cons_succ])
        | (refine wpS_skip rfl ?_; simp only [Act.put, List.setIfInBounds_toArray, List.set_cons_zero, List.set_cons_succ]))
      refine wpS_nil ?_
      have HF : Hid (Grow W w3) := ((HI.out.trans gd).trans g2).trans g3
      clear c1 c2 g2 g3 gd ky HQ q0' q1'
      go_wp2
      go_roundg (L.length - (j + 1))
      case measure => have := HK.out; have := HJ.out; omega
      case rel => exact ⟨j + 1, rfl, by have := HJ.out; omega, by go_num, HF⟩
    · have hge : ¬ (j : Int) < (L.length : Int) := by omega
      have c1 := at_any wr P b o L h (HR.out.2.2.2.grow HI.out) hL (-1)
      rw [atL_no (fun e => by have := e.1; omega)] at c1
      go_wp2_with fail
      refine c1.mono ?_
      rintro e w2 ⟨rfl, hsl, g2⟩
      have c2 := as_any w2 FS.empty hsl
      clear c1
      go_wp2_with fail
      refine c2.mono ?_
      rintro e w3 ⟨rfl, g3⟩
      have c3 := rempty_any w3
      clear c2
      go_wp2_with fail
      refine c3.mono ?_
      rintro e w4 ⟨rfl, g4⟩
      have HB : Hid (Grow W w4) := ((HI.out.trans g2).trans g3).trans g4
      obtain ⟨q0, q1⟩ := fx w4 HB.out
      have c4 := at_any w4 P b o L h (HR.out.2.2.2.grow HB.out) hL (L.length : Int)
      rw [atL_no (fun e => by have := e.2; omega)] at c4
      clear c3 q0' q1'
      go_wp2_with fail
      refine c4.mono ?_
      rintro e w5 ⟨rfl, hsl5, g5⟩
      have c5 := as_any w5 FS.empty hsl5
      clear c4 q0 q1
      go_wp2_with fail
      refine c5.mono ?_
      rintro e w6 ⟨rfl, g6⟩
      have c6 := rempty_any w6
      clear c5
      go_wp2_with fail
      refine c6.mono ?_
      rintro e w7 ⟨rfl, g7⟩
      have HF : Hid (Grow w w7) := HR.out.2.1.trans (((HB.out.trans g5).trans g6).trans g7)
      clear c6 g2 g3 g4 g5 g6 g7 fx
      go_wp2
      go_ret
      exact ⟨rfl, HF.out⟩
end Go.Proofs.Ythdhfojogckflaa
