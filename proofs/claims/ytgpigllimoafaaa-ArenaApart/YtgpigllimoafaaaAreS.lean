/-
  A frame as the document has it, two of them beside each other, a partition's numbers behind its calls. Conditions: each theorem's own.
-/
import Derived.Test.YtgpigllimoafaaaAreL
import Derived.Test.YtgpigllimoafaaaLast
import Derived.Laws.StructEq
import Derived.Deep.LoopGhost
namespace Go.Proofs.Ytgpigllimoafaaa
open Go.RowKit
set_option linter.unusedVariables false
set_option linter.unusedSimpArgs false

theorem onP_all15 {q : Int} {f : FS → FS × Int} {L : List FS} {h : Nat} (k : PtOk L h) (hf : ∀ s : FS, s.Ok → (f s).1.Ok) : PtOk (onP q f L).1 h ∧ (onP q f L).1.length = L.length := by
  unfold onP
  split
  · rename_i hl; exact ⟨k.set (hf _ (k.at hl)), List.length_set⟩
  · exact ⟨k, rfl⟩
theorem vicL_all15 {L : List FS} {h : Nat} (k : PtOk L h) : PtOk (vicL L h) (hnd (flsL L) h) ∧ (vicL L h).length = L.length := by
  refine ⟨⟨fun s hs => ?_, ?_, by rw [vicL_len]; exact k.2.2⟩, vicL_len L h⟩
  · obtain ⟨i, hi, e⟩ := List.mem_iff_getElem.1 hs
    have hi' : i < L.length := by rwa [vicL_len] at hi
    have e2 := vicL_is k.2.1 hi'
    rw [getD_at hi, e] at e2
    rw [e2]
    exact k.at hi'
  · have := hnd_lt (l := flsL L) (h := h) (by rw [flsL_len]; exact k.2.1)
    rw [flsL_len] at this
    rw [vicL_len]; exact this
theorem put37_15 (w2 : World) (s : FS) (hl : s.bs.length = 32) : (storeCells ⟨w2.heap.size, 0, none⟩ s.cells).run Try.prog (w2.alloc (.cells zeroF 52)) = .ok () ((w2.alloc (.cells zeroF 52)).setCells w2.heap.size 0 s.cells) := by
  have FX : FrX (w2.alloc (.cells zeroF 52)) w2.heap.size 0 FS.empty := by rw [← empty_arr]; exact FrX.new z32_len w2 52
  have hl37 := FS.cells_len hl
  have hst := run_storeCells_cells (P := Try.prog) w2.heap.size 0 s.cells 0 (w2.alloc (.cells zeroF 52)) (fun j hj => by rw [hl37] at hj; exact (FX.there j hj).1) (fun j hj => by rw [hl37] at hj; exact (FX.there j hj).2) s.cells_one
  simp only [Nat.add_zero] at hst
  exact hst
theorem put37_at15 (w2 : World) (s : FS) (hl : s.bs.length = 32) : FrX ((w2.alloc (.cells zeroF 52)).setCells w2.heap.size 0 s.cells) w2.heap.size 0 s ∧ Grow w2 ((w2.alloc (.cells zeroF 52)).setCells w2.heap.size 0 s.cells) := by
  have FX : FrX (w2.alloc (.cells zeroF 52)) w2.heap.size 0 FS.empty := by rw [← empty_arr]; exact FrX.new z32_len w2 52
  exact ⟨FX.put hl, UpdS.new ((Grow.refl w2).alloc _) (updS_row _ _ _ _) (fun i hi => by omega)⟩
theorem equal_self15 (w : World) (s : FS) (n dp : Nat) (hn : n = dp + 2) : (Op.equalIn n 55 (.agg #[.bool s.u, .bool s.d, .bool s.r, .int .i64 s.p, .int .i64 s.q, .string (strOfNums s.bs)]) (.agg #[.bool s.u, .bool s.d, .bool s.r, .int .i64 s.p, .int .i64 s.q, .string (strOfNums s.bs)])).run Try.prog w = .ok true w := by
  subst hn
  have hA : Try.prog.underlying 55 = some (.struct (Try.prog.fieldsOf 55)) := by kernel_rfl
  have hS : Try.prog.stoodInHeld 55 = false := by kernel_rfl
  have hT : true = ((s.u == s.u) && ((s.d == s.d) && ((s.r == s.r) && ((s.p == s.p) && ((s.q == s.q) && (((strOfNums s.bs).toList == (strOfNums s.bs).toList) && true)))))) := by simp
  rw [run_equalIn_agg _ _ _ _ _ hA hS, hT]
  simp only [Program.fieldsOf, Try.underlying55]
  refine fields_cons w _ _ _ _ _ (by decide) _ _ _ _ (part_one w 4 _ _ 0 _ Try.underlying4 rfl rfl) (part_one w 4 _ _ 0 _ Try.underlying4 rfl rfl) (run_equalIn_bool' w dp 4 _ _ Try.underlying4) ?_
  refine fields_cons w _ _ _ _ _ (by decide) _ _ _ _ (part_one w 4 _ _ 1 _ Try.underlying4 rfl rfl) (part_one w 4 _ _ 1 _ Try.underlying4 rfl rfl) (run_equalIn_bool' w dp 4 _ _ Try.underlying4) ?_
  refine fields_cons w _ _ _ _ _ (by decide) _ _ _ _ (part_one w 4 _ _ 2 _ Try.underlying4 rfl rfl) (part_one w 4 _ _ 2 _ Try.underlying4 rfl rfl) (run_equalIn_bool' w dp 4 _ _ Try.underlying4) ?_
  refine fields_cons w _ _ _ _ _ (by decide) _ _ _ _ (part_one w 3 _ _ 3 _ Try.underlying3 rfl rfl) (part_one w 3 _ _ 3 _ Try.underlying3 rfl rfl) (run_equalIn_int w dp 3 .i64 .i64 _ _ Try.underlying3) ?_
  refine fields_cons w _ _ _ _ _ (by decide) _ _ _ _ (part_one w 3 _ _ 4 _ Try.underlying3 rfl rfl) (part_one w 3 _ _ 4 _ Try.underlying3 rfl rfl) (run_equalIn_int w dp 3 .i64 .i64 _ _ Try.underlying3) ?_
  refine fields_cons w _ _ _ _ _ (by decide) _ _ _ _ (part_one w 9 _ _ 5 _ Try.underlying9 rfl rfl) (part_one w 9 _ _ 5 _ Try.underlying9 rfl rfl) (run_equalIn_string w dp 9 _ _ Try.underlying9) ?_
  simp [Op.eqFields]
theorem eql_self15 (w : World) (s : FS) : (binOp .eql 55 (.agg #[.bool s.u, .bool s.d, .bool s.r, .int .i64 s.p, .int .i64 s.q, .string (strOfNums s.bs)]) (.agg #[.bool s.u, .bool s.d, .bool s.r, .int .i64 s.p, .int .i64 s.q, .string (strOfNums s.bs)])).run Try.prog w = .ok (.bool true) w := by
  rw [run_eql_struct, equal_self15 w s 10000 9998 rfl]; rfl
theorem guard_eql15 (w : World) (x y : Operand) (A B : Array Value) : (eqGuard .eql 55 x y (.agg A) (.agg B)).run Try.prog w = .ok () w := run_eqGuard_agg w .eql 55 x y A B (by kernel_rfl)
set_option maxRecDepth 8000 in
set_option maxHeartbeats 4000000 in
theorem as15_any (w : World) (s : FS) (hl : s.bs.length = 32) :
    Calls Try.prog 31 #[.agg s.arr] w fun e w' => e = .returned (.agg #[.bool s.u, .bool s.d, .bool s.r, .int .i64 s.p, .int .i64 s.q, .string (strOfNums s.bs)]) ∧ Grow w w' := by
  obtain ⟨W0, hW0⟩ : ∃ W0, (w.alloc (.cells s.arr 52)).alloc (.cells #[.bool false, .bool false, .bool false, .int .i64 0, .int .i64 0, .string ⟨#[]⟩] 55) = W0 := ⟨_, rfl⟩
  have g0 : Grow w W0 := by rw [← hW0]; exact ((Grow.refl w).alloc _).alloc _
  obtain ⟨X, hX⟩ : ∃ X, w.heap.size = X := ⟨_, rfl⟩
  have V0 : VarAt W0 (X + 1) [.bool false, .bool false, .bool false, .int .i64 0, .int .i64 0, .string ⟨#[]⟩] := by rw [← hW0, ← hX]; exact VarAt.new2 w _ [.bool false, .bool false, .bool false, .int .i64 0, .int .i64 0, .string ⟨#[]⟩] 55
  have hF : FrAt W0 X s.u s.d s.r s.p s.q s.bs := by
    rw [← hW0, ← hX]
    exact (FrX.at0 (FrX.new hl w 52)).grow ((Grow.refl _).alloc _)
  have HX : Hid (X = w.heap.size) := hX.symm
  have gd : Grow W0 W0.drew := (Grow.refl W0).drew
  have fx : ∀ w', Grow W0.drew w' → (w'.cell? ⟨X, 0, none⟩ = some (.bool s.u) ∧ w'.cell? ⟨X, 1, none⟩ = some (.bool s.d) ∧ w'.cell? ⟨X, 2, none⟩ = some (.bool s.r) ∧ w'.cell? ⟨X, 3, none⟩ = some (.int .i64 s.p) ∧ w'.cell? ⟨X, 4, none⟩ = some (.int .i64 s.q)) := fun w' g => ((hF.grow gd).grow g).five.1
  have hb := bytes_any W0.drew X s.u s.d s.r s.p s.q s.bs (hF.grow gd)
  have HV : Hid (VarAt W0 (X + 1) [.bool false, .bool false, .bool false, .int .i64 0, .int .i64 0, .string ⟨#[]⟩] ∧ Grow w W0) := ⟨V0, g0⟩
  generalize s.arr = A at hW0 ⊢
  obtain ⟨u, d, r, p, q, bs⟩ := s
  simp only at fx hb ⊢
  clear hF V0 g0 hl
  go_enter Try.func31, Try.ntmps31
  go_upto_region 1 with fail
  (try rw [hW0])
  (try rw [hX])
  clear hW0 hX
  go_wp2
  refine wp_region_last 17 (by kernel_rfl) [(0, false), (1, false), (2, false), (3, false), (4, false), (5, false), (6, false), (7, false), (8, false), (9, false), (10, false), (11, false), (12, false), (13, false), (14, true), (15, false), (16, false)] (by kernel_rfl) (by kernel_rfl) rfl (fun _ _ d _ _ h => by cases d <;> exact h) ?_
  simp only [inOrder, List.filterMap_cons, List.filterMap_nil, List.getElem?_toArray, List.getElem?_cons_zero, List.getElem?_cons_succ, Option.map_some]
  repeat (first
    | (refine wpS_move rfl ?_; simp only [Act.eval, Act.put, Array.getD_eq_getD_getElem?, List.getElem?_toArray, List.getElem?_cons_zero, List.getElem?_cons_succ, Option.getD_some, List.setIfInBounds_toArray, List.set_cons_zero, List.set_cons_succ])
    | (refine wpS_assign rfl ?_; simp only [Act.eval, Act.put, Array.getD_eq_getD_getElem?, List.getElem?_toArray, List.getElem?_cons_zero, List.getElem?_cons_succ, Option.getD_some, List.setIfInBounds_toArray, List.set_cons_zero, List.set_cons_succ])
    | (refine wpS_read (v := ?_) rfl ?_ ?_; rotate_left; (focus (intro w' hG; obtain ⟨q0, q1, q2, q3, q4⟩ := fx w' hG; go_simp; try (with_reducible rfl))); simp only [Act.put, List.setIfInBounds_toArray, List.set_cons_zero, List.set_cons_succ])
    | (refine wpS_skip rfl ?_; simp only [Act.put, List.setIfInBounds_toArray, List.set_cons_zero, List.set_cons_succ]))
  refine wpS_call (f := ?_) (args := ?_) (by rfl) ?_ ?_
  rotate_left 2; focus (go_simp; constructor <;> with_reducible rfl)
  refine (hb).mono ?_
  rintro e w1 ⟨v1, rfl, ho1, hg1⟩
  refine ⟨_, rfl, hg1, ?_⟩
  simp only [Act.put, List.setIfInBounds_toArray, List.set_cons_zero, List.set_cons_succ]
  have km : ∀ w', Grow w1 w' → (convert 42 9 v1).run Try.prog w' = .ok (.string (strOfNums bs)) w' := fun w' g => (ho1.rd.grow g).i.string 42 9 5 Try.underlying42 Try.underlying5 Try.underlying9
  repeat (first
    | (refine wpS_move rfl ?_; simp only [Act.eval, Act.put, Array.getD_eq_getD_getElem?, List.getElem?_toArray, List.getElem?_cons_zero, List.getElem?_cons_succ, Option.getD_some, List.setIfInBounds_toArray, List.set_cons_zero, List.set_cons_succ])
    | (refine wpS_assign rfl ?_; simp only [Act.eval, Act.put, Array.getD_eq_getD_getElem?, List.getElem?_toArray, List.getElem?_cons_zero, List.getElem?_cons_succ, Option.getD_some, List.setIfInBounds_toArray, List.set_cons_zero, List.set_cons_succ])
    | (refine wpS_read (v := ?_) rfl ?_ ?_; rotate_left; (focus (intro w' hG; have q9 := km w' hG; go_simp; try (with_reducible rfl))); simp only [Act.put, List.setIfInBounds_toArray, List.set_cons_zero, List.set_cons_succ])
    | (refine wpS_skip rfl ?_; simp only [Act.put, List.setIfInBounds_toArray, List.set_cons_zero, List.set_cons_succ]))
  have V1 := (HV.out.1.grow gd).grow hg1
  have HF : Hid (VarAt (put6 w1 (X + 1) (.bool u) (.bool d) (.bool r) (.int .i64 p) (.int .i64 q) (.string (strOfNums bs))) (X + 1) [.bool u, .bool d, .bool r, .int .i64 p, .int .i64 q, .string (strOfNums bs)] ∧ Grow w (put6 w1 (X + 1) (.bool u) (.bool d) (.bool r) (.int .i64 p) (.int .i64 q) (.string (strOfNums bs)))) :=
    ⟨V1.put6 _ _ _ _ _ _, UpdS.new ((HV.out.2.trans gd).trans hg1) (upd_put6 _ _ _ _ _ _ _ _) (fun i hi => by have := HX.out; omega)⟩
  obtain ⟨⟨y0, y1, y2, y3, y4, y5⟩, f0, f1, f2, f3, f4, f5⟩ := V1.six
  clear fx hb hg1 ho1 km V1
  refine wpS_nil ?_
  refine last_store (w' := put6 w1 (X + 1) (.bool u) (.bool d) (.bool r) (.int .i64 p) (.int .i64 q) (.string (strOfNums bs))) rfl rfl (by unfold put6; go_simp) ?_
  simp only [Act.put, List.setIfInBounds_toArray, List.set_cons_zero, List.set_cons_succ]
  generalize put6 w1 (X + 1) (.bool u) (.bool d) (.bool r) (.int .i64 p) (.int .i64 q) (.string (strOfNums bs)) = w2 at HF
  clear y0 y1 y2 y3 y4 y5 f0 f1 f2 f3 f4 f5
  go_wp2
  exact bodyPost_ret_by (results_cell rfl _ _ _ _ rfl (load_F _ _ _ _ _ _ _ _ HF.out.1)) rfl ⟨rfl, HF.out.2⟩
theorem exec_bin15 {P : Program} {w : World} {o : Oper} {a : Act} {b : BinOp} {t t' : TypeId} {x y : Operand} {vx vy v : Value} (ho : o.op = .binOp b t x y t') (hx : a.eval x = vx) (hy : a.eval y = vy)
    (hg : (eqGuard b t x y vx vy).run P w = .ok () w) (hq : (binOp b t vx vy).run P w = .ok v w) : (execOp a.eval o).run P w = .ok (.value v) w := by
  unfold execOp
  simp only [ho, hx, hy, Sem.run_bind, hg, hq, Result.andThen_ok, Sem.run_pure]

/-- the frame of the page j, loaded and pinned -/
def fr15 (j : Int) (bs : List Int) : FS := ⟨true, false, true, 1, j, bs⟩
theorem apr_load {n : Nat} {j : Int} {bs : List Int} (hn : 1 ≤ n) (hb : bs.length = 32) : loadP 0 j bs (List.replicate n FS.empty) = ((List.replicate n FS.empty).set 0 ⟨true, false, false, 0, j, bs⟩, 0) := by
  have hf : fnd j (List.replicate n FS.empty) = (List.replicate n FS.empty).length := fnd_none (fun i hi => by
    rw [List.length_replicate] at hi
    rw [repl_at hi]; rfl)
  show loadP ((0 : Nat) : Int) j bs _ = _
  rw [loadP_yes (by rw [List.length_replicate]; omega) (fun h => by omega)]
  unfold loadS
  rw [if_pos hb]
theorem apr_pin {L : List FS} {j : Int} {bs : List Int} (hn : 0 < L.length) : onP j pinS (L.set 0 ⟨true, false, false, 0, j, bs⟩) = ((L.set 0 ⟨true, false, false, 0, j, bs⟩).set 0 (fr15 j bs), 0) := by
  have h0 : (L.set 0 (⟨true, false, false, 0, j, bs⟩ : FS)).getD 0 FS.empty = ⟨true, false, false, 0, j, bs⟩ := by rw [getD_set hn, if_pos rfl]
  have hf : fnd j (L.set 0 ⟨true, false, false, 0, j, bs⟩) = 0 := fnd_is (by rw [List.length_set]; exact hn) (by rw [h0]; show (true && (j == j)) = true; simp) (fun i hi => absurd hi (Nat.not_lt_zero _))
  unfold onP
  rw [hf, if_pos (by rw [List.length_set]; exact hn), h0]
  rfl
theorem fr15_ok {j : Int} {bs : List Int} (h1 : bs.length = 32) (h2 : Oct bs) : (fr15 j bs).Ok := ⟨h1, h2, by show (0 : Int) ≤ 1; omega, by show (1 : Int) ≤ 100; omega⟩

/-- an arena, and bytes that lie behind it -/
def ApSt (w wr : World) (N B A : Nat) (q : List Int) (M : List PS) (v : Value) (bs : List Int) : Prop :=
  ArAt B wr A M ∧ M.map PS.len = q ∧ M.length = q.length ∧ RdV (Value.int .u8) 0 (fun i => N ≤ i) wr v bs ∧ (∀ i, i < M.length → ∀ x, (M.getD i PS.zero).has x → x < N) ∧ Grow w wr
theorem ApSt.grow {w wr w' : World} {N B A : Nat} {q : List Int} {M : List PS} {v : Value} {bs : List Int} (h : ApSt w wr N B A q M v bs) (g : Grow wr w') : ApSt w w' N B A q M v bs :=
  ⟨h.1.grow g, h.2.1, h.2.2.1, h.2.2.2.1.grow g, h.2.2.2.2.1, h.2.2.2.2.2.trans g⟩
theorem ApSt.turn {w wr w' : World} {N B A : Nat} {q : List Int} {M : List PS} {v : Value} {bs : List Int} (h : ApSt w wr N B A q M v bs) (hB : w.heap.size ≤ B) {t : Nat} (ht : t < M.length) {L' : List FS} {h' : Nat}
    (hp : PtO w' (M.getD t PS.zero).P (M.getD t PS.zero).b 0 L' h') (hk : PtOk L' h') (hl : L'.length = (M.getD t PS.zero).L.length) (hu : UpdS (fun i => i = (M.getD t PS.zero).P ∨ i = (M.getD t PS.zero).b) wr w') :
    ApSt w w' N B A q (M.set t ⟨(M.getD t PS.zero).P, (M.getD t PS.zero).b, L', h'⟩) v bs := by
  have hlow := h.1.row.2.1 t ht
  refine ⟨h.1.turn ht ⟨hp, hk⟩ ⟨rfl, rfl⟩ hu, by rw [map_len_set ht hl]; exact h.2.1, by rw [List.length_set]; exact h.2.2.1, h.2.2.2.1.upd hu (fun i _ hi hs => ?_), fun i hi x hx => ?_, UpdS.new h.2.2.2.2.2 hu (fun i hi => by have := hlow i hi; omega)⟩
  · have := h.2.2.2.2.1 t ht i hs
    omega
  · rw [List.length_set] at hi
    rw [getD_set hi] at hx
    by_cases e : t = i
    · rw [if_pos e] at hx; exact h.2.2.2.2.1 t ht x hx
    · rw [if_neg e] at hx; exact h.2.2.2.2.1 i hi x hx
end Go.Proofs.Ytgpigllimoafaaa
