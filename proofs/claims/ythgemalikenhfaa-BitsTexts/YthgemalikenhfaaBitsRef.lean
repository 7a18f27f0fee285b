/-
  The walks of the document's streams (Next, Add, Same), of few. Conditions: each theorem's own.
-/
import Derived.Test.YthgemalikenhfaaBits
namespace Go.Proofs.Ythgemalikenhfaa
open Go.RowKit
set_option linter.unusedVariables false
set_option linter.unusedSimpArgs false

theorem results_cell_tmp {P : Program} {fn : Func} {p t : Tmp} {ty : TypeId} (h : fn.results = #[.cell p ty, .tmp t]) (tmps : Array Value) (w : World) (x : Addr) (v : Value) (hp : tmps.getD p undef = .pointer (some x))
    (hl : (loadVar ty x).run P w = .ok v w) : (results fn tmps).run P w = .ok (.tuple #[v, tmps.getD t undef]) w := by
  have hp' : tmps[p]?.getD undef = .pointer (some x) := by simpa using hp
  simp only [results, h]
  simp [hp', asAddr, hl]

theorem exec_app {P : Program} {w w' : World} {o : Oper} {a : Act} {s x : Operand} {t tx : TypeId} {v xv v' : Value} (ho : o.op = .call { callee := .builtin .append, args := #[s, x], argTypes := #[t, tx] }) (hv : a.eval s = v) (hx : a.eval x = xv)
    (hrun : (Builtin.append_ #[t, tx] o.type #[v, xv]).run P w = .ok v' w') : (execOp a.eval o).run P w = .ok (.value v') w' := by
  simp [execOp, ho, resolve, invoke, builtin, hv, hx, hrun, Result.andThen]

theorem load_S (b : Nat) (u v : Value) (w : World) (h0 : w.cell? ⟨b, 0, none⟩ = some u) (h1 : w.cell? ⟨b, 1, none⟩ = some v) : (loadVar 28 ⟨b, 0, none⟩).run Try.prog w = .ok (.agg #[u, v]) w := by
  go_simp

set_option maxHeartbeats 1000000 in
theorem bfew_any (sv : Value) (ss : List Bool) (mi : Int) (m : Nat) (p : Nat → Prop) (w : World) (hmi : mi = m) (hs : RdV Value.bool false p w sv ss) (hm : m ≤ 1000000) :
    Calls Try.prog 9 #[sv, .int .i64 mi] w fun e w' => ∃ v', e = .returned v' ∧ RdV Value.bool false p w v' (ss.take m) ∧ w = w' := by
  subst hmi
  have hs' := hs
  obtain ⟨a, c, rfl, h1, h2, -⟩ := hs
  unfold maxLen at h2
  by_cases hle : ss.length ≤ m
  · have hle' : (ss.length : Int) ≤ (m : Int) := by omega
    have hr : Hid (RdV Value.bool false p w (.slice a ss.length c) (ss.take m)) := by
      show RdV _ _ _ _ _ _
      rw [List.take_of_length_le hle]; exact hs'
    clear hs'
    have hmin : min (ss.length : Int) (m : Int) = (ss.length : Int) := by omega
    go_enter Try.func9, Try.ntmps9
    go_wp2
    go_ret
    exact ⟨_, rfl, hr.out, rfl⟩
  · have hle' : ¬ (ss.length : Int) ≤ (m : Int) := by omega
    have hle'' : (m : Int) < (ss.length : Int) := by omega
    have hr : Hid (RdV Value.bool false p w (.slice a m c) (ss.take m)) := hs'.take m (by omega)
    clear hs'
    have hmin : min (ss.length : Int) (m : Int) = (m : Int) := by omega
    go_enter Try.func9, Try.ntmps9
    go_wp2
    go_ret
    exact ⟨_, rfl, hr.out, rfl⟩

theorem cells_new (w : World) (u v : Value) (t : TypeId) : (w.alloc (.cells #[u, v] t)).cell? ⟨w.heap.size, 0, none⟩ = some u ∧ (w.alloc (.cells #[u, v] t)).cell? ⟨w.heap.size, 1, none⟩ = some v :=
  ⟨(World.cell?_alloc_new w _ _ 0).trans (by simp), (World.cell?_alloc_new w _ _ 1).trans (by simp)⟩

set_option maxHeartbeats 1000000 in
theorem rnext_any (lv : Value) (ls : List Bool) (n : Int) (p : Nat → Prop) (w : World) (h : RdV Value.bool false p w lv ls) (hn0 : 0 ≤ n) (hn1 : n ≤ 100000000) :
    Calls Try.prog 11 #[.agg #[lv, .int .i64 n]] w fun e w' => ∃ lv', e = .returned (.tuple #[.agg #[lv', .int .i64 (n + (min 1 ls.length : Nat))], .bool (ls.getD 0 false)]) ∧ RdV Value.bool false p w' lv' (ls.drop 1) ∧ Grow w w' := by
  have h' := h
  obtain ⟨a, c, rfl, h1, h2, -⟩ := h
  unfold maxLen at h2
  cases ls with
  | nil =>
    have hr : Hid (RdV Value.bool false p w (.slice a 0 c) []) := h'
    clear h'
    simp only [List.length_nil] at h1
    go_enter Try.func11, Try.ntmps11
    go_wp2
    have hg : Grow w ((w.alloc (.cells #[.slice a 0 c, .int .i64 n] 28)).alloc (.cells #[.slice a 0 c, .int .i64 n] 28)) := ((Grow.refl w).alloc _).alloc _
    refine bodyPost_ret_by (results_cell_tmp rfl _ _ _ (.agg #[.slice a 0 c, .int .i64 n]) rfl (load_S _ _ _ _ (by simp) (by simp))) rfl ⟨.slice a 0 c, ?_, hr.out.grow hg, hg⟩
    simp
  | cons x ls =>
    obtain ⟨bb, oo, rfl, hbb, hcell⟩ := h'.addr (by simp)
    have hx := hcell 0 (by simp)
    rw [Nat.add_zero] at hx
    have hx' : ∀ o1 o2, ((w.alloc o1).alloc o2).cell? ⟨bb, oo, none⟩ = some (.bool x) := fun o1 o2 => by
      have hg : Grow w ((w.alloc o1).alloc o2) := ((Grow.refl w).alloc _).alloc _
      rw [Below.cell (p := ⟨bb, oo, none⟩) hg (World.block_lt_of_cell? _ _ hx)]
      exact hx
    have hd := h'.drop 1 (by simp)
    simp only [List.length_cons] at h1
    have hw : IntKind.i64.wrap (n + 1) = n + 1 := by rw [IntKind.wrap_i64]; omega
    clear h' hcell hx
    by_cases hc1 : c = 1
    · subst hc1
      have hl0 : ls.length = 0 := by omega
      simp only [if_true, List.length_cons, Nat.add_sub_cancel, Nat.sub_self, hl0] at hd
      have HD : Hid (RdV Value.bool false p w (.slice (some ⟨bb, oo, none⟩) 0 0) (List.drop 1 (x :: ls))) := hd
      clear hd
      go_enter Try.func11, Try.ntmps11
      go_wp2
      go_region
      all_goals
        go_wp2
        have hg : Grow w (((w.alloc (.cells #[.slice (some ⟨bb, oo, none⟩) 1 1, .int .i64 n] 28)).alloc (.cells #[.slice (some ⟨bb, oo, none⟩) 0 0, .int .i64 (n + 1)] 28)).drew) := (((Grow.refl w).alloc _).alloc _).drew
        exact bodyPost_ret_by (results_cell_tmp rfl _ _ _ (.agg #[.slice (some ⟨bb, oo, none⟩) 0 0, .int .i64 (n + 1)]) rfl (load_S _ _ _ _ (by simp) (by simp))) rfl ⟨_, by simp, HD.out.grow hg, hg⟩
    · simp only [if_neg hc1, List.length_cons, Nat.add_sub_cancel] at hd
      have HD : Hid (RdV Value.bool false p w (.slice (some ⟨bb, oo + 1, none⟩) ls.length (c - 1)) (List.drop 1 (x :: ls))) := by show RdV _ _ _ _ _ _; simpa [Addr.add_lit] using hd
      clear hd
      go_enter Try.func11, Try.ntmps11
      go_wp2
      go_region
      all_goals
        go_wp2
        have hg : Grow w (((w.alloc (.cells #[.slice (some ⟨bb, oo, none⟩) (ls.length + 1) c, .int .i64 n] 28)).alloc (.cells #[.slice (some ⟨bb, oo + 1, none⟩) ls.length (c - 1), .int .i64 (n + 1)] 28)).drew) := (((Grow.refl w).alloc _).alloc _).drew
        exact bodyPost_ret_by (results_cell_tmp rfl _ _ _ (.agg #[.slice (some ⟨bb, oo + 1, none⟩) ls.length (c - 1), .int .i64 (n + 1)]) rfl (load_S _ _ _ _ (by simp) (by simp))) rfl ⟨_, by simp, HD.out.grow hg, hg⟩

set_option maxHeartbeats 1000000 in
theorem radd_any (lv : Value) (ls : List Bool) (n : Int) (p : Nat → Prop) (sv : Value) (ss : List Bool) (q : Nat → Prop) (w : World) (h : RdV Value.bool false p w lv ls) (hs : RdV Value.bool false q w sv ss) (hm : ls.length + ss.length ≤ 100000000) :
    Calls Try.prog 14 #[.agg #[lv, .int .i64 n], sv] w fun e w' => ∃ lv', e = .returned (.agg #[lv', .int .i64 n]) ∧ OwnV Value.bool false (fun i => w.heap.size ≤ i) w' lv' (ls ++ ss) ∧ Grow w w' := by
  obtain ⟨i0, hi, hz0, hz1, hz2⟩ := info_parts Try.info4
  have hg2 : ∀ o1 o2, Grow w ((w.alloc o1).alloc o2) := fun o1 o2 => ((Grow.refl w).alloc _).alloc _
  have hsrc : ∀ o1 o2, Src Try.prog 1 22 lv ls.length (ls.map Value.bool) ((w.alloc o1).alloc o2) := fun o1 o2 => (h.grow (hg2 o1 o2)).src oneB Try.underlying22
  have HS : Hid (RdV Value.bool false q w sv ss) := hs
  obtain ⟨a, c, rfl, h1, h2, -⟩ := h
  obtain ⟨a', c', rfl, h1', h2', -⟩ := hs
  go_enter Try.func14, Try.ntmps14
  go_wp2_with (at_builtin; refine wpList_appV (f := Value.bool) (d := false) (p := fun _ => False) rfl (.tmp 6) (.tmp 8) 22 22 rfl i0 (.bool false) 1 Try.underlying22 hi hz0 hz1 hz2 rfl rfl rfl (OwnV.nil _ _ _ _ _) (hsrc _ _) (by simp only [maxLen, List.length_nil]; omega) (by simp only [List.length_nil]; omega) ?_)
  intro v3 w3 ho3 hu3
  have hu0 : UpdS (fun _ => False) w w3 := ((hg2 _ _).s).trans hu3
  have hN : w3.cell? ⟨w.heap.size, 1, none⟩ = some (.int .i64 n) := by
    rw [hu3.cell (p := ⟨w.heap.size, 1, none⟩) (by simp; omega) (fun h => h)]; simp
  have hM0 : w3.cell? ⟨w.heap.size + 1, 0, none⟩ = some (.slice none 0 0) := by
    rw [hu3.cell (p := ⟨w.heap.size + 1, 0, none⟩) (by simp) (fun h => h)]; simp
  have hM1 : w3.cell? ⟨w.heap.size + 1, 1, none⟩ = some (.int .i64 0) := by
    rw [hu3.cell (p := ⟨w.heap.size + 1, 1, none⟩) (by simp) (fun h => h)]; simp
  have hF0 : w3.frozen? ⟨w.heap.size + 1, 0, none⟩ = false := by
    rw [hu3.frozen (p := ⟨w.heap.size + 1, 0, none⟩) (by simp) (fun h => h)]; simp
  have hF1 : w3.frozen? ⟨w.heap.size + 1, 1, none⟩ = false := by
    rw [hu3.frozen (p := ⟨w.heap.size + 1, 1, none⟩) (by simp) (fun h => h)]; simp
  have hsz3 : w.heap.size + 2 ≤ w3.heap.size := by have := hu3.size; simp at this; omega
  clear hu3 hsrc hg2
  have ho3' : OwnV Value.bool false (fun i => i = w.heap.size + 2) w3 v3 ls := ho3
  obtain ⟨a3, c3, hv3⟩ := ho3'.shape
  obtain ⟨v4, w4, hrun, ho4, hu4⟩ := run_appV (P := Try.prog) (w := w3.drew) 22 22 22 i0 (.bool false) 1 Try.underlying22 hi hz0 hz1 hz2 rfl (ho3'.grow (Grow.refl _).drew) ((HS.out.upd hu0.drew (fun _ _ _ h => h)).src oneB Try.underlying22) (by simp only [maxLen]; omega) (by omega)
  have hN' : ∀ w', UpdS (fun i => w.heap.size < i) w3.drew w' → w'.cell? ⟨w.heap.size, 1, none⟩ = some (.int .i64 n) := fun w' hG => by
    rw [hG.cell (p := ⟨w.heap.size, 1, none⟩) (by simp; omega) (by simp)]; simpa using hN
  obtain ⟨a4, c4, hv4⟩ := ho4.shape
  have hM0' : w4.cell? ⟨w.heap.size + 1, 0, none⟩ = some (.slice none 0 0) := by rw [hu4.cell (p := ⟨w.heap.size + 1, 0, none⟩) (by simp; omega) (by simp)]; simpa using hM0
  have hM1' : w4.cell? ⟨w.heap.size + 1, 1, none⟩ = some (.int .i64 0) := by rw [hu4.cell (p := ⟨w.heap.size + 1, 1, none⟩) (by simp; omega) (by simp)]; simpa using hM1
  have hF0' : w4.frozen? ⟨w.heap.size + 1, 0, none⟩ = false := by rw [hu4.frozen (p := ⟨w.heap.size + 1, 0, none⟩) (by simp; omega) (by simp)]; simpa using hF0
  have hF1' : w4.frozen? ⟨w.heap.size + 1, 1, none⟩ = false := by rw [hu4.frozen (p := ⟨w.heap.size + 1, 1, none⟩) (by simp; omega) (by simp)]; simpa using hF1
  have Ho4 : Hid (OwnV Value.bool false (fun i => i = w.heap.size + 2 ∨ i = w3.drew.heap.size) w4 v4 (ls ++ ss) ∧ UpdS (fun i => i = w.heap.size + 2) w3.drew w4 ∧ UpdS (fun _ => False) w w3) := ⟨ho4, hu4, hu0⟩
  clear ho3 ho3' ho4 hu4 hu0 HS hM0 hM1 hF0 hF1 hN
  rw [List.length_append] at hv4
  subst hv3
  go_wp2
  refine wp_region_schedG (UpdS (fun i => w.heap.size < i)) (UpdS.refl _) (fun _ _ _ => UpdS.trans) (by kernel_rfl) [(0, false), (1, false), (3, false), (4, false), (2, true), (5, false), (6, true)] (by kernel_rfl) (by kernel_rfl) rfl (fun _ _ d _ _ h => by cases d <;> exact h) ?_
  simp only [inOrder, List.filterMap_cons, List.filterMap_nil, List.getElem?_toArray, List.getElem?_cons_zero, List.getElem?_cons_succ, Option.map_some]
  repeat (first
    | (refine wpS_move rfl ?_; simp only [Act.eval, Act.put, Array.getD_eq_getD_getElem?, List.getElem?_toArray, List.getElem?_cons_zero, List.getElem?_cons_succ, Option.getD_some, List.setIfInBounds_toArray, List.set_cons_zero, List.set_cons_succ])
    | (refine wpS_assign rfl ?_; simp only [Act.eval, Act.put, Array.getD_eq_getD_getElem?, List.getElem?_toArray, List.getElem?_cons_zero, List.getElem?_cons_succ, Option.getD_some, List.setIfInBounds_toArray, List.set_cons_zero, List.set_cons_succ])
    | (refine wpS_read (v := ?_) rfl ?_ ?_; rotate_left; (focus (intro w' hG; go_simp; try (with_reducible rfl))); simp only [Act.put, List.setIfInBounds_toArray, List.set_cons_zero, List.set_cons_succ]))
  refine wpS_act (v := v4) (w' := w4) rfl (exec_app rfl rfl rfl hrun) (Ho4.out.2.1.mono (fun i hi => by omega)) ?_
  subst hv4
  simp only [Act.put, List.setIfInBounds_toArray, List.set_cons_zero, List.set_cons_succ]
  repeat (first
    | (refine wpS_move rfl ?_; simp only [Act.eval, Act.put, Array.getD_eq_getD_getElem?, List.getElem?_toArray, List.getElem?_cons_zero, List.getElem?_cons_succ, Option.getD_some, List.setIfInBounds_toArray, List.set_cons_zero, List.set_cons_succ])
    | (refine wpS_assign rfl ?_; simp only [Act.eval, Act.put, Array.getD_eq_getD_getElem?, List.getElem?_toArray, List.getElem?_cons_zero, List.getElem?_cons_succ, Option.getD_some, List.setIfInBounds_toArray, List.set_cons_zero, List.set_cons_succ])
    | (refine wpS_read (v := ?_) rfl ?_ ?_; rotate_left; (focus (intro w' hG; go_simp; try (with_reducible rfl))); simp only [Act.put, List.setIfInBounds_toArray, List.set_cons_zero, List.set_cons_succ]))
  refine wpS_store (w' := (w4.setCell ⟨w.heap.size + 1, 0, none⟩ (.slice a4 (ls.length + ss.length) c4)).setCell ⟨w.heap.size + 1, 1, none⟩ (.int .i64 n)) rfl (by go_simp) ((UpdS.setCell (fun i => w.heap.size < i) ⟨w.heap.size + 1, 0, none⟩ _ _ (by simp)).trans (UpdS.setCell (fun i => w.heap.size < i) ⟨w.heap.size + 1, 1, none⟩ _ _ (by simp))) ?_
  simp only [Act.put, List.setIfInBounds_toArray, List.set_cons_zero, List.set_cons_succ]
  refine wpS_nil ?_
  go_wp2
  obtain ⟨ho4, hu4, hu0⟩ := Ho4.out
  have hu5 : UpdS (fun i => i = w.heap.size + 1) w4 ((w4.setCell ⟨w.heap.size + 1, 0, none⟩ (.slice a4 (ls.length + ss.length) c4)).setCell ⟨w.heap.size + 1, 1, none⟩ (.int .i64 n)) :=
    (UpdS.setCell (fun i => i = w.heap.size + 1) ⟨w.heap.size + 1, 0, none⟩ _ _ rfl).trans (UpdS.setCell (fun i => i = w.heap.size + 1) ⟨w.heap.size + 1, 1, none⟩ _ _ rfl)
  have hg : Grow w ((w4.setCell ⟨w.heap.size + 1, 0, none⟩ (.slice a4 (ls.length + ss.length) c4)).setCell ⟨w.heap.size + 1, 1, none⟩ (.int .i64 n)) := by
    have h5 : UpdS (fun i => w.heap.size ≤ i) w ((w4.setCell ⟨w.heap.size + 1, 0, none⟩ (.slice a4 (ls.length + ss.length) c4)).setCell ⟨w.heap.size + 1, 1, none⟩ (.int .i64 n)) :=
      ((hu0.drew.mono (fun _ h => h.elim)).trans (hu4.mono (fun i hi => by omega))).trans (hu5.mono (fun i hi => by omega))
    exact UpdS.new (Grow.refl w) h5 (fun i hi => hi)
  refine bodyPost_ret_by (results_cell rfl _ _ _ (.agg #[.slice a4 (ls.length + ss.length) c4, .int .i64 n]) rfl (load_S _ _ _ _ ?_ ?_)) rfl ⟨_, rfl, ?_, hg⟩
  · rw [World.cell?_setCell_other _ _ _ _ (by simp), World.cell?_setCell_same _ _ _ hM0']
  · exact World.cell?_setCell_same' _ _ _ (by rw [World.cell?_setCell_other _ _ _ _ (by simp), hM1']; rfl)
  · refine (ho4.upd hu5 (fun i hi hp => ?_)).mono (fun i hi hp => ?_)
    · have : w3.drew.heap.size = w3.heap.size := rfl
      omega
    · have : w3.drew.heap.size = w3.heap.size := rfl
      omega
end Go.Proofs.Ythgemalikenhfaa
