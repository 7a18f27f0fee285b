/-
  The walks of the counters' Add and Get, and of the document's. Conditions: each theorem's own.
-/
import Derived.Test.YtnjifmnhcgcpiaaCnt
namespace Go.Proofs.Ytnjifmnhcgcpiaa
open Go.RowKit
set_option linter.unusedVariables false
set_option linter.unusedSimpArgs false

/-- what lies in the second new variable -/
theorem load_new2 (w : World) (o : Obj) (d : C6) : (loadVar 24 ⟨w.heap.size + 1, 0, none⟩).run Try.prog ((w.alloc o).alloc (.cells #[.int .u64 d.c0, .int .u64 d.c1, .int .u64 d.c2, .int .u64 d.c3, .int .u64 d.c4, .int .u64 d.c5] 24)) = .ok (.agg #[.int .u64 d.c0, .int .u64 d.c1, .int .u64 d.c2, .int .u64 d.c3, .int .u64 d.c4, .int .u64 d.c5]) ((w.alloc o).alloc (.cells #[.int .u64 d.c0, .int .u64 d.c1, .int .u64 d.c2, .int .u64 d.c3, .int .u64 d.c4, .int .u64 d.c5] 24)) := by
  have h := load_C _ d _ (CAt.new (w.alloc o) d 24)
  rw [World.size_alloc] at h
  exact h
theorem grow_set (w : World) (o : Obj) (k : Nat) (v : Value) : Grow w ((w.alloc o).setCell ⟨w.heap.size, k, none⟩ v) :=
  UpdS.new ((Grow.refl w).alloc o) (UpdS.setCell (fun i => i = w.heap.size) ⟨w.heap.size, k, none⟩ v _ rfl) (fun i hi => by omega)

set_option maxHeartbeats 4000000 in
theorem cget_any (c : C6) (k : Int) (w : World) :
    Calls Try.prog 10 #[.agg #[.int .u64 c.c0, .int .u64 c.c1, .int .u64 c.c2, .int .u64 c.c3, .int .u64 c.c4, .int .u64 c.c5], .int .i64 k] w fun e w' => e = .returned (.tuple #[.int .u64 (getC c k), .bool (isK k)]) ∧ Grow w w' := by
  by_cases h : 0 ≤ k ∧ k < 6
  · have hi : isK k = true := decide_eq_true h
    rw [hi]
    have hg : Grow w (w.alloc (.cells #[.int .u64 c.c0, .int .u64 c.c1, .int .u64 c.c2, .int .u64 c.c3, .int .u64 c.c4, .int .u64 c.c5] 24)) := (Grow.refl w).alloc _
    clear hi
    rcases kinds h with rfl | rfl | rfl | rfl | rfl | rfl
    · clear h
      go_enter Try.func10, Try.ntmps10
      go_wp2_with fail
      refine (num_in _ 0 0 _ rfl (by omega)).mono ?_
      rintro e w0 ⟨rfl, rfl⟩
      go_wp2
      go_ret2
      exact ⟨rfl, hg⟩
    · clear h
      go_enter Try.func10, Try.ntmps10
      go_wp2_with fail
      refine (num_in _ 1 1 _ rfl (by omega)).mono ?_
      rintro e w0 ⟨rfl, rfl⟩
      go_wp2
      go_ret2
      exact ⟨rfl, hg⟩
    · clear h
      go_enter Try.func10, Try.ntmps10
      go_wp2_with fail
      refine (num_in _ 2 2 _ rfl (by omega)).mono ?_
      rintro e w0 ⟨rfl, rfl⟩
      go_wp2
      go_ret2
      exact ⟨rfl, hg⟩
    · clear h
      go_enter Try.func10, Try.ntmps10
      go_wp2_with fail
      refine (num_in _ 3 3 _ rfl (by omega)).mono ?_
      rintro e w0 ⟨rfl, rfl⟩
      go_wp2
      go_ret2
      exact ⟨rfl, hg⟩
    · clear h
      go_enter Try.func10, Try.ntmps10
      go_wp2_with fail
      refine (num_in _ 4 4 _ rfl (by omega)).mono ?_
      rintro e w0 ⟨rfl, rfl⟩
      go_wp2
      go_ret2
      exact ⟨rfl, hg⟩
    · clear h
      go_enter Try.func10, Try.ntmps10
      go_wp2_with fail
      refine (num_in _ 5 5 _ rfl (by omega)).mono ?_
      rintro e w0 ⟨rfl, rfl⟩
      go_wp2
      go_ret2
      exact ⟨rfl, hg⟩
  · have hi : isK k = false := decide_eq_false h
    rw [hi, getC_none h]
    have hg : Grow w (w.alloc (.cells #[.int .u64 c.c0, .int .u64 c.c1, .int .u64 c.c2, .int .u64 c.c3, .int .u64 c.c4, .int .u64 c.c5] 24)) := (Grow.refl w).alloc _
    clear hi
    go_enter Try.func10, Try.ntmps10
    go_wp2_with fail
    refine (num_out _ _ _ h).mono ?_
    rintro e w0 ⟨rfl, rfl⟩
    go_wp2
    go_ret2
    exact ⟨rfl, hg⟩

set_option maxHeartbeats 4000000 in
theorem rget_any (c : C6) (k : Int) (w : World) :
    Calls Try.prog 11 #[.agg #[.int .u64 c.c0, .int .u64 c.c1, .int .u64 c.c2, .int .u64 c.c3, .int .u64 c.c4, .int .u64 c.c5], .int .i64 k] w fun e w' => e = .returned (.tuple #[.int .u64 (getC c k), .bool (isK k)]) ∧ Grow w w' := by
  by_cases h : 0 ≤ k ∧ k < 6
  · have hi : isK k = true := decide_eq_true h
    rw [hi]
    have hg : Grow w (w.alloc (.cells #[.int .u64 c.c0, .int .u64 c.c1, .int .u64 c.c2, .int .u64 c.c3, .int .u64 c.c4, .int .u64 c.c5] 24)) := (Grow.refl w).alloc _
    clear hi
    rcases kinds h with rfl | rfl | rfl | rfl | rfl | rfl
    all_goals
      clear h
      go_enter Try.func11, Try.ntmps11
      go_wp2
      go_ret2
      exact ⟨rfl, hg⟩
  · have hi : isK k = false := decide_eq_false h
    rw [hi, getC_none h]
    have hg : Grow w (w.alloc (.cells #[.int .u64 c.c0, .int .u64 c.c1, .int .u64 c.c2, .int .u64 c.c3, .int .u64 c.c4, .int .u64 c.c5] 24)) := (Grow.refl w).alloc _
    have h0 : (k == 0) = false := by simp; omega
    have h1 : (k == 1) = false := by simp; omega
    have h2 : (k == 2) = false := by simp; omega
    have h3 : (k == 3) = false := by simp; omega
    have h4 : (k == 4) = false := by simp; omega
    have h5 : (k == 5) = false := by simp; omega
    clear hi h
    go_enter Try.func11, Try.ntmps11
    go_wp2
    go_ret2
    exact ⟨rfl, hg⟩

set_option maxHeartbeats 4000000 in
theorem cadd_any (c : C6) (k n : Int) (w : World) (hc : c.Ok) (hn : U n) :
    Calls Try.prog 9 #[.agg #[.int .u64 c.c0, .int .u64 c.c1, .int .u64 c.c2, .int .u64 c.c3, .int .u64 c.c4, .int .u64 c.c5], .int .i64 k, .int .u64 n] w fun e w' => e = .returned (.agg #[.int .u64 (addC c k n).c0, .int .u64 (addC c k n).c1, .int .u64 (addC c k n).c2, .int .u64 (addC c k n).c3, .int .u64 (addC c k n).c4, .int .u64 (addC c k n).c5]) ∧ Grow w w' := by
  by_cases h : 0 ≤ k ∧ k < 6
  · have HC : Hid (c.Ok ∧ U n) := ⟨hc, hn⟩
    clear hc hn
    rcases kinds h with rfl | rfl | rfl | rfl | rfl | rfl
    · clear h
      go_enter Try.func9, Try.ntmps9
      go_wp2_with fail
      refine (num_in _ 0 0 _ rfl (by omega)).mono ?_
      rintro e w0 ⟨rfl, rfl⟩
      go_wp2_with fail
      refine (ctog_any c.c0 n _ HC.out.1.1 HC.out.2).mono ?_
      rintro e w0 ⟨rfl, rfl⟩
      go_wp2
      exact bodyPost_ret_by (results_cell rfl _ _ _ (.agg #[.int .u64 (addC c 0 n).c0, .int .u64 (addC c 0 n).c1, .int .u64 (addC c 0 n).c2, .int .u64 (addC c 0 n).c3, .int .u64 (addC c 0 n).c4, .int .u64 (addC c 0 n).c5]) rfl (load_new2 w _ (addC c 0 n))) rfl ⟨rfl, ((Grow.refl w).alloc _).alloc _⟩
    · clear h
      go_enter Try.func9, Try.ntmps9
      go_wp2_with fail
      refine (num_in _ 1 1 _ rfl (by omega)).mono ?_
      rintro e w0 ⟨rfl, rfl⟩
      go_wp2_with fail
      refine (ctog_any c.c1 n _ HC.out.1.2.1 HC.out.2).mono ?_
      rintro e w0 ⟨rfl, rfl⟩
      go_wp2
      exact bodyPost_ret_by (results_cell rfl _ _ _ (.agg #[.int .u64 (addC c 1 n).c0, .int .u64 (addC c 1 n).c1, .int .u64 (addC c 1 n).c2, .int .u64 (addC c 1 n).c3, .int .u64 (addC c 1 n).c4, .int .u64 (addC c 1 n).c5]) rfl (load_new2 w _ (addC c 1 n))) rfl ⟨rfl, ((Grow.refl w).alloc _).alloc _⟩
    · clear h
      go_enter Try.func9, Try.ntmps9
      go_wp2_with fail
      refine (num_in _ 2 2 _ rfl (by omega)).mono ?_
      rintro e w0 ⟨rfl, rfl⟩
      go_wp2_with fail
      refine (ctog_any c.c2 n _ HC.out.1.2.2.1 HC.out.2).mono ?_
      rintro e w0 ⟨rfl, rfl⟩
      go_wp2
      exact bodyPost_ret_by (results_cell rfl _ _ _ (.agg #[.int .u64 (addC c 2 n).c0, .int .u64 (addC c 2 n).c1, .int .u64 (addC c 2 n).c2, .int .u64 (addC c 2 n).c3, .int .u64 (addC c 2 n).c4, .int .u64 (addC c 2 n).c5]) rfl (load_new2 w _ (addC c 2 n))) rfl ⟨rfl, ((Grow.refl w).alloc _).alloc _⟩
    · clear h
      go_enter Try.func9, Try.ntmps9
      go_wp2_with fail
      refine (num_in _ 3 3 _ rfl (by omega)).mono ?_
      rintro e w0 ⟨rfl, rfl⟩
      go_wp2_with fail
      refine (ctog_any c.c3 n _ HC.out.1.2.2.2.1 HC.out.2).mono ?_
      rintro e w0 ⟨rfl, rfl⟩
      go_wp2
      exact bodyPost_ret_by (results_cell rfl _ _ _ (.agg #[.int .u64 (addC c 3 n).c0, .int .u64 (addC c 3 n).c1, .int .u64 (addC c 3 n).c2, .int .u64 (addC c 3 n).c3, .int .u64 (addC c 3 n).c4, .int .u64 (addC c 3 n).c5]) rfl (load_new2 w _ (addC c 3 n))) rfl ⟨rfl, ((Grow.refl w).alloc _).alloc _⟩
    · clear h
      go_enter Try.func9, Try.ntmps9
      go_wp2_with fail
      refine (num_in _ 4 4 _ rfl (by omega)).mono ?_
      rintro e w0 ⟨rfl, rfl⟩
      go_wp2_with fail
      refine (ctog_any c.c4 n _ HC.out.1.2.2.2.2.1 HC.out.2).mono ?_
      rintro e w0 ⟨rfl, rfl⟩
      go_wp2
      exact bodyPost_ret_by (results_cell rfl _ _ _ (.agg #[.int .u64 (addC c 4 n).c0, .int .u64 (addC c 4 n).c1, .int .u64 (addC c 4 n).c2, .int .u64 (addC c 4 n).c3, .int .u64 (addC c 4 n).c4, .int .u64 (addC c 4 n).c5]) rfl (load_new2 w _ (addC c 4 n))) rfl ⟨rfl, ((Grow.refl w).alloc _).alloc _⟩
    · clear h
      go_enter Try.func9, Try.ntmps9
      go_wp2_with fail
      refine (num_in _ 5 5 _ rfl (by omega)).mono ?_
      rintro e w0 ⟨rfl, rfl⟩
      go_wp2_with fail
      refine (ctog_any c.c5 n _ HC.out.1.2.2.2.2.2 HC.out.2).mono ?_
      rintro e w0 ⟨rfl, rfl⟩
      go_wp2
      exact bodyPost_ret_by (results_cell rfl _ _ _ (.agg #[.int .u64 (addC c 5 n).c0, .int .u64 (addC c 5 n).c1, .int .u64 (addC c 5 n).c2, .int .u64 (addC c 5 n).c3, .int .u64 (addC c 5 n).c4, .int .u64 (addC c 5 n).c5]) rfl (load_new2 w _ (addC c 5 n))) rfl ⟨rfl, ((Grow.refl w).alloc _).alloc _⟩
  · rw [addC_none h]
    go_enter Try.func9, Try.ntmps9
    go_wp2_with fail
    refine (num_out _ _ _ h).mono ?_
    rintro e w0 ⟨rfl, rfl⟩
    go_wp2
    exact bodyPost_ret_by (results_cell rfl _ _ _ (.agg #[.int .u64 c.c0, .int .u64 c.c1, .int .u64 c.c2, .int .u64 c.c3, .int .u64 c.c4, .int .u64 c.c5]) rfl (load_new2 w _ c)) rfl ⟨rfl, ((Grow.refl w).alloc _).alloc _⟩

set_option maxHeartbeats 4000000 in
theorem radd_any (c : C6) (k n : Int) (w : World) (hc : c.Ok) (hn : U n) :
    Calls Try.prog 12 #[.agg #[.int .u64 c.c0, .int .u64 c.c1, .int .u64 c.c2, .int .u64 c.c3, .int .u64 c.c4, .int .u64 c.c5], .int .i64 k, .int .u64 n] w fun e w' => e = .returned (.agg #[.int .u64 (addC c k n).c0, .int .u64 (addC c k n).c1, .int .u64 (addC c k n).c2, .int .u64 (addC c k n).c3, .int .u64 (addC c k n).c4, .int .u64 (addC c k n).c5]) ∧ Grow w w' := by
  by_cases h : 0 ≤ k ∧ k < 6
  · have HC : Hid (c.Ok ∧ U n) := ⟨hc, hn⟩
    clear hc hn
    rcases kinds h with rfl | rfl | rfl | rfl | rfl | rfl
    · clear h
      go_enter Try.func12, Try.ntmps12
      go_wp2_with fail
      refine (rtog_any c.c0 n _ HC.out.1.1 HC.out.2).mono ?_
      rintro e w0 ⟨rfl, rfl⟩
      go_wp2
      exact bodyPost_ret_by (results_cell rfl _ _ _ (.agg #[.int .u64 (addC c 0 n).c0, .int .u64 (addC c 0 n).c1, .int .u64 (addC c 0 n).c2, .int .u64 (addC c 0 n).c3, .int .u64 (addC c 0 n).c4, .int .u64 (addC c 0 n).c5]) rfl (load_new2 w _ (addC c 0 n))) rfl ⟨rfl, ((Grow.refl w).alloc _).alloc _⟩
    · clear h
      go_enter Try.func12, Try.ntmps12
      go_wp2_with fail
      refine (rtog_any c.c1 n _ HC.out.1.2.1 HC.out.2).mono ?_
      rintro e w0 ⟨rfl, rfl⟩
      go_wp2
      exact bodyPost_ret_by (results_cell rfl _ _ _ (.agg #[.int .u64 (addC c 1 n).c0, .int .u64 (addC c 1 n).c1, .int .u64 (addC c 1 n).c2, .int .u64 (addC c 1 n).c3, .int .u64 (addC c 1 n).c4, .int .u64 (addC c 1 n).c5]) rfl (load_new2 w _ (addC c 1 n))) rfl ⟨rfl, ((Grow.refl w).alloc _).alloc _⟩
    · clear h
      go_enter Try.func12, Try.ntmps12
      go_wp2_with fail
      refine (rtog_any c.c2 n _ HC.out.1.2.2.1 HC.out.2).mono ?_
      rintro e w0 ⟨rfl, rfl⟩
      go_wp2
      exact bodyPost_ret_by (results_cell rfl _ _ _ (.agg #[.int .u64 (addC c 2 n).c0, .int .u64 (addC c 2 n).c1, .int .u64 (addC c 2 n).c2, .int .u64 (addC c 2 n).c3, .int .u64 (addC c 2 n).c4, .int .u64 (addC c 2 n).c5]) rfl (load_new2 w _ (addC c 2 n))) rfl ⟨rfl, ((Grow.refl w).alloc _).alloc _⟩
    · clear h
      go_enter Try.func12, Try.ntmps12
      go_wp2_with fail
      refine (rtog_any c.c3 n _ HC.out.1.2.2.2.1 HC.out.2).mono ?_
      rintro e w0 ⟨rfl, rfl⟩
      go_wp2
      exact bodyPost_ret_by (results_cell rfl _ _ _ (.agg #[.int .u64 (addC c 3 n).c0, .int .u64 (addC c 3 n).c1, .int .u64 (addC c 3 n).c2, .int .u64 (addC c 3 n).c3, .int .u64 (addC c 3 n).c4, .int .u64 (addC c 3 n).c5]) rfl (load_new2 w _ (addC c 3 n))) rfl ⟨rfl, ((Grow.refl w).alloc _).alloc _⟩
    · clear h
      go_enter Try.func12, Try.ntmps12
      go_wp2_with fail
      refine (rtog_any c.c4 n _ HC.out.1.2.2.2.2.1 HC.out.2).mono ?_
      rintro e w0 ⟨rfl, rfl⟩
      go_wp2
      exact bodyPost_ret_by (results_cell rfl _ _ _ (.agg #[.int .u64 (addC c 4 n).c0, .int .u64 (addC c 4 n).c1, .int .u64 (addC c 4 n).c2, .int .u64 (addC c 4 n).c3, .int .u64 (addC c 4 n).c4, .int .u64 (addC c 4 n).c5]) rfl (load_new2 w _ (addC c 4 n))) rfl ⟨rfl, ((Grow.refl w).alloc _).alloc _⟩
    · clear h
      go_enter Try.func12, Try.ntmps12
      go_wp2_with fail
      refine (rtog_any c.c5 n _ HC.out.1.2.2.2.2.2 HC.out.2).mono ?_
      rintro e w0 ⟨rfl, rfl⟩
      go_wp2
      exact bodyPost_ret_by (results_cell rfl _ _ _ (.agg #[.int .u64 (addC c 5 n).c0, .int .u64 (addC c 5 n).c1, .int .u64 (addC c 5 n).c2, .int .u64 (addC c 5 n).c3, .int .u64 (addC c 5 n).c4, .int .u64 (addC c 5 n).c5]) rfl (load_new2 w _ (addC c 5 n))) rfl ⟨rfl, ((Grow.refl w).alloc _).alloc _⟩
  · rw [addC_none h]
    have h0 : (k == 0) = false := by simp; omega
    have h1 : (k == 1) = false := by simp; omega
    have h2 : (k == 2) = false := by simp; omega
    have h3 : (k == 3) = false := by simp; omega
    have h4 : (k == 4) = false := by simp; omega
    have h5 : (k == 5) = false := by simp; omega
    clear h hc hn
    go_enter Try.func12, Try.ntmps12
    go_wp2
    exact bodyPost_ret_by (results_cell rfl _ _ _ (.agg #[.int .u64 c.c0, .int .u64 c.c1, .int .u64 c.c2, .int .u64 c.c3, .int .u64 c.c4, .int .u64 c.c5]) rfl (load_new2 w _ c)) rfl ⟨rfl, ((Grow.refl w).alloc _).alloc _⟩
end Go.Proofs.Ytnjifmnhcgcpiaa
