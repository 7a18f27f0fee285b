/-
  The walks of the document's streams (Next, Add, Same), of few. Conditions: each theorem's own.
-/
import Derived.Test.YtpkoiogdkaklfaaBits
import Derived.Test.YtpkoiogdkaklfaaEnds
namespace Go.Proofs.Ytpkoiogdkaklfaa
open Go.RowKit
set_option linter.unusedVariables false
set_option linter.unusedSimpArgs false

theorem load_S (b : Nat) (u v : Value) (w : World) (h0 : w.cell? ⟨b, 0, none⟩ = some u) (h1 : w.cell? ⟨b, 1, none⟩ = some v) : (loadVar 68 ⟨b, 0, none⟩).run Try.prog w = .ok (.agg #[u, v]) w := by
  go_simp

theorem cells_new (w : World) (u v : Value) (t : TypeId) : (w.alloc (.cells #[u, v] t)).cell? ⟨w.heap.size, 0, none⟩ = some u ∧ (w.alloc (.cells #[u, v] t)).cell? ⟨w.heap.size, 1, none⟩ = some v :=
  ⟨(World.cell?_alloc_new w _ _ 0).trans (by simp), (World.cell?_alloc_new w _ _ 1).trans (by simp)⟩

set_option maxHeartbeats 1000000 in
theorem rnext_any (lv : Value) (ls : List Bool) (n : Int) (p : Nat → Prop) (w : World) (h : RdV Value.bool false p w lv ls) (hn0 : 0 ≤ n) (hn1 : n ≤ 100000000) :
    Calls Try.prog 51 #[.agg #[lv, .int .i64 n]] w fun e w' => ∃ lv', e = .returned (.tuple #[.agg #[lv', .int .i64 (n + (min 1 ls.length : Nat))], .bool (ls.getD 0 false)]) ∧ RdV Value.bool false p w' lv' (ls.drop 1) ∧ Grow w w' := by
  have h' := h
  obtain ⟨a, c, rfl, h1, h2, -⟩ := h
  unfold maxLen at h2
  cases ls with
  | nil =>
    have hr : Hid (RdV Value.bool false p w (.slice a 0 c) []) := h'
    clear h'
    simp only [List.length_nil] at h1
    go_enter Try.func51, Try.ntmps51
    go_wp2
    have hg : Grow w ((w.alloc (.cells #[.slice a 0 c, .int .i64 n] 68)).alloc (.cells #[.slice a 0 c, .int .i64 n] 68)) := ((Grow.refl w).alloc _).alloc _
    refine bodyPost_ret_by (results_cell_tmp rfl _ _ _ (.agg #[.slice a 0 c, .int .i64 n]) rfl (load_S _ _ _ _ (by simp) (by simp))) rfl ⟨.slice a 0 c, ?_, hr.out.grow hg, hg⟩
    simp
  | cons x ls =>
    obtain ⟨bb, oo, rfl, hbb, hcell⟩ := h'.addr (by simp)
    have hx := hcell 0 (by simp)
    rw [Nat.add_zero] at hx
    have hx' : ∀ o1 o2, ((w.alloc o1).alloc o2).cell? ⟨bb, oo, none⟩ = some (.bool x) := fun o1 o2 => by
      have hg : Grow w ((w.alloc o1).alloc o2) := ((Grow.refl w).alloc _).alloc _
      rw [Below.cell (p := ⟨bb, oo, none⟩) hg (World.block_lt_of_cell? _ _ hx)]
      exact hx
    have hd := h'.drop 1 (by simp)
    simp only [List.length_cons] at h1
    have hw : IntKind.i64.wrap (n + 1) = n + 1 := by rw [IntKind.wrap_i64]; omega
    clear h' hcell hx
    by_cases hc1 : c = 1
    · subst hc1
      have hl0 : ls.length = 0 := by omega
      simp only [if_true, List.length_cons, Nat.add_sub_cancel, Nat.sub_self, hl0] at hd
      have HD : Hid (RdV Value.bool false p w (.slice (some ⟨bb, oo, none⟩) 0 0) (List.drop 1 (x :: ls))) := hd
      clear hd
      go_enter Try.func51, Try.ntmps51
      go_wp2
      go_region
      all_goals
        go_wp2
        have hg : Grow w (((w.alloc (.cells #[.slice (some ⟨bb, oo, none⟩) 1 1, .int .i64 n] 68)).alloc (.cells #[.slice (some ⟨bb, oo, none⟩) 0 0, .int .i64 (n + 1)] 68)).drew) := (((Grow.refl w).alloc _).alloc _).drew
        exact bodyPost_ret_by (results_cell_tmp rfl _ _ _ (.agg #[.slice (some ⟨bb, oo, none⟩) 0 0, .int .i64 (n + 1)]) rfl (load_S _ _ _ _ (by simp) (by simp))) rfl ⟨_, by simp, HD.out.grow hg, hg⟩
    · simp only [if_neg hc1, List.length_cons, Nat.add_sub_cancel] at hd
      have HD : Hid (RdV Value.bool false p w (.slice (some ⟨bb, oo + 1, none⟩) ls.length (c - 1)) (List.drop 1 (x :: ls))) := by show RdV _ _ _ _ _ _; simpa [Addr.add_lit] using hd
      clear hd
      go_enter Try.func51, Try.ntmps51
      go_wp2
      go_region
      all_goals
        go_wp2
        have hg : Grow w (((w.alloc (.cells #[.slice (some ⟨bb, oo, none⟩) (ls.length + 1) c, .int .i64 n] 68)).alloc (.cells #[.slice (some ⟨bb, oo + 1, none⟩) ls.length (c - 1), .int .i64 (n + 1)] 68)).drew) := (((Grow.refl w).alloc _).alloc _).drew
        exact bodyPost_ret_by (results_cell_tmp rfl _ _ _ (.agg #[.slice (some ⟨bb, oo + 1, none⟩) ls.length (c - 1), .int .i64 (n + 1)]) rfl (load_S _ _ _ _ (by simp) (by simp))) rfl ⟨_, by simp, HD.out.grow hg, hg⟩

end Go.Proofs.Ytpkoiogdkaklfaa
