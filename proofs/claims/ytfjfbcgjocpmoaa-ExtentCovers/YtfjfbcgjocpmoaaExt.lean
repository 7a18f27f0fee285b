/-
  The walks of the extent's small functions: within, partOf, Range. Conditions: each theorem's own.
-/
import Derived.Test.YtfjfbcgjocpmoaaExtMath
import Derived.Test.YtfjfbcgjocpmoaaVars
import Derived.Test.YtfjfbcgjocpmoaaEnds
import Derived.Test.YtfjfbcgjocpmoaaCfgGood
namespace Go.Proofs.Ytfjfbcgjocpmoaa
open Go.RowKit
set_option linter.unusedVariables false
set_option linter.unusedSimpArgs false

theorem load_P (b : Nat) (x y z : Int) (w : World) (h : VarAt w b [.int .i64 x, .int .i64 y, .int .i64 z]) : (loadVar 46 ⟨b, 0, none⟩).run Try.prog w = .ok (.agg #[.int .i64 x, .int .i64 y, .int .i64 z]) w := by
  obtain ⟨⟨h0, h1, h2⟩, -⟩ := h.three
  go_simp
theorem load_A (b : Nat) (x y : Int) (w : World) (h : VarAt w b [.int .i64 x, .int .i64 y]) : (loadVar 31 ⟨b, 0, none⟩).run Try.prog w = .ok (.agg #[.int .i64 x, .int .i64 y]) w := by
  obtain ⟨⟨h0, h1⟩, -⟩ := h.two
  go_simp
theorem load_O (b : Nat) (x y z : Int) (t : Bool) (w : World) (h : VarAt w b [.int .i64 x, .int .i64 y, .int .i64 z, .bool t]) : (loadVar 39 ⟨b, 0, none⟩).run Try.prog w = .ok (.agg #[.int .i64 x, .int .i64 y, .int .i64 z, .bool t]) w := by
  obtain ⟨⟨h0, h1, h2, h3⟩, -⟩ := h.four
  go_simp

set_option maxHeartbeats 1000000 in
theorem within_any (n a b : Int) (w : World) : Calls Try.prog 18 #[.int .i64 n, .int .i64 a, .int .i64 b] w fun e w' => e = .returned (.bool (decide (a ≤ n) && decide (n < b))) ∧ w = w' := by
  by_cases h : a ≤ n
  · by_cases h2 : n < b
    · have e : (decide (a ≤ n) && decide (n < b)) = true := by simp [h, h2]
      rw [e]
      go_enter Try.func18, Try.ntmps18
      go_wp2
      go_ret
      exact ⟨rfl, rfl⟩
    · have e : (decide (a ≤ n) && decide (n < b)) = false := by simp [h2]
      rw [e]
      go_enter Try.func18, Try.ntmps18
      go_wp2
      go_ret
      exact ⟨rfl, rfl⟩
  · have e : (decide (a ≤ n) && decide (n < b)) = false := by simp [h]
    rw [e]
    go_enter Try.func18, Try.ntmps18
    go_wp2
    go_ret
    exact ⟨rfl, rfl⟩
theorem within_yes {n a b : Int} (h : a ≤ n) (h2 : n < b) (w : World) : Calls Try.prog 18 #[.int .i64 n, .int .i64 a, .int .i64 b] w fun e w' => e = .returned (.bool true) ∧ w = w' := by
  have := within_any n a b w
  have e : (decide (a ≤ n) && decide (n < b)) = true := by simp [h, h2]
  rw [e] at this
  exact this
theorem within_no {n a b : Int} (h : ¬ (a ≤ n ∧ n < b)) (w : World) : Calls Try.prog 18 #[.int .i64 n, .int .i64 a, .int .i64 b] w fun e w' => e = .returned (.bool false) ∧ w = w' := by
  have := within_any n a b w
  have e : (decide (a ≤ n) && decide (n < b)) = false := by rw [Bool.and_eq_false_iff, decide_eq_false_iff_not, decide_eq_false_iff_not]; omega
  rw [e] at this
  exact this

theorem part_two {w : World} {fr dp se : Int} {v : Value} : VarAt ((w.alloc (.cells #[.int .i64 fr, .int .i64 dp, .int .i64 se, v] 24)).alloc (.cells #[.int .i64 (0 : Int), .int .i64 (0 : Int), .int .i64 (0 : Int)] 46)) w.heap.size [.int .i64 fr, .int .i64 dp, .int .i64 se, v] ∧ VarAt ((w.alloc (.cells #[.int .i64 fr, .int .i64 dp, .int .i64 se, v] 24)).alloc (.cells #[.int .i64 (0 : Int), .int .i64 (0 : Int), .int .i64 (0 : Int)] 46)) (w.heap.size + 1) [.int .i64 (0 : Int), .int .i64 (0 : Int), .int .i64 (0 : Int)] ∧ Grow w ((w.alloc (.cells #[.int .i64 fr, .int .i64 dp, .int .i64 se, v] 24)).alloc (.cells #[.int .i64 (0 : Int), .int .i64 (0 : Int), .int .i64 (0 : Int)] 46)) :=
  ⟨(VarAt.new w [.int .i64 fr, .int .i64 dp, .int .i64 se, v] _).old _, VarAt.new2 w _ [.int .i64 (0 : Int), .int .i64 (0 : Int), .int .i64 (0 : Int)] _, ((Grow.refl w).alloc _).alloc _⟩

set_option maxHeartbeats 4000000 in
theorem part_no {p : Nat → Prop} (fr dp se t : Int) (v : Value) (ps : List Pt) (w : World) (h : RdP p w v ps) (hn : ¬ (0 ≤ t ∧ t < (ps.length : Int))) :
    Calls Try.prog 19 #[.agg #[.int .i64 fr, .int .i64 dp, .int .i64 se, v], .int .i64 t] w fun e w' => e = .returned (.tuple #[.agg #[.int .i64 0, .int .i64 0, .int .i64 0], .bool false]) ∧ Grow w w' := by
  have X : Hid (VarAt ((w.alloc (.cells #[.int .i64 fr, .int .i64 dp, .int .i64 se, v] 24)).alloc (.cells #[.int .i64 (0 : Int), .int .i64 (0 : Int), .int .i64 (0 : Int)] 46)) w.heap.size [.int .i64 fr, .int .i64 dp, .int .i64 se, v] ∧ VarAt ((w.alloc (.cells #[.int .i64 fr, .int .i64 dp, .int .i64 se, v] 24)).alloc (.cells #[.int .i64 (0 : Int), .int .i64 (0 : Int), .int .i64 (0 : Int)] 46)) (w.heap.size + 1) [.int .i64 (0 : Int), .int .i64 (0 : Int), .int .i64 (0 : Int)] ∧ Grow w ((w.alloc (.cells #[.int .i64 fr, .int .i64 dp, .int .i64 se, v] 24)).alloc (.cells #[.int .i64 (0 : Int), .int .i64 (0 : Int), .int .i64 (0 : Int)] 46))) := part_two
  obtain ⟨a, cp, rfl, h1, h2, -⟩ := h
  have hw := fun w' => within_no (w := w') hn
  clear hn h1 h2
  go_enter Try.func19, Try.ntmps19
  go_wp2_with fail
  refine (hw _).mono ?_
  rintro e w2 ⟨rfl, rfl⟩
  go_wp2
  exact bodyPost_ret_by (results_cell_tmp rfl _ _ _ (.agg #[.int .i64 0, .int .i64 0, .int .i64 0]) rfl (load_P (w.heap.size + 1) 0 0 0 _ X.out.2.1)) rfl ⟨rfl, X.out.2.2⟩

set_option maxHeartbeats 4000000 in
theorem part_yes {p : Nat → Prop} (fr dp se : Int) (i : Nat) (v : Value) (ps : List Pt) (w : World) (h : RdP p w v ps) (hi : i < ps.length) :
    Calls Try.prog 19 #[.agg #[.int .i64 fr, .int .i64 dp, .int .i64 se, v], .int .i64 i] w fun e w' => e = .returned (.tuple #[.agg #[.int .i64 (ps.getD i Pt.zero).q, .int .i64 (ps.getD i Pt.zero).b, .int .i64 (ps.getD i Pt.zero).g], .bool true]) ∧ Grow w w' := by
  have X : Hid (VarAt ((w.alloc (.cells #[.int .i64 fr, .int .i64 dp, .int .i64 se, v] 24)).alloc (.cells #[.int .i64 (0 : Int), .int .i64 (0 : Int), .int .i64 (0 : Int)] 46)) w.heap.size [.int .i64 fr, .int .i64 dp, .int .i64 se, v] ∧ VarAt ((w.alloc (.cells #[.int .i64 fr, .int .i64 dp, .int .i64 se, v] 24)).alloc (.cells #[.int .i64 (0 : Int), .int .i64 (0 : Int), .int .i64 (0 : Int)] 46)) (w.heap.size + 1) [.int .i64 (0 : Int), .int .i64 (0 : Int), .int .i64 (0 : Int)] ∧ Grow w ((w.alloc (.cells #[.int .i64 fr, .int .i64 dp, .int .i64 se, v] 24)).alloc (.cells #[.int .i64 (0 : Int), .int .i64 (0 : Int), .int .i64 (0 : Int)] 46))) := part_two
  have HR : Hid (RdP p w v ps) := h
  obtain ⟨a, cp, rfl, h1, h2, -⟩ := h
  unfold maxLen at h2
  have hlt : (i : Int) < (ps.length : Int) := by omega
  have hw := fun w' => within_yes (w := w') (show (0 : Int) ≤ (i : Int) by omega) hlt
  obtain ⟨bb, oo, rfl, _, _, hin⟩ := rdP_at HR.out hi
  obtain ⟨k0, k1, k2⟩ := hin.grow X.out.2.2
  generalize ps.getD i Pt.zero = d at k0 k1 k2 ⊢
  clear hin h1
  go_enter Try.func19, Try.ntmps19
  go_wp2_with fail
  refine (hw _).mono ?_
  rintro e w2 ⟨rfl, rfl⟩
  generalize ((w.alloc (.cells #[.int .i64 fr, .int .i64 dp, .int .i64 se, .slice (some ⟨bb, oo, none⟩) ps.length cp] 24)).alloc (.cells #[.int .i64 (0 : Int), .int .i64 (0 : Int), .int .i64 (0 : Int)] 46)) = w1 at X k0 k1 k2 ⊢
  obtain ⟨⟨n0, n1, n2, n3⟩, -⟩ := X.out.1.four
  obtain ⟨⟨m0, m1, m2⟩, f0, f1, f2⟩ := X.out.2.1.three
  go_wp2
  have hU := upd_three w1 (w.heap.size + 1) (.int .i64 d.q) (.int .i64 d.b) (.int .i64 d.g)
  exact bodyPost_ret_by (results_cell_tmp rfl _ _ _ (.agg #[.int .i64 d.q, .int .i64 d.b, .int .i64 d.g]) rfl (load_P (w.heap.size + 1) d.q d.b d.g _ (X.out.2.1.set3 _ _ _))) rfl ⟨rfl, UpdS.new X.out.2.2 hU (fun i hi => by omega)⟩

set_option maxHeartbeats 4000000 in
theorem range_no {p : Nat → Prop} (fr dp se t : Int) (v : Value) (ps : List Pt) (w : World) (h : RdP p w v ps) (hn : ¬ (0 ≤ t ∧ t < (ps.length : Int))) :
    Calls Try.prog 16 #[.agg #[.int .i64 fr, .int .i64 dp, .int .i64 se, v], .int .i64 t] w fun e w' => e = .returned (.tuple #[.int .i64 0, .int .i64 0]) ∧ Grow w w' := by
  have HG : Hid (Grow w (w.alloc (.cells #[.int .i64 fr, .int .i64 dp, .int .i64 se, v] 24))) := (Grow.refl w).alloc _
  have hp := part_no fr dp se t v ps _ (RdS.grow h HG.out) hn
  obtain ⟨a, cp, rfl, h1, h2, -⟩ := h
  clear hn h1 h2
  go_enter Try.func16, Try.ntmps16
  go_wp2_with fail
  refine hp.mono ?_
  rintro e w2 ⟨rfl, g2⟩
  have H2 : Hid (Grow w w2) := HG.out.trans g2
  clear g2 hp HG
  go_wp2
  go_ret2
  exact ⟨rfl, H2.out.alloc _⟩

set_option maxHeartbeats 4000000 in
theorem range_yes {p : Nat → Prop} (fr dp se : Int) (i : Nat) (v : Value) (ps : List Pt) (w : World) (h : RdP p w v ps) (hi : i < ps.length) (hd : 0 ≤ (ps.getD i Pt.zero).g ∧ (ps.getD i Pt.zero).g ≤ 1000 ∧ 0 ≤ (ps.getD i Pt.zero).b ∧ (ps.getD i Pt.zero).b ≤ 100000) :
    Calls Try.prog 16 #[.agg #[.int .i64 fr, .int .i64 dp, .int .i64 se, v], .int .i64 i] w fun e w' => e = .returned (.tuple #[.int .i64 (ps.getD i Pt.zero).b, .int .i64 ((ps.getD i Pt.zero).b + 2 * (ps.getD i Pt.zero).g)]) ∧ Grow w w' := by
  have HG : Hid (Grow w (w.alloc (.cells #[.int .i64 fr, .int .i64 dp, .int .i64 se, v] 24))) := (Grow.refl w).alloc _
  have hp := part_yes fr dp se i v ps _ (RdS.grow h HG.out) hi
  obtain ⟨a, cp, rfl, h1, h2, -⟩ := h
  clear hi h1 h2
  generalize ps.getD i Pt.zero = d at hp hd ⊢
  obtain ⟨d1, d2, d3, d4⟩ := hd
  have hw1 : IntKind.i64.wrap (2 * d.g) = 2 * d.g := by rw [IntKind.wrap_i64]; omega
  have hw2 : IntKind.i64.wrap (d.b + 2 * d.g) = d.b + 2 * d.g := by rw [IntKind.wrap_i64]; omega
  go_enter Try.func16, Try.ntmps16
  go_wp2_with fail
  refine hp.mono ?_
  rintro e w2 ⟨rfl, g2⟩
  have H2 : Hid (Grow w w2) := HG.out.trans g2
  clear g2 hp HG
  go_wp2
  go_region
  go_wp2
  go_ret2
  exact ⟨rfl, (H2.out.alloc _).drew⟩
end Go.Proofs.Ytfjfbcgjocpmoaa
