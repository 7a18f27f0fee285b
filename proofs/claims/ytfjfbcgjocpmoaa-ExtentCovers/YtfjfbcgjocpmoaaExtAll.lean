/-
  The walks of All and Sector, and of the document's Sector. Conditions: each theorem's own.
-/
import Derived.Test.YtfjfbcgjocpmoaaExt
namespace Go.Proofs.Ytfjfbcgjocpmoaa
open Go.RowKit
set_option linter.unusedVariables false
set_option linter.unusedSimpArgs false

theorem all_three {w : World} {fr dp se : Int} {v : Value} : (VarAt (((w.alloc (.cells #[.int .i64 fr, .int .i64 dp, .int .i64 se, v] 24)).alloc (.cells #[.int .i64 (0 : Int), .int .i64 (0 : Int)] 31)).alloc (.cells #[.int .i64 (0 : Int), .int .i64 (0 : Int)] 31)) w.heap.size [.int .i64 fr, .int .i64 dp, .int .i64 se, v] ∧ VarAt (((w.alloc (.cells #[.int .i64 fr, .int .i64 dp, .int .i64 se, v] 24)).alloc (.cells #[.int .i64 (0 : Int), .int .i64 (0 : Int)] 31)).alloc (.cells #[.int .i64 (0 : Int), .int .i64 (0 : Int)] 31)) (w.heap.size + 1) [.int .i64 (0 : Int), .int .i64 (0 : Int)] ∧ VarAt (((w.alloc (.cells #[.int .i64 fr, .int .i64 dp, .int .i64 se, v] 24)).alloc (.cells #[.int .i64 (0 : Int), .int .i64 (0 : Int)] 31)).alloc (.cells #[.int .i64 (0 : Int), .int .i64 (0 : Int)] 31)) (w.heap.size + 2) [.int .i64 (0 : Int), .int .i64 (0 : Int)] ∧ Grow w (((w.alloc (.cells #[.int .i64 fr, .int .i64 dp, .int .i64 se, v] 24)).alloc (.cells #[.int .i64 (0 : Int), .int .i64 (0 : Int)] 31)).alloc (.cells #[.int .i64 (0 : Int), .int .i64 (0 : Int)] 31))) :=
  ⟨((VarAt.new w [.int .i64 fr, .int .i64 dp, .int .i64 se, v] _).old _).old _, (VarAt.new2 w _ [.int .i64 (0 : Int), .int .i64 (0 : Int)] _).old _, VarAt.new3 w _ _ [.int .i64 (0 : Int), .int .i64 (0 : Int)] _, (((Grow.refl w).alloc _).alloc _).alloc _⟩

set_option maxHeartbeats 4000000 in
theorem all_arg {p : Nat → Prop} (fr dp se t g : Int) (v : Value) (ps : List Pt) (w : World) (h : RdP p w v ps) (hn : ¬ (0 ≤ t ∧ t < (ps.length : Int))) :
    Calls Try.prog 12 #[.agg #[.int .i64 fr, .int .i64 dp, .int .i64 se, v], .int .i64 t, .int .i64 g] w fun e w' => e = .returned (.tuple #[.agg #[.int .i64 0, .int .i64 0], .int .i64 1]) ∧ Grow w w' := by
  have X0 : Hid (VarAt (((w.alloc (.cells #[.int .i64 fr, .int .i64 dp, .int .i64 se, v] 24)).alloc (.cells #[.int .i64 (0 : Int), .int .i64 (0 : Int)] 31)).alloc (.cells #[.int .i64 (0 : Int), .int .i64 (0 : Int)] 31)) w.heap.size [.int .i64 fr, .int .i64 dp, .int .i64 se, v] ∧ VarAt (((w.alloc (.cells #[.int .i64 fr, .int .i64 dp, .int .i64 se, v] 24)).alloc (.cells #[.int .i64 (0 : Int), .int .i64 (0 : Int)] 31)).alloc (.cells #[.int .i64 (0 : Int), .int .i64 (0 : Int)] 31)) (w.heap.size + 1) [.int .i64 (0 : Int), .int .i64 (0 : Int)] ∧ VarAt (((w.alloc (.cells #[.int .i64 fr, .int .i64 dp, .int .i64 se, v] 24)).alloc (.cells #[.int .i64 (0 : Int), .int .i64 (0 : Int)] 31)).alloc (.cells #[.int .i64 (0 : Int), .int .i64 (0 : Int)] 31)) (w.heap.size + 2) [.int .i64 (0 : Int), .int .i64 (0 : Int)] ∧ Grow w (((w.alloc (.cells #[.int .i64 fr, .int .i64 dp, .int .i64 se, v] 24)).alloc (.cells #[.int .i64 (0 : Int), .int .i64 (0 : Int)] 31)).alloc (.cells #[.int .i64 (0 : Int), .int .i64 (0 : Int)] 31))) := all_three
  have hp := part_no fr dp se t v ps _ (RdS.grow h X0.out.2.2.2) hn
  obtain ⟨a, cp, rfl, h1, h2, -⟩ := h
  clear hn h1 h2
  obtain ⟨b1, hb1⟩ : ∃ b1, b1 = w.heap.size := ⟨_, rfl⟩
  obtain ⟨b2, hb2⟩ : ∃ b2, b2 = w.heap.size + 1 := ⟨_, rfl⟩
  obtain ⟨b3, hb3⟩ : ∃ b3, b3 = w.heap.size + 2 := ⟨_, rfl⟩
  have HB : Hid (b1 = w.heap.size ∧ b2 = w.heap.size + 1 ∧ b3 = w.heap.size + 2) := ⟨hb1, hb2, hb3⟩
  go_enter Try.func12, Try.ntmps12
  go_wp2_with fail
  refine hp.mono ?_
  rintro e w2 ⟨rfl, g2⟩
  rw [← hb3, ← hb2, ← hb1] at X0
  try rw [← hb3]
  try rw [← hb2]
  try rw [← hb1]
  clear hb1 hb2 hb3
  have X2 : Hid (VarAt w2 b2 [.int .i64 (0 : Int), .int .i64 (0 : Int)] ∧ VarAt w2 b3 [.int .i64 (0 : Int), .int .i64 (0 : Int)] ∧ Grow w w2) := ⟨X0.out.2.1.grow g2, X0.out.2.2.1.grow g2, X0.out.2.2.2.trans g2⟩
  clear X0 g2 hp
  have X3 : Hid (VarAt (w2.alloc (.cells #[.int .i64 (0 : Int), .int .i64 (0 : Int), .int .i64 (0 : Int)] 46)) b2 [.int .i64 (0 : Int), .int .i64 (0 : Int)] ∧ VarAt (w2.alloc (.cells #[.int .i64 (0 : Int), .int .i64 (0 : Int), .int .i64 (0 : Int)] 46)) b3 [.int .i64 (0 : Int), .int .i64 (0 : Int)] ∧ Grow w (w2.alloc (.cells #[.int .i64 (0 : Int), .int .i64 (0 : Int), .int .i64 (0 : Int)] 46))) := ⟨X2.out.1.old _, X2.out.2.1.old _, X2.out.2.2.alloc _⟩
  obtain ⟨⟨m0, m1⟩, f0, f1⟩ := X3.out.1.two
  obtain ⟨⟨n0, n1⟩, -⟩ := X3.out.2.1.two
  go_wp2
  have hU := upd_pair (w2.alloc (.cells #[.int .i64 (0 : Int), .int .i64 (0 : Int), .int .i64 (0 : Int)] 46)) b2 (.int .i64 0) (.int .i64 0)
  exact bodyPost_ret_by (results_cell_tmp rfl _ _ _ (.agg #[.int .i64 0, .int .i64 0]) rfl (load_A b2 0 0 _ (X3.out.1.set2 _ _))) rfl ⟨rfl, UpdS.new X3.out.2.2 hU (fun i hi => by have := HB.out; omega)⟩

set_option maxHeartbeats 4000000 in
theorem all_rng {p : Nat → Prop} (fr dp se : Int) (i : Nat) (g : Int) (v : Value) (ps : List Pt) (w : World) (h : RdP p w v ps) (hi : i < ps.length) (hn : ¬ (0 ≤ g ∧ g < (ps.getD i Pt.zero).g)) :
    Calls Try.prog 12 #[.agg #[.int .i64 fr, .int .i64 dp, .int .i64 se, v], .int .i64 i, .int .i64 g] w fun e w' => e = .returned (.tuple #[.agg #[.int .i64 0, .int .i64 0], .int .i64 4]) ∧ Grow w w' := by
  have X0 : Hid (VarAt (((w.alloc (.cells #[.int .i64 fr, .int .i64 dp, .int .i64 se, v] 24)).alloc (.cells #[.int .i64 (0 : Int), .int .i64 (0 : Int)] 31)).alloc (.cells #[.int .i64 (0 : Int), .int .i64 (0 : Int)] 31)) w.heap.size [.int .i64 fr, .int .i64 dp, .int .i64 se, v] ∧ VarAt (((w.alloc (.cells #[.int .i64 fr, .int .i64 dp, .int .i64 se, v] 24)).alloc (.cells #[.int .i64 (0 : Int), .int .i64 (0 : Int)] 31)).alloc (.cells #[.int .i64 (0 : Int), .int .i64 (0 : Int)] 31)) (w.heap.size + 1) [.int .i64 (0 : Int), .int .i64 (0 : Int)] ∧ VarAt (((w.alloc (.cells #[.int .i64 fr, .int .i64 dp, .int .i64 se, v] 24)).alloc (.cells #[.int .i64 (0 : Int), .int .i64 (0 : Int)] 31)).alloc (.cells #[.int .i64 (0 : Int), .int .i64 (0 : Int)] 31)) (w.heap.size + 2) [.int .i64 (0 : Int), .int .i64 (0 : Int)] ∧ Grow w (((w.alloc (.cells #[.int .i64 fr, .int .i64 dp, .int .i64 se, v] 24)).alloc (.cells #[.int .i64 (0 : Int), .int .i64 (0 : Int)] 31)).alloc (.cells #[.int .i64 (0 : Int), .int .i64 (0 : Int)] 31))) := all_three
  have hp := part_yes fr dp se i v ps _ (RdS.grow h X0.out.2.2.2) hi
  obtain ⟨a, cp, rfl, h1, h2, -⟩ := h
  generalize ps.getD i Pt.zero = d at hp hn
  have hw := fun w' => within_no (w := w') hn
  clear hn h1 h2
  obtain ⟨b1, hb1⟩ : ∃ b1, b1 = w.heap.size := ⟨_, rfl⟩
  obtain ⟨b2, hb2⟩ : ∃ b2, b2 = w.heap.size + 1 := ⟨_, rfl⟩
  obtain ⟨b3, hb3⟩ : ∃ b3, b3 = w.heap.size + 2 := ⟨_, rfl⟩
  have HB : Hid (b1 = w.heap.size ∧ b2 = w.heap.size + 1 ∧ b3 = w.heap.size + 2) := ⟨hb1, hb2, hb3⟩
  go_enter Try.func12, Try.ntmps12
  go_wp2_with fail
  refine hp.mono ?_
  rintro e w2 ⟨rfl, g2⟩
  rw [← hb3, ← hb2, ← hb1] at X0
  try rw [← hb3]
  try rw [← hb2]
  try rw [← hb1]
  clear hb1 hb2 hb3
  have X3 : Hid (VarAt (w2.alloc (.cells #[.int .i64 d.q, .int .i64 d.b, .int .i64 d.g] 46)) b2 [.int .i64 (0 : Int), .int .i64 (0 : Int)] ∧ VarAt (w2.alloc (.cells #[.int .i64 d.q, .int .i64 d.b, .int .i64 d.g] 46)) b3 [.int .i64 (0 : Int), .int .i64 (0 : Int)] ∧ Grow w (w2.alloc (.cells #[.int .i64 d.q, .int .i64 d.b, .int .i64 d.g] 46))) := ⟨(X0.out.2.1.grow g2).old _, (X0.out.2.2.1.grow g2).old _, (X0.out.2.2.2.trans g2).alloc _⟩
  clear X0 g2 hp
  obtain ⟨⟨m0, m1⟩, f0, f1⟩ := X3.out.1.two
  obtain ⟨⟨n0, n1⟩, -⟩ := X3.out.2.1.two
  go_wp2_with fail
  refine (hw _).mono ?_
  rintro e w3 ⟨rfl, rfl⟩
  go_wp2
  have hU := upd_pair (w2.alloc (.cells #[.int .i64 d.q, .int .i64 d.b, .int .i64 d.g] 46)) b2 (.int .i64 0) (.int .i64 0)
  exact bodyPost_ret_by (results_cell_tmp rfl _ _ _ (.agg #[.int .i64 0, .int .i64 0]) rfl (load_A b2 0 0 _ (X3.out.1.set2 _ _))) rfl ⟨rfl, UpdS.new X3.out.2.2 hU (fun i hi => by have := HB.out; omega)⟩

set_option maxHeartbeats 4000000 in
theorem all_ok {p : Nat → Prop} (fr dp se : Int) (i : Nat) (g : Int) (v : Value) (ps : List Pt) (w : World) (h : RdP p w v ps) (hi : i < ps.length) (h0 : 0 ≤ g) (hg : g < (ps.getD i Pt.zero).g) (hd : 0 ≤ (ps.getD i Pt.zero).g ∧ (ps.getD i Pt.zero).g ≤ 1000 ∧ 0 ≤ (ps.getD i Pt.zero).b ∧ (ps.getD i Pt.zero).b ≤ 100000) :
    Calls Try.prog 12 #[.agg #[.int .i64 fr, .int .i64 dp, .int .i64 se, v], .int .i64 i, .int .i64 g] w fun e w' => e = .returned (.tuple #[.agg #[.int .i64 ((ps.getD i Pt.zero).b + 2 * g), .int .i64 ((ps.getD i Pt.zero).b + 2 * g + 1)], .int .i64 0]) ∧ Grow w w' := by
  have X0 : Hid (VarAt (((w.alloc (.cells #[.int .i64 fr, .int .i64 dp, .int .i64 se, v] 24)).alloc (.cells #[.int .i64 (0 : Int), .int .i64 (0 : Int)] 31)).alloc (.cells #[.int .i64 (0 : Int), .int .i64 (0 : Int)] 31)) w.heap.size [.int .i64 fr, .int .i64 dp, .int .i64 se, v] ∧ VarAt (((w.alloc (.cells #[.int .i64 fr, .int .i64 dp, .int .i64 se, v] 24)).alloc (.cells #[.int .i64 (0 : Int), .int .i64 (0 : Int)] 31)).alloc (.cells #[.int .i64 (0 : Int), .int .i64 (0 : Int)] 31)) (w.heap.size + 1) [.int .i64 (0 : Int), .int .i64 (0 : Int)] ∧ VarAt (((w.alloc (.cells #[.int .i64 fr, .int .i64 dp, .int .i64 se, v] 24)).alloc (.cells #[.int .i64 (0 : Int), .int .i64 (0 : Int)] 31)).alloc (.cells #[.int .i64 (0 : Int), .int .i64 (0 : Int)] 31)) (w.heap.size + 2) [.int .i64 (0 : Int), .int .i64 (0 : Int)] ∧ Grow w (((w.alloc (.cells #[.int .i64 fr, .int .i64 dp, .int .i64 se, v] 24)).alloc (.cells #[.int .i64 (0 : Int), .int .i64 (0 : Int)] 31)).alloc (.cells #[.int .i64 (0 : Int), .int .i64 (0 : Int)] 31))) := all_three
  have hp := part_yes fr dp se i v ps _ (RdS.grow h X0.out.2.2.2) hi
  obtain ⟨a, cp, rfl, h1, h2, -⟩ := h
  generalize ps.getD i Pt.zero = d at hp hg hd ⊢
  have hw := fun w' => within_yes (w := w') h0 hg
  obtain ⟨d1, d2, d3, d4⟩ := hd
  have hw1 : IntKind.i64.wrap (2 * g) = 2 * g := by rw [IntKind.wrap_i64]; omega
  have hw2 : IntKind.i64.wrap (d.b + 2 * g) = d.b + 2 * g := by rw [IntKind.wrap_i64]; omega
  have hw3 : IntKind.i64.wrap (d.b + 2 * g + 1) = d.b + 2 * g + 1 := by rw [IntKind.wrap_i64]; omega
  clear h1 h2 d1 d2 d3 d4 h0 hg hi
  obtain ⟨b1, hb1⟩ : ∃ b1, b1 = w.heap.size := ⟨_, rfl⟩
  obtain ⟨b2, hb2⟩ : ∃ b2, b2 = w.heap.size + 1 := ⟨_, rfl⟩
  obtain ⟨b3, hb3⟩ : ∃ b3, b3 = w.heap.size + 2 := ⟨_, rfl⟩
  have HB : Hid (b1 = w.heap.size ∧ b2 = w.heap.size + 1 ∧ b3 = w.heap.size + 2) := ⟨hb1, hb2, hb3⟩
  go_enter Try.func12, Try.ntmps12
  go_wp2_with fail
  refine hp.mono ?_
  rintro e w2 ⟨rfl, g2⟩
  rw [← hb3, ← hb2, ← hb1] at X0
  try rw [← hb3]
  try rw [← hb2]
  try rw [← hb1]
  clear hb1 hb2 hb3
  have X3 : Hid (VarAt (w2.alloc (.cells #[.int .i64 d.q, .int .i64 d.b, .int .i64 d.g] 46)) b2 [.int .i64 (0 : Int), .int .i64 (0 : Int)] ∧ VarAt (w2.alloc (.cells #[.int .i64 d.q, .int .i64 d.b, .int .i64 d.g] 46)) b3 [.int .i64 (0 : Int), .int .i64 (0 : Int)] ∧ VarAt (w2.alloc (.cells #[.int .i64 d.q, .int .i64 d.b, .int .i64 d.g] 46)) w2.heap.size [.int .i64 d.q, .int .i64 d.b, .int .i64 d.g] ∧ b3 < w2.heap.size ∧ Grow w (w2.alloc (.cells #[.int .i64 d.q, .int .i64 d.b, .int .i64 d.g] 46))) := ⟨(X0.out.2.1.grow g2).old _, (X0.out.2.2.1.grow g2).old _, VarAt.new w2 [.int .i64 d.q, .int .i64 d.b, .int .i64 d.g] _, (X0.out.2.2.1.grow g2).lt, (X0.out.2.2.2.trans g2).alloc _⟩
  clear X0 g2 hp
  go_wp2_with fail
  refine (hw _).mono ?_
  rintro e w3 ⟨rfl, rfl⟩
  go_wp2
  generalize w2.alloc (.cells #[.int .i64 d.q, .int .i64 d.b, .int .i64 d.g] 46) = w3 at X3 ⊢
  generalize w2.heap.size = b4 at X3 ⊢
  go_loopg [27] 2 (fun m iv wr => (m = 2 ∧ iv = .int .i64 0 ∧ Hid (VarAt wr b2 [.int .i64 (0 : Int), .int .i64 (0 : Int)] ∧ VarAt wr b3 [.int .i64 (0 : Int), .int .i64 (0 : Int)] ∧ VarAt wr b4 [.int .i64 d.q, .int .i64 d.b, .int .i64 d.g] ∧ Grow w wr)) ∨ (m = 1 ∧ iv = .int .i64 1 ∧ Hid (VarAt wr b2 [.int .i64 (0 : Int), .int .i64 (0 : Int)] ∧ VarAt wr b3 [.int .i64 (d.b + 2 * g), .int .i64 (0 : Int)] ∧ VarAt wr b4 [.int .i64 d.q, .int .i64 d.b, .int .i64 d.g] ∧ Grow w wr)) ∨ (m = 0 ∧ iv = .int .i64 2 ∧ Hid (VarAt wr b2 [.int .i64 (0 : Int), .int .i64 (0 : Int)] ∧ VarAt wr b3 [.int .i64 (d.b + 2 * g), .int .i64 (d.b + 2 * g + 1)] ∧ VarAt wr b4 [.int .i64 d.q, .int .i64 d.b, .int .i64 d.g] ∧ Grow w wr)))
  case atStart => exact .inl ⟨rfl, rfl, X3.out.1, X3.out.2.1, X3.out.2.2.1, X3.out.2.2.2.2⟩
  case round =>
    rcases hrel with ⟨hk, rfl, Y⟩ | ⟨hk, rfl, Y⟩ | ⟨hk, rfl, Y⟩
    · have HK : Hid (gk = 2) := hk
      obtain ⟨⟨n0, n1⟩, f0, f1⟩ := Y.out.2.1.two
      obtain ⟨⟨k0, k1, k2⟩, -⟩ := Y.out.2.2.1.three
      clear hk
      go_wp2
      go_roundg 1
      case measure => have := HK.out; omega
      case rel => exact .inr (.inl ⟨rfl, rfl, Y.out.1.upd (upd_one wr b3 0 _) (by have := HB.out; omega), Y.out.2.1.set 0 _, Y.out.2.2.1.upd (upd_one wr b3 0 _) (by have := X3.out.2.2.2.1; omega), UpdS.new Y.out.2.2.2 (upd_one wr b3 0 _) (fun i hi => by have := HB.out; omega)⟩)
    · have HK : Hid (gk = 1) := hk
      obtain ⟨⟨n0, n1⟩, f0, f1⟩ := Y.out.2.1.two
      obtain ⟨⟨k0, k1, k2⟩, -⟩ := Y.out.2.2.1.three
      clear hk
      go_wp2
      go_roundg 0
      case measure => have := HK.out; omega
      case rel => exact .inr (.inr ⟨rfl, rfl, Y.out.1.upd (upd_one wr b3 1 _) (by have := HB.out; omega), Y.out.2.1.set 1 _, Y.out.2.2.1.upd (upd_one wr b3 1 _) (by have := X3.out.2.2.2.1; omega), UpdS.new Y.out.2.2.2 (upd_one wr b3 1 _) (fun i hi => by have := HB.out; omega)⟩)
    · obtain ⟨⟨m0, m1⟩, g0, g1⟩ := Y.out.1.two
      obtain ⟨⟨n0, n1⟩, f0, f1⟩ := Y.out.2.1.two
      clear hk
      go_wp2
      have hU := upd_pair wr b2 (.int .i64 (d.b + 2 * g)) (.int .i64 (d.b + 2 * g + 1))
      exact bodyPost_ret_by (results_cell_tmp rfl _ _ _ (.agg #[.int .i64 (d.b + 2 * g), .int .i64 (d.b + 2 * g + 1)]) rfl (load_A b2 _ _ _ (Y.out.1.set2 _ _))) rfl ⟨rfl, UpdS.new Y.out.2.2.2 hU (fun i hi => by have := HB.out; omega)⟩
end Go.Proofs.Ytfjfbcgjocpmoaa
