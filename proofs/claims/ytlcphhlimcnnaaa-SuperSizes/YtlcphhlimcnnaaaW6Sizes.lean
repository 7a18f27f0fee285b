/-
  The walk of the law SuperSizes. Conditions: the theorem's own.
-/
import Derived.Test.YtlcphhlimcnnaaaSupGood
namespace Go.Proofs.Ytlcphhlimcnnaaa
open Go.RowKit
set_option linter.unusedVariables false
set_option linter.unusedSimpArgs false

set_option maxHeartbeats 4000000 in
theorem superSizes_walk {p : Nat → Prop} (ep fr dp se : Int) (v : Value) (ps : List Pt) (w : World) (h : RdP p w v ps) (hok : ∀ x ∈ ps, x.Ok) (hep : (Lit.int .i64 ep).wf = true) (hdp : W64 dp) (hse : W64 se) :
    Calls Try.prog 7 #[.int .i64 ep, .agg #[.int .i64 fr, .int .i64 dp, .int .i64 se, v]] w fun e w' => e = .returned (.bool true) ∧ Below w.heap.size w w' := by
  have HG : Hid (Grow w (w.alloc (.cells #[.int .i64 fr, .int .i64 dp, .int .i64 se, v] 24))) := (Grow.refl w).alloc _
  have hgood := fun w' (g : Grow w w') => qgood_any ep fr dp se v ps w' (RdS.grow h g) hok hep hdp hse
  obtain ⟨a, cp, rfl, h1, h2, -⟩ := h
  clear hok hdp hse hep h1 h2
  go_enter Try.func7, Try.ntmps7
  go_wp2_with fail
  refine (hgood _ HG.out).mono ?_
  rintro e w2 ⟨e1, f1, d1, s1, v1, q1, rfl, hE, hG, hR, g2⟩
  have HR : Hid (RdP (fun _ => True) w2 v1 q1 ∧ Grow w w2) := ⟨RdS.mono hR (fun _ _ _ => trivial), HG.out.trans g2⟩
  obtain ⟨a1, c1, rfl⟩ := hR.shape
  have X : Hid (VarAt (w2.alloc (.cells #[.int .i64 e1, .int .i64 f1, .int .i64 d1, .int .i64 s1, .slice a1 q1.length c1] 26)) w2.heap.size [.int .i64 e1, .int .i64 f1, .int .i64 d1, .int .i64 s1, .slice a1 q1.length c1] ∧ RdP (fun _ => True) (w2.alloc (.cells #[.int .i64 e1, .int .i64 f1, .int .i64 d1, .int .i64 s1, .slice a1 q1.length c1] 26)) (.slice a1 q1.length c1) q1 ∧ Grow w (w2.alloc (.cells #[.int .i64 e1, .int .i64 f1, .int .i64 d1, .int .i64 s1, .slice a1 q1.length c1] 26))) := ⟨VarAt.new w2 [.int .i64 e1, .int .i64 f1, .int .i64 d1, .int .i64 s1, .slice a1 q1.length c1] _, RdS.grow HR.out.1 ((Grow.refl _).alloc _), HR.out.2.alloc _⟩
  have hm := mayS_good hE.1 hE.2 hG
  have hlen := sbytes_length e1 f1 d1 s1 q1
  have hb := hG.bounds
  have hq4 : q1.length ≤ 4 := by omega
  clear hR g2 hgood HG hG hE HR hb
  go_wp2_with fail
  generalize w2.alloc (.cells #[.int .i64 e1, .int .i64 f1, .int .i64 d1, .int .i64 s1, .slice a1 q1.length c1] 26) = w3 at X ⊢
  generalize w2.heap.size = b5 at X ⊢
  refine (of_any e1 f1 d1 s1 a1 _ c1 w3).mono ?_
  rintro e w4 ⟨rfl, g4⟩
  have hwr := write_yes e1 f1 d1 s1 _ q1 w4 (RdS.grow X.out.2.1 g4) hm
  go_wp2_with fail
  refine hwr.mono ?_
  rintro e w5 ⟨v5, rfl, ho5, g5⟩
  obtain ⟨a5, c5, hv5⟩ := ho5.shape
  rw [hlen] at hv5
  subst hv5
  have Y : Hid (VarAt w5 b5 [.int .i64 e1, .int .i64 f1, .int .i64 d1, .int .i64 s1, .slice a1 q1.length c1] ∧ Grow w w5) := ⟨X.out.1.grow (g4.trans g5), X.out.2.2.trans (g4.trans g5)⟩
  obtain ⟨⟨m0, m1, m2, m3, m4⟩, -⟩ := Y.out.1.five
  have k1 : IntKind.i64.wrap (3 * (q1.length : Int)) = 3 * (q1.length : Int) := by rw [IntKind.wrap_i64]; omega
  have k2 : IntKind.i64.wrap (6 + 3 * (q1.length : Int)) = 6 + 3 * (q1.length : Int) := by rw [IntKind.wrap_i64]; omega
  have k3 : IntKind.i64.wrap (8 * (6 + 3 * (q1.length : Int))) = 8 * (6 + 3 * (q1.length : Int)) := by rw [IntKind.wrap_i64]; omega
  have k4 : IntKind.i64.wrap (8 * (6 + 3 * (q1.length : Int)) + 4) = 8 * (6 + 3 * (q1.length : Int)) + 4 := by rw [IntKind.wrap_i64]; omega
  have k5 : ((8 * (6 + 3 * q1.length) + 4 : Nat) : Int) = 8 * (6 + 3 * (q1.length : Int)) + 4 := by omega
  clear X hm hwr ho5 hlen g4 g5
  go_wp2_with fail
  refine (lives_any w5).mono ?_
  rintro e w6 ⟨rfl, g6⟩
  go_wp2
  go_ret
  exact ⟨rfl, Y.out.2.trans g6⟩
end Go.Proofs.Ytlcphhlimcnnaaa
