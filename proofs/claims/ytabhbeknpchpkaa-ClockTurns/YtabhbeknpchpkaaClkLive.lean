/-
  The walk of the law's example. Conditions: each theorem's own.
-/
import Derived.Test.YtabhbeknpchpkaaClkRT
namespace Go.Proofs.Ytabhbeknpchpkaa
open Go.RowKit
set_option linter.unusedVariables false
set_option linter.unusedSimpArgs false


def exL : List Fl := [⟨true, false, true, 0⟩, ⟨true, false, true, 0⟩]
theorem exL_trn : trn exL 1 = (3, [⟨true, false, false, 0⟩, ⟨true, false, false, 0⟩]) := by rfl
theorem exL_vic : vic exL 1 = 1 ∧ hnd exL 1 = 0 := ⟨rfl, rfl⟩

set_option maxHeartbeats 1000000 in
theorem lives_any (w : World) : Calls Try.prog 19 #[] w fun e w' => e = .returned (.bool true) ∧ Grow w w' := by
  have hl : RdF (fun i => i = w.heap.size) (w.alloc (.cells #[.bool true, .bool false, .bool true, .int .i64 (0 : Int), .bool true, .bool false, .bool true, .int .i64 (0 : Int)] 40)) (.slice (some ⟨w.heap.size, 0, none⟩) 2 2) exL := rdS_new (f := Fl.cs) (k := 4) w 40 exL Fl.cs_length (by unfold maxLen; decide)
  have g0 : Grow w (w.alloc (.cells #[.bool true, .bool false, .bool true, .int .i64 (0 : Int), .bool true, .bool false, .bool true, .int .i64 (0 : Int)] 40)) := (Grow.refl w).alloc _
  have ht := turn_any w.heap.size 0 2 2 exL 1 (w.alloc (.cells #[.bool true, .bool false, .bool true, .int .i64 (0 : Int), .bool true, .bool false, .bool true, .int .i64 (0 : Int)] 40)) hl (by decide) (by decide)
  have hr := fun w' (g : Grow (w.alloc (.cells #[.bool true, .bool false, .bool true, .int .i64 (0 : Int), .bool true, .bool false, .bool true, .int .i64 (0 : Int)] 40)) w') => rounds_any w.heap.size 0 2 2 exL 1 w' (RdS.grow hl g) (by decide) (by decide)
  rw [exL_trn, exL_vic.1, exL_vic.2] at ht
  rw [exL_trn] at hr
  clear hl
  go_enter Try.func19, Try.ntmps19
  go_wp2_with fail
  refine ht.mono ?_
  rintro e w1 ⟨v', rfl, ho, g1⟩
  obtain ⟨a', c', hv⟩ := ho.shape
  have HG : Hid (Grow w w1) := g0.trans g1
  have hrr := hr w1 g1
  have hv' : v' = .slice a' 2 c' := hv
  clear hv
  subst hv'
  obtain ⟨bb, oo, rfl, -, -, hin0⟩ := rdF_at ho.rd (i := 0) (by decide)
  have hin1 := rdF_in ho.rd (i := 1) (by decide)
  obtain ⟨k0, k1, k2, k3⟩ := hin0
  obtain ⟨m0, m1, m2, m3⟩ := hin1
  simp only [Nat.zero_mul, Nat.add_zero, Nat.one_mul, List.getD_cons_zero, List.getD_cons_succ] at k0 k1 k2 k3 m0 m1 m2 m3
  clear ht hr ho g0 g1
  go_wp2_with fail
  refine hrr.mono ?_
  rintro e w2 ⟨rfl, g2⟩
  have HG2 : Hid (Grow w w2) := HG.out.trans g2
  clear hrr g2
  go_wp2
  go_ret
  exact ⟨rfl, HG2.out⟩
end Go.Proofs.Ytabhbeknpchpkaa
