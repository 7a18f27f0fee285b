/-
  The walk of the law ConfigSum. Conditions: the theorem's own.
-/
import Derived.Test.YtaieepbfccdmiaaCfgGood
import Derived.Test.YtaieepbfccdmiaaCfgFree
namespace Go.Proofs.Ytaieepbfccdmiaa
open Go.RowKit
set_option linter.unusedVariables false
set_option linter.unusedSimpArgs false

set_option maxHeartbeats 4000000 in
theorem configSum_walk {p : Nat → Prop} (fr dp se : Int) (v : Value) (ps : List Pt) (n : Int) (w : World) (h : RdP p w v ps) (hok : ∀ x ∈ ps, x.Ok) (hdp : W64 dp) (hse : W64 se) (hn : (Lit.int .i64 n).wf = true) :
    Calls Try.prog 8 #[.agg #[.int .i64 fr, .int .i64 dp, .int .i64 se, v], .int .i64 n] w fun e w' => e = .returned (.bool true) ∧ Below w.heap.size w w' := by
  have har := fun w' => around_any n 7 w' hn (by omega) (by omega)
  have hA := around_bd n 7 (by omega)
  generalize around n 7 = A at har hA
  obtain ⟨D, hDA⟩ : ∃ D, D = A - 3 := ⟨_, rfl⟩
  have hD : -3 ≤ D ∧ D ≤ 3 := by omega
  have hwD : IntKind.i64.wrap (A - 3) = D := by rw [IntKind.wrap_i64]; omega
  clear hA hDA hn
  have HG : Hid (Grow w (w.alloc (.cells #[.int .i64 fr, .int .i64 dp, .int .i64 se, v] 24))) := (Grow.refl w).alloc _
  have hgood := fun w' (g : Grow w w') => good_any fr dp se v ps w' (RdS.grow h g) hok hdp hse
  obtain ⟨a, cp, rfl, h1, h2, -⟩ := h
  clear hok hdp hse
  go_enter Try.func8, Try.ntmps8
  go_wp2_with fail
  refine (hgood _ HG.out).mono ?_
  rintro e w2 ⟨fr', dp', se', v', ps', rfl, hG, hR, g2⟩
  have HR : Hid (GoodC fr' dp' se' ps' ∧ RdP (fun i => (w.alloc (.cells #[.int .i64 fr, .int .i64 dp, .int .i64 se, .slice a ps.length cp] 24)).heap.size ≤ i) w2 v' ps' ∧ Grow w w2) := ⟨hG, hR, HG.out.trans g2⟩
  obtain ⟨a', c', rfl, _, _, -⟩ := hR
  clear hG g2 hgood HG
  have X : Hid (VarAt (w2.alloc (.cells #[.int .i64 fr', .int .i64 dp', .int .i64 se', .slice a' ps'.length c'] 24)) w2.heap.size [.int .i64 fr', .int .i64 dp', .int .i64 se', .slice a' ps'.length c'] ∧ Grow w2 (w2.alloc (.cells #[.int .i64 fr', .int .i64 dp', .int .i64 se', .slice a' ps'.length c'] 24))) := ⟨VarAt.new w2 [.int .i64 fr', .int .i64 dp', .int .i64 se', .slice a' ps'.length c'] _, (Grow.refl w2).alloc _⟩
  have hb := HR.out.1.bounds
  have hwF : IntKind.i64.wrap (fr' + D) = fr' + D := by rw [IntKind.wrap_i64]; omega
  have X2 : Hid (VarAt (w2.alloc (.cells #[.int .i64 (fr' + D), .int .i64 dp', .int .i64 se', .slice a' ps'.length c'] 24)) w2.heap.size [.int .i64 (fr' + D), .int .i64 dp', .int .i64 se', .slice a' ps'.length c'] ∧ Grow w2 (w2.alloc (.cells #[.int .i64 (fr' + D), .int .i64 dp', .int .i64 se', .slice a' ps'.length c'] 24))) := ⟨VarAt.new w2 [.int .i64 (fr' + D), .int .i64 dp', .int .i64 se', .slice a' ps'.length c'] _, (Grow.refl w2).alloc _⟩
  by_cases h0 : fr' + D < 1
  · skip
    have hd : (D == 0) = false := by rw [beq_eq_false_iff_ne]; omega
    have hck : ck (fr' + D) dp' se' ps' = (2, 0) := by rw [HR.out.1.sum D hD.1 hD.2]; rw [if_pos h0]
    have hc := fun w' (g : Grow w2 w') => check_any (fr' + D) dp' se' _ ps' w' (RdS.grow HR.out.2.1 g)
    rw [hck] at hc
    simp only [wh] at hc
    clear hck hD
    go_wp2_with fail
    refine (har _).mono ?_
    rintro e w' ⟨rfl, rfl⟩
    obtain ⟨⟨m0, m1, m2, m3⟩, f0, f1, f2, f3⟩ := X.out.1.four
    go_wp2_with fail
    refine (hc _ X2.out.2).mono ?_
    rintro e w4 ⟨rfl, g4⟩
    obtain ⟨⟨n0, n1, n2, n3⟩, -⟩ := (X2.out.1.grow g4).four
    go_wp2_with fail
    refine (lives_any w4).mono ?_
    rintro e w5 ⟨rfl, g5⟩
    go_wp2
    go_ret
    exact ⟨rfl, ((HR.out.2.2.trans X2.out.2).trans g4).trans g5⟩
  · by_cases h1 : D = 0
    · skip
      have hd : (D == 0) = true := by simp [h1]
      have hck : ck (fr' + D) dp' se' ps' = (0, 0) := by rw [HR.out.1.sum D hD.1 hD.2]; rw [if_neg h0, if_pos h1]
      have hc := fun w' (g : Grow w2 w') => check_any (fr' + D) dp' se' _ ps' w' (RdS.grow HR.out.2.1 g)
      rw [hck] at hc
      simp only [wh] at hc
      clear hck h1 hD
      go_wp2_with fail
      refine (har _).mono ?_
      rintro e w' ⟨rfl, rfl⟩
      obtain ⟨⟨m0, m1, m2, m3⟩, f0, f1, f2, f3⟩ := X.out.1.four
      go_wp2_with fail
      refine (hc _ X2.out.2).mono ?_
      rintro e w4 ⟨rfl, g4⟩
      obtain ⟨⟨n0, n1, n2, n3⟩, -⟩ := (X2.out.1.grow g4).four
      go_wp2_with fail
      refine (lives_any w4).mono ?_
      rintro e w5 ⟨rfl, g5⟩
      go_wp2
      go_ret
      exact ⟨rfl, ((HR.out.2.2.trans X2.out.2).trans g4).trans g5⟩
    · skip
      have hd : (D == 0) = false := by rw [beq_eq_false_iff_ne]; omega
      have hck : ck (fr' + D) dp' se' ps' = (9, 0) := by rw [HR.out.1.sum D hD.1 hD.2]; rw [if_neg h0, if_neg h1]
      have hc := fun w' (g : Grow w2 w') => check_any (fr' + D) dp' se' _ ps' w' (RdS.grow HR.out.2.1 g)
      rw [hck] at hc
      simp only [wh] at hc
      clear hck h1 hD
      go_wp2_with fail
      refine (har _).mono ?_
      rintro e w' ⟨rfl, rfl⟩
      obtain ⟨⟨m0, m1, m2, m3⟩, f0, f1, f2, f3⟩ := X.out.1.four
      go_wp2_with fail
      refine (hc _ X2.out.2).mono ?_
      rintro e w4 ⟨rfl, g4⟩
      obtain ⟨⟨n0, n1, n2, n3⟩, -⟩ := (X2.out.1.grow g4).four
      go_wp2_with fail
      refine (lives_any w4).mono ?_
      rintro e w5 ⟨rfl, g5⟩
      go_wp2
      go_ret
      exact ⟨rfl, ((HR.out.2.2.trans X2.out.2).trans g4).trans g5⟩
end Go.Proofs.Ytaieepbfccdmiaa
