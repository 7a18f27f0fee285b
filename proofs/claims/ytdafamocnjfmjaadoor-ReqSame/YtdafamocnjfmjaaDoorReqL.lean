/-
  The walk of the law's example. Conditions: the theorem's own.
-/
import Derived.Test.YtdafamocnjfmjaaDoorReqChk
namespace Go.Proofs.YtdafamocnjfmjaaDoor
open Go.RowKit
set_option linter.unusedVariables false
set_option linter.unusedSimpArgs false

set_option maxRecDepth 8000 in
set_option maxHeartbeats 4000000 in
theorem lives_any (w : World) (hw : WT w) : Calls Tryd.prog 14 #[] w fun e w' => e = .returned (.bool true) ∧ Grow w w' := by
  have hE : ((⟨#[119, 114, 105, 116, 101]⟩ : ByteArray).toList == (⟨#[119, 114, 105, 116, 101]⟩ : ByteArray).toList) = true := by simp
  have HW : Hid (WT w) := hw
  have HC : Hid (∀ (u : World) (a : Option Addr) (n c : Nat), WT u → n ≤ 1000000 → Calls Tryd.prog 12 #[.agg #[.int .i64 3, .int .i64 3, .int .i64 30, .int .i64 0, .slice a n c], .int .i64 4] u fun e w' => e = .returned (.int .i64 (ckE 3 3 30 0 n 4)) ∧ Grow u w') := fun u a n c hu hn => check_any u 3 3 30 0 a n c 4 hu (by decide) (by decide) hn
  have e2 : ckE 3 3 30 0 2 4 = 0 := by decide
  have e3 : ckE 3 3 30 0 3 4 = 4 := by decide
  have HN : Hid (∀ u, WT u → Calls Tryd.prog 15 #[.int .i64 3] u fun e w' => e = .returned (.string ⟨#[119, 114, 105, 116, 101]⟩) ∧ u = w') := fun u hu => name_any 3 u hu
  have HG : Hid (∀ u o, WT u → WT (World.alloc u o)) := fun u o hu => hu.grow ((Grow.refl u).alloc o)
  have HGA : Hid (∀ u o v, Grow u v → Grow u (World.alloc v o)) := fun u o v g => g.alloc o
  clear hw
  go_enter Tryd.func14, Tryd.ntmps14
  go_wp2_with fail
  have h1 := HC.out _ (some ⟨w.heap.size, 0, none⟩) 2 2 (HG.out w (.cells #[.int .u8 1, .int .u8 2] 5) HW.out) (by omega)
  rw [e2] at h1
  refine h1.mono ?_
  rintro e w1 ⟨rfl, g1⟩
  have H1 : Hid (Grow w w1 ∧ WT w1) := ⟨((Grow.refl w).alloc _).trans g1, (HG.out w _ HW.out).grow g1⟩
  clear h1 g1
  go_wp2_with fail
  have h2 := HC.out _ (some ⟨w1.heap.size, 0, none⟩) 3 3 (HG.out w1 (.cells #[.int .u8 1, .int .u8 2, .int .u8 3] 5) H1.out.2) (by omega)
  rw [e3] at h2
  refine h2.mono ?_
  rintro e w2 ⟨rfl, g2⟩
  have H2 : Hid (Grow w w2 ∧ WT w2) := ⟨(H1.out.1.alloc _).trans g2, (HG.out w1 _ H1.out.2).grow g2⟩
  clear h2 g2
  go_wp2_with fail
  refine (HN.out _ H2.out.2).mono ?_
  rintro e w3 ⟨rfl, rfl⟩
  go_wp2
  go_ret
  exact ⟨rfl, H2.out.1⟩
end Go.Proofs.YtdafamocnjfmjaaDoor
