/-
  The walks of the law's own example, and of RightsMay, RightsNeeds. Conditions: each theorem's own.
-/
import Derived.Test.YtfpgbicikpkkiaaDoorRigF
namespace Go.Proofs.YtfpgbicikpkkiaaDoor
open Go.RowKit
set_option linter.unusedVariables false
set_option linter.unusedSimpArgs false

theorem lit_sets (w : World) (t : TypeId) : RdV natI 0 (fun i => i = w.heap.size) (w.alloc (.cells #[.int .i64 1, .int .i64 4] t)) (.slice (some ⟨w.heap.size, 0, none⟩) 2 2) [1, 4] := of_lit2 w t 1 4
theorem lit_texts (w : World) (t : TypeId) : RdV Value.string ⟨#[]⟩ (fun i => i = w.heap.size) (w.alloc (.cells #[.string ⟨#[115, 101, 101]⟩, .string ⟨#[107, 101, 101, 112]⟩] t)) (.slice (some ⟨w.heap.size, 0, none⟩) 2 2) [nm 0, nm 2] :=
  ⟨_, 2, rfl, Nat.le_refl _, by decide, fun i hi => ⟨w.heap.size, 0, rfl, rfl, by
    rw [Nat.zero_add]
    refine (World.cell?_alloc_new w _ _ i).trans ?_
    rcases (show i = 0 ∨ i = 1 by simp at hi; omega) with rfl | rfl <;> rfl⟩⟩

set_option maxHeartbeats 1000000 in
theorem lives_any (w : World) (hw : WT w) : Calls Tryd.prog 11 #[] w fun e w' => e = .returned (.bool true) ∧ Grow w w' := by
  have g1 : Grow w (w.alloc (.cells #[.int .i64 1, .int .i64 4] 23)) := (Grow.refl w).alloc _
  have hof : Calls Tryd.prog 15 #[.slice (some ⟨w.heap.size, 0, none⟩) 2 2] (w.alloc (.cells #[.int .i64 1, .int .i64 4] 23)) fun e w' => e = .returned (.int .i64 5) ∧ (w.alloc (.cells #[.int .i64 1, .int .i64 4] 23)) = w' := of_any _ _ _ _ (lit_sets w 23) (by decide)
  have hn : ∀ u, WT u → Calls Tryd.prog 19 #[.int .i64 5] u fun e w' => ∃ v, e = .returned v ∧ OwnV Value.string ⟨#[]⟩ (fun i => u.heap.size ≤ i) w' v (nmL 5 4) ∧ Grow u w' := fun u hu => names_any 5 u hu (by omega)
  have HN := hn _ (hw.grow g1)
  clear hn
  go_enter Tryd.func11, Tryd.ntmps11
  go_wp2_with fail
  refine hof.mono ?_
  rintro e w1 ⟨rfl, rfl⟩
  generalize w.alloc (.cells #[.int .i64 1, .int .i64 4] 23) = W1 at *
  clear hof
  go_wp2_with fail
  refine HN.mono ?_
  rintro e w2 ⟨v, rfl, ho, g2⟩
  have g3 : Grow w2 (w2.alloc (.cells #[.string ⟨#[115, 101, 101]⟩, .string ⟨#[107, 101, 101, 112]⟩] 9)) := (Grow.refl w2).alloc _
  have hs := samet_any _ _ _ _ _ _ _ (ho.rd.grow g3) (lit_texts w2 9)
  rw [decide_eq_true nmL_five] at hs
  have HG : Hid (Grow w (w2.alloc (.cells #[.string ⟨#[115, 101, 101]⟩, .string ⟨#[107, 101, 101, 112]⟩] 9))) := (g1.trans g2).trans g3
  obtain ⟨a3, c3, rfl⟩ := ho.shape
  clear HN ho g2 g3 g1
  generalize (nmL 5 4).length = L at *
  go_wp2_with fail
  refine hs.mono ?_
  rintro e w3 ⟨rfl, g4⟩
  go_wp2
  go_ret
  exact ⟨rfl, HG.out.trans g4⟩

set_option maxHeartbeats 2000000 in
theorem rightsMay_walk (n : Int) (w : World) (hw : WT w) (hn : (Lit.int .i64 n).wf = true) : Calls Tryd.prog 3 #[.int .i64 n] w fun e w' => e = .returned (.bool true) ∧ Grow w w' := by
  have HW : Hid (WT w) := hw
  have h1 := fun u => may_any n u hn
  have h2 := fun u => rmay_any n u hn
  have m0 : ∀ u, Calls Tryd.prog 8 #[.int .i64 0] u fun e w' => e = .returned (.bool true) ∧ Grow u w' := fun u => may_any 0 u (by decide)
  have m15 : ∀ u, Calls Tryd.prog 8 #[.int .i64 15] u fun e w' => e = .returned (.bool true) ∧ Grow u w' := fun u => may_any 15 u (by decide)
  have m16 : ∀ u, Calls Tryd.prog 8 #[.int .i64 16] u fun e w' => e = .returned (.bool false) ∧ Grow u w' := fun u => may_any 16 u (by decide)
  have mn : ∀ u, Calls Tryd.prog 8 #[.int .i64 (-1)] u fun e w' => e = .returned (.bool false) ∧ Grow u w' := fun u => may_any (-1) u (by decide)
  generalize decide (0 ≤ n ∧ n ≤ 15) = b at h1 h2
  clear hw
  go_enter Tryd.func3, Tryd.ntmps3
  go_wp2_with fail
  refine (h1 w).mono ?_
  rintro e w1 ⟨rfl, g1⟩
  have G1 : Hid (Grow w w1) := g1
  go_wp2_with fail
  refine (h2 w1).mono ?_
  rintro e w2 ⟨rfl, rfl⟩
  clear h1 h2 g1
  go_wp2_with fail
  refine (m0 w1).mono ?_
  rintro e w2 ⟨rfl, g2⟩
  have G2 : Hid (Grow w w2) := G1.out.trans g2
  clear g2 G1
  go_wp2_with fail
  refine (m15 w2).mono ?_
  rintro e w3 ⟨rfl, g3⟩
  have G3 : Hid (Grow w w3) := G2.out.trans g3
  clear g3 G2
  go_wp2_with fail
  refine (m16 w3).mono ?_
  rintro e w4 ⟨rfl, g4⟩
  have G4 : Hid (Grow w w4) := G3.out.trans g4
  clear g4 G3
  go_wp2_with fail
  refine (mn w4).mono ?_
  rintro e w5 ⟨rfl, g5⟩
  have G5 : Hid (Grow w w5) := G4.out.trans g5
  clear g5 G4
  go_wp2_with fail
  refine (all_any w5).mono ?_
  rintro e w6 ⟨rfl, g6⟩
  have G6 : Hid (Grow w w6) := G5.out.trans g6
  clear g6 G5
  go_wp2_with fail
  refine (lives_any w6 (HW.out.grow G6.out)).mono ?_
  rintro e w7 ⟨rfl, g7⟩
  go_wp2
  go_ret
  exact ⟨rfl, G6.out.trans g7⟩
end Go.Proofs.YtfpgbicikpkkiaaDoor
