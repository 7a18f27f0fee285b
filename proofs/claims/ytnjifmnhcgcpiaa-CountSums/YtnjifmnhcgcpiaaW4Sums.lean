/-
  The walk of the law CountSums. Conditions: each theorem's own.
-/
import Derived.Test.YtnjifmnhcgcpiaaCntSum
namespace Go.Proofs.Ytnjifmnhcgcpiaa
open Go.RowKit
set_option linter.unusedVariables false
set_option linter.unusedSimpArgs false

set_option maxHeartbeats 4000000 in
theorem countSums_walk (v : Value) (cs : List C6) (w : World) (h : RdC w v cs) (hok : ∀ c ∈ cs, C6.Ok c) :
    Calls Try.prog 4 #[v] w fun e w' => e = .returned (.bool true) ∧ Below w.heap.size w w' := by
  obtain ⟨a, cp, rfl, h1, h2, -⟩ := id h
  unfold maxLen at h2
  have hz := fun w' => csum_any (.slice none 0 0) [] w' (RdC.nil _ _ _ (Nat.zero_le _)) (fun c hc => by cases hc) (Nat.zero_le _)
  have ez : sumC [] = ⟨0, 0, 0, 0, 0, 0⟩ := rfl
  rw [ez] at hz
  clear ez
  by_cases hle : cs.length ≤ 6
  · have hle' : (cs.length : Int) ≤ 6 := by omega
    have hmin : min (cs.length : Int) 6 = (cs.length : Int) := by omega
    have hs := fun w' (g : Grow w w') => csum_any _ cs w' (h.grow g) hok (by omega)
    have hr := fun w' (g : Grow w w') => rsum_any _ cs w' (h.grow g) hok (by omega)
    generalize sumC cs = D at hs hr
    clear h hok
    go_enter Try.func4, Try.ntmps4
    go_wp2_with fail
    refine (hs w (Grow.refl _)).mono ?_
    rintro e w1 ⟨rfl, g1⟩
    go_wp2_with fail
    refine (hr w1 g1).mono ?_
    rintro e w2 ⟨rfl, g2⟩
    go_wp2_with fail
    refine (hz w2).mono ?_
    rintro e w3 ⟨rfl, g3⟩
    go_wp2_with fail
    refine (lives_any w3).mono ?_
    rintro e w4 ⟨rfl, g4⟩
    go_wp2
    go_ret
    exact ⟨rfl, ((g1.trans g2).trans g3).trans g4⟩
  · have hle' : ¬ (cs.length : Int) ≤ 6 := by omega
    have hlt' : (6 : Int) < (cs.length : Int) := by omega
    have hmin : min (cs.length : Int) 6 = 6 := by omega
    have h' := h.take 6 (by omega)
    have hok' : ∀ c ∈ cs.take 6, C6.Ok c := fun c hc => hok c (List.mem_of_mem_take hc)
    have hs := fun w' (g : Grow w w') => csum_any _ (cs.take 6) w' (h'.grow g) hok' (by rw [List.length_take]; omega)
    have hr := fun w' (g : Grow w w') => rsum_any _ (cs.take 6) w' (h'.grow g) hok' (by rw [List.length_take]; omega)
    generalize sumC (cs.take 6) = D at hs hr
    clear h hok h' hok'
    go_enter Try.func4, Try.ntmps4
    go_wp2_with fail
    refine (hs w (Grow.refl _)).mono ?_
    rintro e w1 ⟨rfl, g1⟩
    go_wp2_with fail
    refine (hr w1 g1).mono ?_
    rintro e w2 ⟨rfl, g2⟩
    go_wp2_with fail
    refine (hz w2).mono ?_
    rintro e w3 ⟨rfl, g3⟩
    go_wp2_with fail
    refine (lives_any w3).mono ?_
    rintro e w4 ⟨rfl, g4⟩
    go_wp2
    go_ret
    exact ⟨rfl, ((g1.trans g2).trans g3).trans g4⟩
end Go.Proofs.Ytnjifmnhcgcpiaa
