/-
  The walk of the document's Few, and small facts. Conditions: each theorem's own.
-/
import Derived.Test.YtdafamocnjfmjaaDoorLib
import Derived.Test.YtdafamocnjfmjaaDoorAround
import Derived.Test.YtdafamocnjfmjaaDoorRows
import Derived.WalkKit
import Derived.ProofKit
import Derived.OpenShut
import Derived.Outline
import Derived.Deep.LoopGhost
import Derived.WalkLawsBesides
namespace Go.Proofs.YtdafamocnjfmjaaDoor
open Go.RowKit
set_option linter.unusedVariables false
set_option linter.unusedSimpArgs false

theorem Tryd.info5 : (Tryd.prog.info? 5).map (fun i => (i.zero, i.size, i.bytes)) = some (some (.int .u8 0), 1, 1) := by kernel_rfl

set_option maxHeartbeats 1000000 in
theorem fewB_any (sv : Value) (ss : List Int) (mi : Int) (m : Nat) (B' : Nat) (w : World) (hmi : mi = m) (hs : Rd .u8 B' w sv ss) (hm : m ≤ 1000000) :
    Calls Tryd.prog 17 #[sv, .int .i64 mi] w fun e w' => ∃ v', e = .returned v' ∧ Own .u8 w.heap.size w' v' (ss.take m) ∧ Below w.heap.size w w' := by
  obtain ⟨i0, hi, hz0, hz1, hz2⟩ := info_parts Tryd.info5
  subst hmi
  have hs' := hs.size
  have hl := hs.len
  obtain ⟨a, c, rfl, h1, h2, -⟩ := hs
  by_cases hle : ss.length ≤ m
  · have hle' : (ss.length : Int) ≤ (m : Int) := by omega
    have hsrc := hs'.src (P := Tryd.prog) Tryd.underlying22
    rw [List.take_of_length_le hle]
    go_enter Tryd.func17, Tryd.ntmps17
    go_wp2_with (at_builtin; refine wpList_app rfl (.tmp 6) (.tmp 12) 22 22 rfl i0 (.int .u8 0) 1 Tryd.underlying22 hi hz0 hz1 hz2 rfl rfl rfl (Own.nil .u8 w.heap.size w _) hsrc (by simp only [maxLen, List.length_nil]; omega) (by simp only [List.length_nil]; omega) (Nat.le_refl _) ?_)
    intro v3 w3 ho3 hb3
    go_wp2
    go_ret
    exact ⟨_, rfl, by simpa using ho3, hb3⟩
  · have hle' : ¬ (ss.length : Int) ≤ (m : Int) := by omega
    have hle'' : (m : Int) < (ss.length : Int) := by omega
    have hsrc := (hs'.take m (by omega)).src (P := Tryd.prog) Tryd.underlying22
    have hll : (ss.take m).length ≤ 1000000 := by rw [List.length_take]; omega
    go_enter Tryd.func17, Tryd.ntmps17
    go_wp2_with (at_builtin; refine wpList_app rfl (.tmp 6) (.tmp 12) 22 22 rfl i0 (.int .u8 0) 1 Tryd.underlying22 hi hz0 hz1 hz2 rfl rfl rfl (Own.nil .u8 w.heap.size w _) hsrc (by simp only [maxLen, List.length_nil]; omega) (by simp only [List.length_nil]; omega) (Nat.le_refl _) ?_)
    intro v3 w3 ho3 hb3
    go_wp2
    go_ret
    exact ⟨_, rfl, by simpa using ho3, hb3⟩

theorem rd_new (k : IntKind) (n : Int) (e : TypeId) (w : World) : Rd k (w.heap.size + 1) (w.alloc (.cells #[.int k n] e)) (.slice (some ⟨w.heap.size, 0, none⟩) 1 1) [n] := by
  refine ⟨_, 1, rfl, by simp, by simp [maxLen], fun i hi => ⟨w.heap.size, 0, rfl, by omega, ?_⟩⟩
  obtain rfl : i = 0 := by simp at hi; omega
  refine (World.cell?_alloc_new w _ _ _).trans ?_
  simp
end Go.Proofs.YtdafamocnjfmjaaDoor
