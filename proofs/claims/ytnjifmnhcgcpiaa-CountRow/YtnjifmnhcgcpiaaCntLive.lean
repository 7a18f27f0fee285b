/-
  The walks of the law's example and of the kinds' names. Conditions: each theorem's own.
-/
import Derived.Test.YtnjifmnhcgcpiaaCntAdd
namespace Go.Proofs.Ytnjifmnhcgcpiaa
open Go.RowKit
set_option linter.unusedVariables false
set_option linter.unusedSimpArgs false

set_option maxHeartbeats 4000000 in
theorem lives_any (w : World) : Calls Try.prog 13 #[] w fun e w' => e = .returned (.bool true) ∧ Grow w w' := by
  have hU : (⟨18446744073709551614, 0, 0, 0, 0, 0⟩ : C6).Ok ∧ U 5 := by
    unfold C6.Ok U; dsimp only; omega
  have HU : Hid ((⟨18446744073709551614, 0, 0, 0, 0, 0⟩ : C6).Ok ∧ U 5) := hU
  clear hU
  go_enter Try.func13, Try.ntmps13
  go_wp2_with fail
  refine (cadd_any ⟨18446744073709551614, 0, 0, 0, 0, 0⟩ 0 5 w HU.out.1 HU.out.2).mono ?_
  have e1 : addC ⟨18446744073709551614, 0, 0, 0, 0, 0⟩ 0 5 = ⟨18446744073709551615, 0, 0, 0, 0, 0⟩ := rfl
  rw [e1]
  rintro e w1 ⟨rfl, g1⟩
  clear e1
  go_wp2
  go_ret
  exact ⟨rfl, g1.alloc _⟩

/-- a kind's name -/
def nameB (k : Int) : ByteArray := if k = 0 then ⟨#[104, 105, 116, 115]⟩ else if k = 1 then ⟨#[109, 105, 115, 115, 101, 115]⟩ else if k = 2 then ⟨#[101, 118, 105, 99, 116, 115]⟩ else if k = 3 then ⟨#[114, 101, 97, 100, 115]⟩ else if k = 4 then ⟨#[119, 114, 105, 116, 101, 115]⟩ else if k = 5 then ⟨#[102, 97, 105, 108, 115]⟩ else ⟨#[]⟩
theorem nameB_none {k : Int} (h : ¬ (0 ≤ k ∧ k < 6)) : nameB k = ⟨#[]⟩ := by
  unfold nameB
  rw [if_neg (by omega), if_neg (by omega), if_neg (by omega), if_neg (by omega), if_neg (by omega), if_neg (by omega)]

set_option maxHeartbeats 4000000 in
theorem name_any (k : Int) (w : World) : Calls Try.prog 17 #[.int .i64 k] w fun e w' => e = .returned (.string (nameB k)) ∧ w = w' := by
  by_cases h : 0 ≤ k ∧ k < 6
  · rcases kinds h with rfl | rfl | rfl | rfl | rfl | rfl
    all_goals
      clear h
      go_enter Try.func17, Try.ntmps17
      go_wp2
      go_ret
      exact ⟨rfl, rfl⟩
  · rw [nameB_none h]
    have h0 : (k == 0) = false := by simp; omega
    have h1 : (k == 1) = false := by simp; omega
    have h2 : (k == 2) = false := by simp; omega
    have h3 : (k == 3) = false := by simp; omega
    have h4 : (k == 4) = false := by simp; omega
    have h5 : (k == 5) = false := by simp; omega
    clear h
    go_enter Try.func17, Try.ntmps17
    go_wp2
    go_ret
    exact ⟨rfl, rfl⟩
end Go.Proofs.Ytnjifmnhcgcpiaa
