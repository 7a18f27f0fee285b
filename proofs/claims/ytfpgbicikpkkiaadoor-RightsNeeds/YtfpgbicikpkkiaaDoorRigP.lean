/-
  The walk of rights.Parse. Conditions: the theorem's own.
-/
import Derived.Test.YtfpgbicikpkkiaaDoorRigN
namespace Go.Proofs.YtfpgbicikpkkiaaDoor
open Go.RowKit
set_option linter.unusedVariables false
set_option linter.unusedSimpArgs false

/-- what Parse tells: the rights, the error -/
def parV (l : List ByteArray) : Nat := if allN l = true then parS l else 0
def parE (l : List ByteArray) : Int := if allN l = true then 0 else 2
theorem parV_yes {l : List ByteArray} (h : allN l = true) : parV l = parS l := if_pos h
theorem parE_yes {l : List ByteArray} (h : allN l = true) : parE l = 0 := if_pos h
theorem parV_no {l : List ByteArray} (h : allN l = false) : parV l = 0 := if_neg (by rw [h]; exact Bool.false_ne_true)
theorem parE_no {l : List ByteArray} (h : allN l = false) : parE l = 2 := if_neg (by rw [h]; exact Bool.false_ne_true)
theorem parV_lt (l : List ByteArray) : parV l < 16 := by
  unfold parV
  split
  · exact parS_lt l
  · omega

set_option maxHeartbeats 2000000 in
theorem parse_any (w : World) (p : Nat → Prop) (v : Value) (ls : List ByteArray) (hw : WT w) (h : RdV Value.string ⟨#[]⟩ p w v ls) :
    Calls Tryd.prog 20 #[v] w fun e w' => e = .returned (.tuple #[.int .i64 (parV ls), .int .i64 (parE ls)]) ∧ Grow w w' := by
  have hl := h.len
  unfold maxLen at hl
  have HR : Hid (RdV Value.string ⟨#[]⟩ p w v ls ∧ WT w) := ⟨h, hw⟩
  obtain ⟨a, c, rfl⟩ := h.shape
  clear h hw
  go_enter Tryd.func20, Tryd.ntmps20
  go_wp2
  go_loopg [4, 10] ls.length (fun k x i wr => ∃ j : Nat, k = ls.length - j ∧ j ≤ ls.length ∧ x = .int .i64 (parS (ls.take j)) ∧ i = .int .i64 j ∧ Hid (Grow w wr ∧ allN (ls.take j) = true))
  case atStart => exact ⟨0, rfl, Nat.zero_le _, rfl, rfl, Grow.refl _, rfl⟩
  case round =>
    obtain ⟨j, hk, hj, rfl, rfl, HG⟩ := hrel
    by_cases hlt : j < ls.length
    · have hlt' : (j : Int) < (ls.length : Int) := by omega
      obtain ⟨b1, o1, e1, -, hc1⟩ := (HR.out.1.grow HG.out.1).addr (by omega)
      have f1 := hc1 j hlt
      have hr := fun s => right_any s wr (HR.out.2.grow HG.out.1)
      have q2 := parS_lt (ls.take j)
      have HT : Hid (parS (ls.take (j + 1)) = parS (ls.take j) ||| rg (ls.getD j ⟨#[]⟩)) := parS_take ls ⟨#[]⟩ j hlt
      have HA : Hid (allN (ls.take (j + 1)) = (allN (ls.take j) && decide (rg (ls.getD j ⟨#[]⟩) ≠ 0))) := allN_take ls ⟨#[]⟩ j hlt
      have HX : Hid (rg (ls.getD j ⟨#[]⟩) = 0 → allN ls = false) := allN_not ls ⟨#[]⟩ j hlt
      have HJ : Hid (j < ls.length ∧ gk = ls.length - j) := ⟨hlt, hk⟩
      have hry := hr (ls.getD j ⟨#[]⟩)
      have q1 := rg_lt (ls.getD j ⟨#[]⟩)
      generalize ls.getD j ⟨#[]⟩ = y at f1 HT HA HX hry q1
      generalize parS (ls.take j) = x at HT q2
      generalize rg y = q at HT HA HX hry q1
      clear hc1 hk hlt hr hj
      subst e1
      by_cases h0 : q = 0
      · obtain rfl : q = 0 := h0
        have HE : Hid (parV ls = 0 ∧ parE ls = 2) := ⟨parV_no (HX.out rfl), parE_no (HX.out rfl)⟩
        go_wp2_with fail
        refine hry.mono ?_
        rintro e w1 ⟨rfl, rfl⟩
        go_wp2
        go_ret2
        exact ⟨by rw [HE.out.1, HE.out.2]; rfl, HG.out.1⟩
      · have h0' : ¬ (q : Int) = 0 := by omega
        have HQ : Hid (q ≠ 0) := h0
        clear h0
        have HB : Hid (∀ z ∈ [x, q], z < 16) := by
          intro z hz
          simp only [List.mem_cons, List.not_mem_nil, or_false] at hz
          rcases hz with rfl | rfl <;> assumption
        clear q1 q2
        go_wp2_with fail
        refine hry.mono ?_
        rintro e w1 ⟨rfl, rfl⟩
        go_wp2_with fail
        refine (of_any _ _ _ _ (of_lit2 wr 23 x q) HB.out).mono ?_
        rintro e w1 ⟨rfl, rfl⟩
        go_wp2
        go_roundg (ls.length - (j + 1))
        case measure => have := HJ.out; omega
        case rel =>
          refine ⟨j + 1, rfl, HJ.out.1, ?_, by go_num, HG.out.1.alloc _, ?_⟩
          · rw [HT.out]; simp [orL]
          · rw [HA.out, HG.out.2, decide_eq_true HQ.out]; rfl
    · obtain rfl : j = ls.length := by omega
      have hA : allN ls = true := by have := HG.out.2; rwa [List.take_length] at this
      have HE : Hid (parV ls = parS (ls.take ls.length) ∧ parE ls = 0) := ⟨by rw [List.take_length]; exact parV_yes hA, parE_yes hA⟩
      clear hA hlt hj hk
      go_wp2
      go_ret2
      exact ⟨by rw [HE.out.1, HE.out.2]; rfl, HG.out.1⟩
end Go.Proofs.YtfpgbicikpkkiaaDoor
