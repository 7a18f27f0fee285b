/-
  What follows of the check: what is taken of bytes with their check, and of such with one byte turned. Conditions: each theorem's own.
-/
import Derived.Test.YtcmehefaceaioaaDoc
namespace Go.Proofs.Ytcmehefaceaioaa
open Go.RowKit
set_option linter.unusedVariables false
set_option linter.unusedSimpArgs false

theorem xor_ne {x b : Int} (hx0 : 0 ≤ x) (hb0 : 0 < b) : ((x.toNat ^^^ b.toNat : Nat) : Int) ≠ x := by
  intro h
  have h1 : x.toNat ^^^ b.toNat = x.toNat := by omega
  have h2 : x.toNat ^^^ (x.toNat ^^^ b.toNat) = 0 := by rw [h1, Nat.xor_self]
  rw [← Nat.xor_assoc, Nat.xor_self, Nat.zero_xor] at h2
  omega

theorem taken_append (ys t : List Int) (ht : t.length = 4) : taken (ys ++ t) = if t = le 4 (chk 0 ys : Nat) then (ys, 0) else ([], 9) := by
  have hl : (ys ++ t).length = ys.length + 4 := by rw [List.length_append, ht]
  unfold taken
  rw [if_neg (by omega), hl, Nat.add_sub_cancel, List.drop_left, List.take_left]

theorem taken_turned {ys : List Int} (ho : Oct ys) {k : Nat} (hk : k < (ys ++ le 4 (chk 0 ys : Nat)).length) {y : Int} (hy0 : 0 ≤ y) (hy : y < 256) (hne : y ≠ (ys ++ le 4 (chk 0 ys : Nat)).getD k 0) :
    taken ((ys ++ le 4 (chk 0 ys : Nat)).set k y) = ([], 9) := by
  have h4 : (le 4 (chk 0 ys : Nat)).length = 4 := le_length _ _
  by_cases hkn : k < ys.length
  · rw [List.set_append_left _ _ hkn, taken_append _ _ h4, if_neg]
    intro e
    have e' := le_inj 4 (by omega) (by have := chk_lt 0 ys; omega) (by omega) (by have := chk_lt 0 (ys.set k y); omega) e
    refine chk_set ho hkn hy0 hy ?_ (by omega)
    intro e2
    apply hne
    rw [e2]
    simp [List.getD, List.getElem?_append_left hkn]
  · rw [List.set_append_right _ _ (by omega), taken_append _ _ (by rw [List.length_set]; exact h4), if_neg]
    intro e
    apply hne
    rw [List.length_append, h4] at hk
    have hj : k - ys.length < (le 4 (chk 0 ys : Nat)).length := by rw [h4]; omega
    have e2 : ((le 4 (chk 0 ys : Nat)).set (k - ys.length) y).getD (k - ys.length) 0 = (le 4 (chk 0 ys : Nat)).getD (k - ys.length) 0 := by rw [e]
    have e3 : ((le 4 (chk 0 ys : Nat)).set (k - ys.length) y).getD (k - ys.length) 0 = y := by simp [List.getD, hj]
    rw [← e3, e2]
    simp [List.getD, List.getElem?_append_right (Nat.le_of_not_lt hkn)]

theorem isGood_eq (L : List Int) (m : Nat) (hm : L.length = m + 4) : isGood L = decide (L.drop m = le 4 (chk 0 (L.take m) : Nat)) := by
  unfold isGood
  rw [hm, Nat.add_sub_cancel]
  by_cases h : L.drop m = le 4 (chk 0 (L.take m) : Nat)
  · rw [decide_eq_true h]
    refine decide_eq_true ⟨by omega, ?_⟩
    rw [← h, List.take_append_drop]
  · rw [decide_eq_false h]
    refine decide_eq_false fun e => h ?_
    have e2 : L.take m ++ le 4 (chk 0 (L.take m) : Nat) = L.take m ++ L.drop m := by rw [List.take_append_drop]; exact e.2
    exact (List.append_cancel_left e2).symm
theorem taken_eq (L : List Int) (m : Nat) (hm : L.length = m + 4) : taken L = if L.drop m = le 4 (chk 0 (L.take m) : Nat) then (L.take m, 0) else ([], 9) := by
  unfold taken
  rw [if_neg (by omega), hm, Nat.add_sub_cancel]
end Go.Proofs.Ytcmehefaceaioaa
