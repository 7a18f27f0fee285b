/-
  What the laws of stage 9 lean on: lists of cells of which one, or none, is later; a turned cell is not opened. Conditions: each theorem's own.
-/
import Derived.Test.YtpkoiogdkaklfaaDevTurn
import Derived.Test.YtpkoiogdkaklfaaDevWr
import Derived.Test.YtpkoiogdkaklfaaMk16
namespace Go.Proofs.Ytpkoiogdkaklfaa
open Go.RowKit
set_option linter.unusedVariables false
set_option linter.unusedSimpArgs false

/-- none is later -/
def NoneAt (lat : List (List Int)) : Prop := ∀ j, lat.getD j [] = []
/-- the one at i alone is later: Z -/
def OneAt (lat : List (List Int)) (i : Nat) (Z : List Int) : Prop := (Z ≠ [] ∧ ∀ j, j ≠ i → lat.getD j [] = []) ∧ lat.getD i [] = Z
theorem NoneAt.new (n : Nat) : NoneAt (List.replicate n []) := fun j => by
  simp only [List.getD, List.getElem?_replicate]
  split <;> rfl
theorem OneAt.put {lat : List (List Int)} (h : NoneAt lat) {i : Nat} (hi : i < lat.length) {Z : List Int} (hz : Z ≠ []) : OneAt (lat.set i Z) i Z :=
  ⟨⟨hz, fun j hj => by rw [getD_set_ne _ _ _ hj]; exact h j⟩, by rw [getD_set _ _ _ _ _ hi, if_pos rfl]⟩
theorem OneAt.del {lat : List (List Int)} {i : Nat} {Z : List Int} (h : OneAt lat i Z) : NoneAt (lat.set i []) := fun j => by
  by_cases e : j = i
  · subst e
    by_cases hj : j < lat.length
    · rw [getD_set _ _ _ _ _ hj, if_pos rfl]
    · simp only [List.getD]
      rw [List.getElem?_eq_none (by rw [List.length_set]; omega)]; rfl
  · rw [getD_set_ne _ _ _ e]; exact h.1.2 j e
theorem OneAt.ne {lat : List (List Int)} {i : Nat} {Z : List Int} (h : OneAt lat i Z) : lat.getD i [] ≠ [] := by rw [h.2]; exact h.1.1
theorem laterTo_one {lat : List (List Int)} {i : Nat} {Z : List Int} (h : OneAt lat i Z) {f t : Int} (hf : f ≤ i) (ht : (i : Int) < t) : ∀ n, laterTo lat f t n = if i < n then [i] else []
  | 0 => rfl
  | n + 1 => by
    by_cases e : n = i
    · subst e
      rw [laterTo_yes (isLater_eq.2 ⟨hf, ht, h.ne⟩), laterTo_one h hf ht n, if_neg (Nat.lt_irrefl _), if_pos (Nat.lt_succ_self _)]; rfl
    · rw [laterTo_no (by rw [← Bool.not_eq_true, isLater_eq]; exact fun hh => hh.2.2 (h.1.2 n e)), laterTo_one h hf ht n]
      by_cases hi : i < n
      · rw [if_pos hi, if_pos (by omega)]
      · rw [if_neg hi, if_neg (by omega)]
theorem laterL_one {lat : List (List Int)} {i : Nat} {Z : List Int} (h : OneAt lat i Z) (hi : i < lat.length) {f t : Int} (hf : f ≤ i) (ht : (i : Int) < t) : laterL lat f t = [i] := by
  unfold laterL
  rw [laterTo_one h hf ht, if_pos hi]
theorem laterL_none {lat : List (List Int)} (h : NoneAt lat) (f t : Int) : laterL lat f t = [] := by
  unfold laterL laterTo
  rw [List.filter_eq_nil_iff]
  intro i _ hh
  exact (isLater_eq.1 hh).2.2 (h i)

theorem writeE_ok {las : List (List Int)} {i : Nat} (hi : i < las.length) : writeE las i 16 = 0 := by
  unfold writeE
  rw [if_pos ⟨by omega, by omega⟩, if_pos rfl]
theorem writeL_ok {las lat : List (List Int)} {i : Nat} {zs : List Int} (hi : i < las.length) (hz : zs.length = 16) : writeL las lat i zs = lat.set i (zs ++ le 4 (chk 0 zs : Nat)) := by
  unfold writeL
  rw [if_pos (by rw [hz]; exact writeE_ok hi)]; rfl

/-- a cell of which one byte is another one is not opened -/
theorem opened_turned {os : List Int} (hl : os.length = 16) (ho : Oct os) {j : Nat} (hj : j < 20) {y : Int} (hy0 : 0 < y) (hy : y < 256) : opened (turned (os ++ le 4 (chk 0 os : Nat)) j y) = ([], 9) := by
  have h20 : (os ++ le 4 (chk 0 os : Nat)).length = 20 := by rw [List.length_append, le_length, hl]
  have hoz := oct_seal ho
  have hx := hoz.getD j
  have hb := xor_bd hx ⟨by omega, hy⟩
  have hne : bits .xor .u8 ((os ++ le 4 (chk 0 os : Nat)).getD j 0) y ≠ (os ++ le 4 (chk 0 os : Nat)).getD j 0 := by
    rw [u8_xor _ _ hx.1 hx.2 (by omega) hy]
    exact xor_ne hx.1 hy0
  unfold opened turned
  rw [if_pos (by rw [List.length_set]; exact h20)]
  exact taken_turned ho (by omega) hb.1 hb.2 hne
end Go.Proofs.Ytpkoiogdkaklfaa
