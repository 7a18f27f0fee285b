/-
  What a barrier and a crash leave as it was, and what they leave none of. Conditions: each theorem's own.
-/
import Derived.Test.YtpkoiogdkaklfaaDevMath
import Derived.Test.YtpkoiogdkaklfaaDev
namespace Go.Proofs.Ytpkoiogdkaklfaa
open Go.RowKit
set_option linter.unusedVariables false
set_option linter.unusedSimpArgs false

theorem set_nil (lat : List (List Int)) (x i : Nat) (h : i = x ∨ lat.getD i [] = []) : (lat.set x []).getD i [] = [] := by
  by_cases e : i = x
  · subst e
    by_cases hj : i < lat.length
    · rw [getD_set _ _ _ _ _ hj, if_pos rfl]
    · simp only [List.getD]
      rw [List.getElem?_eq_none (by rw [List.length_set]; omega)]; rfl
  · rw [getD_set_ne _ _ _ e]
    exact h.elim (fun e' => absurd e' e) id
theorem barL_nil : ∀ (l : List Nat) (d : List (List Int) × List (List Int)) (i : Nat), (i ∈ l ∨ d.2.getD i [] = []) → (barL d l).2.getD i [] = []
  | [], d, i, h => h.elim (fun hh => by cases hh) id
  | x :: l, d, i, h => by
    refine barL_nil l (stepB d x) i ?_
    rcases h with h | h
    · rcases List.mem_cons.1 h with e | e
      · exact .inr (set_nil _ _ _ (.inl e))
      · exact .inl e
    · exact .inr (set_nil _ _ _ (.inr h))
theorem crashL_nil : ∀ (l : List Nat) (d : (List (List Int) × List (List Int)) × List Bool) (i : Nat), (i ∈ l ∨ d.1.2.getD i [] = []) → (crashL d l).1.2.getD i [] = []
  | [], d, i, h => h.elim (fun hh => by cases hh) id
  | x :: l, d, i, h => by
    refine crashL_nil l (stepC d x) i ?_
    rcases h with h | h
    · rcases List.mem_cons.1 h with e | e
      · exact .inr (set_nil _ _ _ (.inl e))
      · exact .inl e
    · exact .inr (set_nil _ _ _ (.inr h))
theorem laterL_empty {lat : List (List Int)} {f t : Int} (h : ∀ i : Nat, f ≤ (i : Int) → (i : Int) < t → lat.getD i [] = []) : laterL lat f t = [] := by
  unfold laterL laterTo
  rw [List.filter_eq_nil_iff]
  intro i _ hh
  have := isLater_eq.1 hh
  exact this.2.2 (h i this.1 this.2.1)
theorem later_or (lat : List (List Int)) (A C i : Nat) (h1 : (A : Int) ≤ (i : Int)) (h2 : (i : Int) < (C : Int)) : i ∈ laterL lat A C ∨ lat.getD i [] = [] := by
  by_cases h : lat.getD i [] = []
  · exact .inr h
  · refine .inl (mem_laterL.2 ⟨?_, h1, h2, h⟩)
    by_cases hi : i < lat.length
    · exact hi
    · exact absurd (by simp [List.getD, List.getElem?_eq_none (Nat.le_of_not_lt hi)]) h
theorem readL_same {las lat las' lat' : List (List Int)} {i : Nat} (h1 : las'.getD i [] = las.getD i []) (h2 : lat'.getD i [] = lat.getD i []) (h3 : las'.length = las.length) (h4 : lat'.length = lat.length) : readL las' lat' i = readL las lat i ∧ lastingL las' i = lastingL las i := by
  have e : lastingL las' i = lastingL las i := by unfold lastingL; rw [h3]; simp only [Int.toNat_natCast, h1]
  refine ⟨?_, e⟩
  unfold readL
  rw [e, h4]
  simp only [Int.toNat_natCast, h2]
theorem bar_apart {las lat : List (List Int)} (hl : lat.length = las.length) (h8 : las.length = 8) (A C : Nat) : (barL (las, lat) (laterL lat A C)).1.length = 8 ∧ laterL (barL (las, lat) (laterL lat A C)).2 A C = [] ∧ ∀ i : Nat, i < 8 → ¬ (A ≤ i ∧ i < C) → readL (barL (las, lat) (laterL lat A C)).1 (barL (las, lat) (laterL lat A C)).2 i = readL las lat i ∧ lastingL (barL (las, lat) (laterL lat A C)).1 i = lastingL las i := by
  have hb := barL_len (laterL lat A C) (las, lat)
  refine ⟨hb.1.trans h8, laterL_empty (fun i h1 h2 => barL_nil _ _ _ (later_or lat A C i h1 h2)), fun i hi hn => ?_⟩
  have hni : i ∉ laterL lat A C := fun hm => by have := mem_laterL.1 hm; omega
  have ho := barL_out (laterL lat A C) (las, lat) i hni
  exact readL_same ho.1 ho.2 hb.1 hb.2
theorem crash_apart {las lat : List (List Int)} (hl : lat.length = las.length) (h8 : las.length = 8) (ks : List Bool) (A C : Nat) : (crashL ((las, lat), ks) (laterL lat A C)).1.1.length = 8 ∧ laterL (crashL ((las, lat), ks) (laterL lat A C)).1.2 A C = [] ∧ ∀ i : Nat, i < 8 → ¬ (A ≤ i ∧ i < C) → readL (crashL ((las, lat), ks) (laterL lat A C)).1.1 (crashL ((las, lat), ks) (laterL lat A C)).1.2 i = readL las lat i ∧ lastingL (crashL ((las, lat), ks) (laterL lat A C)).1.1 i = lastingL las i := by
  have hb := crashL_len (laterL lat A C) ((las, lat), ks)
  refine ⟨hb.1.trans h8, laterL_empty (fun i h1 h2 => crashL_nil _ _ _ (later_or lat A C i h1 h2)), fun i hi hn => ?_⟩
  have hni : i ∉ laterL lat A C := fun hm => by have := mem_laterL.1 hm; omega
  have ho := crashL_out (laterL lat A C) ((las, lat), ks) i hni
  exact readL_same ho.1 ho.2 hb.1 hb.2
end Go.Proofs.Ytpkoiogdkaklfaa
