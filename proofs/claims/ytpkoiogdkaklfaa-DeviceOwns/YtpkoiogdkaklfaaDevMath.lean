/-
  A device's sectors as lists of cells: which are later, what a barrier and a crash make of them. Conditions: each theorem's own.
-/
import Derived.Test.YtpkoiogdkaklfaaCelMath
namespace Go.Proofs.Ytpkoiogdkaklfaa
open Go.RowKit
set_option linter.unusedVariables false
set_option linter.unusedSimpArgs false

/-- the cell of noughts -/
def zcell : List Int := List.replicate 16 0 ++ le 4 (chk 0 (List.replicate 16 0) : Nat)
theorem zcell_length : zcell.length = 20 := by simp [zcell, le_length]
theorem oct_repl (n : Nat) : Oct (List.replicate n 0) := fun x hx => by
  rw [List.mem_replicate] at hx
  omega
theorem oct_seal {zs : List Int} (h : Oct zs) : Oct (zs ++ le 4 (chk 0 zs : Nat)) := h.append (oct_le _ _)
theorem zcell_oct : Oct zcell := oct_seal (oct_repl 16)

/-- a list by ints -/
def lastF (las : List (List Int)) (k : Int) : Option (List Int) := if 0 ≤ k ∧ k < las.length then some (las.getD k.toNat []) else none
/-- .. of which the empty ones are none -/
def latF (lat : List (List Int)) (k : Int) : Option (List Int) := if lat.getD k.toNat [] ≠ [] ∧ 0 ≤ k ∧ k < lat.length then some (lat.getD k.toNat []) else none

theorem getD_set {α : Type} (l : List α) (i j : Nat) (z d : α) (hi : i < l.length) : (l.set i z).getD j d = if j = i then z else l.getD j d := by
  simp only [List.getD]
  by_cases h : j = i
  · subst h
    rw [List.getElem?_set_self hi, if_pos rfl]; rfl
  · rw [List.getElem?_set_ne (Ne.symm h), if_neg h]

theorem lastF_in {las : List (List Int)} {i : Nat} (h : i < las.length) : lastF las i = some (las.getD i []) := by
  unfold lastF; rw [if_pos ⟨by omega, by omega⟩]; simp
theorem lastF_out {las : List (List Int)} {k : Int} (h : ¬ (0 ≤ k ∧ k < las.length)) : lastF las k = none := if_neg h
theorem lastF_set {las : List (List Int)} {i : Nat} (h : i < las.length) (z : List Int) (k : Int) : (if k = (i : Int) then some z else lastF las k) = lastF (las.set i z) k := by
  unfold lastF
  rw [List.length_set]
  by_cases hk : k = i
  · subst hk
    rw [if_pos rfl, if_pos ⟨by omega, by omega⟩, getD_set _ _ _ _ _ h]
    simp
  · rw [if_neg hk]
    by_cases hb : 0 ≤ k ∧ k < las.length
    · rw [if_pos hb, if_pos hb, getD_set _ _ _ _ _ h, if_neg (by omega)]
    · rw [if_neg hb, if_neg hb]
theorem lastF_repl (j : Nat) (z : List Int) (k : Int) : (if k = (j : Int) then some z else lastF (List.replicate j z) k) = lastF (List.replicate (j + 1) z) k := by
  unfold lastF
  simp only [List.length_replicate]
  have hg : ∀ n i, i < n → (List.replicate n z).getD i [] = z := fun n i h => by simp [List.getD, List.getElem?_replicate, h]
  by_cases hk : k = j
  · subst hk
    rw [if_pos rfl, if_pos ⟨by omega, by omega⟩, hg _ _ (by omega)]
  · rw [if_neg hk]
    by_cases hb : 0 ≤ k ∧ k < j
    · rw [if_pos hb, if_pos ⟨hb.1, by omega⟩, hg _ _ (by omega), hg _ _ (by omega)]
    · rw [if_neg hb, if_neg (by omega)]
theorem lastF_nil (k : Int) : lastF [] k = none := lastF_out (by intro h; have := h.2; simp only [List.length_nil] at this; omega)

theorem latF_in {lat : List (List Int)} {i : Nat} (h : lat.getD i [] ≠ []) : latF lat i = some (lat.getD i []) := by
  have hi : i < lat.length := by
    by_cases hi : i < lat.length
    · exact hi
    · exact absurd (by simp [List.getD, List.getElem?_eq_none (Nat.le_of_not_lt hi)]) h
  unfold latF; rw [if_pos ⟨by simpa using h, by omega, by omega⟩]; simp
theorem latF_empty {lat : List (List Int)} {i : Nat} (h : lat.getD i [] = []) : latF lat i = none := by
  unfold latF
  exact if_neg (fun hh => hh.1 (by simpa using h))
theorem latF_out {lat : List (List Int)} {k : Int} (h : ¬ (0 ≤ k ∧ k < lat.length)) : latF lat k = none := if_neg (fun hh => h hh.2)
theorem latF_set {lat : List (List Int)} {i : Nat} (h : i < lat.length) {z : List Int} (hz : z ≠ []) (k : Int) : (if k = (i : Int) then some z else latF lat k) = latF (lat.set i z) k := by
  unfold latF
  rw [List.length_set]
  by_cases hk : k = i
  · subst hk
    rw [if_pos rfl, getD_set _ _ _ _ _ h, if_pos (show ((i : Int).toNat = i) by omega), if_pos ⟨hz, by omega, by omega⟩]
  · rw [if_neg hk]
    by_cases hb : 0 ≤ k ∧ k < lat.length
    · rw [getD_set _ _ _ _ _ h, if_neg (show ¬ k.toNat = i by omega)]
    · rw [if_neg (fun hh => hb hh.2), if_neg (fun hh => hb hh.2)]
theorem latF_del {lat : List (List Int)} {i : Nat} (h : i < lat.length) (k : Int) : (if k = (i : Int) then none else latF lat k) = latF (lat.set i []) k := by
  unfold latF
  rw [List.length_set]
  by_cases hk : k = i
  · subst hk
    rw [if_pos rfl, getD_set _ _ _ _ _ h, if_pos (show ((i : Int).toNat = i) by omega), if_neg (fun hh => hh.1 rfl)]
  · rw [if_neg hk]
    by_cases hb : 0 ≤ k ∧ k < lat.length
    · rw [getD_set _ _ _ _ _ h, if_neg (show ¬ k.toNat = i by omega)]
    · rw [if_neg (fun hh => hb hh.2), if_neg (fun hh => hb hh.2)]
theorem latF_repl (n : Nat) (k : Int) : latF (List.replicate n []) k = none := by
  unfold latF
  refine if_neg (fun hh => hh.1 ?_)
  simp only [List.getD, List.getElem?_replicate]
  split <;> rfl

/-- is a sector, of those ahead of j, from f on, ahead of t, and later? -/
def isLater (lat : List (List Int)) (f t : Int) (i : Nat) : Bool := decide (f ≤ (i : Int) ∧ (i : Int) < t ∧ lat.getD i [] ≠ [])
/-- those ahead of j -/
def laterTo (lat : List (List Int)) (f t : Int) (j : Nat) : List Nat := (List.range j).filter (isLater lat f t)
def laterL (lat : List (List Int)) (f t : Int) : List Nat := laterTo lat f t lat.length
theorem laterTo_yes {lat : List (List Int)} {f t : Int} {j : Nat} (h : isLater lat f t j = true) : laterTo lat f t (j + 1) = laterTo lat f t j ++ [j] := by simp [laterTo, List.range_succ, h]
theorem laterTo_no {lat : List (List Int)} {f t : Int} {j : Nat} (h : isLater lat f t j = false) : laterTo lat f t (j + 1) = laterTo lat f t j := by simp [laterTo, List.range_succ, h]
theorem laterTo_low {lat : List (List Int)} {f t : Int} {j : Nat} (h : ∀ i : Nat, i < j → (i : Int) < f) : laterTo lat f t j = [] := by
  unfold laterTo
  rw [List.filter_eq_nil_iff]
  intro i hi
  have := h i (List.mem_range.1 hi)
  simp [isLater]; omega
theorem laterTo_high {lat : List (List Int)} {f t : Int} : ∀ {j n : Nat}, j ≤ n → (∀ i : Nat, j ≤ i → i < n → isLater lat f t i = false) → laterTo lat f t n = laterTo lat f t j
  | j, n, hjn, h => by
    induction n with
    | zero => obtain rfl : j = 0 := by omega
              rfl
    | succ n ih =>
      by_cases e : j = n + 1
      · rw [e]
      · rw [laterTo_no (h n (by omega) (by omega))]
        exact ih (by omega) (fun i h1 h2 => h i h1 (by omega))
theorem laterTo_length (lat : List (List Int)) (f t : Int) (j : Nat) : (laterTo lat f t j).length ≤ j := by
  unfold laterTo
  refine Nat.le_trans (List.length_filter_le _ _) (by simp)
theorem isLater_eq {lat : List (List Int)} {f t : Int} {i : Nat} : isLater lat f t i = true ↔ f ≤ (i : Int) ∧ (i : Int) < t ∧ lat.getD i [] ≠ [] := by simp [isLater]
theorem mem_laterL {lat : List (List Int)} {f t : Int} {i : Nat} : i ∈ laterL lat f t ↔ i < lat.length ∧ f ≤ (i : Int) ∧ (i : Int) < t ∧ lat.getD i [] ≠ [] := by
  unfold laterL laterTo
  rw [List.mem_filter, List.mem_range, isLater_eq]
theorem nodup_laterL (lat : List (List Int)) (f t : Int) : (laterL lat f t).Nodup := List.Pairwise.filter _ List.nodup_range
theorem laterL_length (lat : List (List Int)) (f t : Int) : (laterL lat f t).length ≤ lat.length := laterTo_length _ _ _ _

/-- what a barrier does to a sector -/
def stepB (d : List (List Int) × List (List Int)) (i : Nat) : List (List Int) × List (List Int) := (d.1.set i (d.2.getD i []), d.2.set i [])
def barL (d : List (List Int) × List (List Int)) (l : List Nat) : List (List Int) × List (List Int) := l.foldl stepB d
/-- what a crash does to a sector, with the bits that are left -/
def stepC (d : (List (List Int) × List (List Int)) × List Bool) (i : Nat) : (List (List Int) × List (List Int)) × List Bool :=
  ((if d.2.getD 0 false then d.1.1.set i (d.1.2.getD i []) else d.1.1, d.1.2.set i []), d.2.drop 1)
def crashL (d : (List (List Int) × List (List Int)) × List Bool) (l : List Nat) : (List (List Int) × List (List Int)) × List Bool := l.foldl stepC d
theorem barL_snoc (d : List (List Int) × List (List Int)) (l : List Nat) (i : Nat) : barL d (l ++ [i]) = stepB (barL d l) i := by simp [barL]
theorem crashL_snoc (d : (List (List Int) × List (List Int)) × List Bool) (l : List Nat) (i : Nat) : crashL d (l ++ [i]) = stepC (crashL d l) i := by simp [crashL]

theorem getD_set_ne {α : Type} (l : List α) {i j : Nat} (z d : α) (h : j ≠ i) : (l.set i z).getD j d = l.getD j d := by
  simp only [List.getD]
  rw [List.getElem?_set_ne (Ne.symm h)]
theorem barL_out : ∀ (l : List Nat) (d : List (List Int) × List (List Int)) (i : Nat), i ∉ l → (barL d l).1.getD i [] = d.1.getD i [] ∧ (barL d l).2.getD i [] = d.2.getD i []
  | [], d, i, _ => ⟨rfl, rfl⟩
  | x :: l, d, i, h => by
    have h1 : i ≠ x := fun e => h (by simp [e])
    have := barL_out l (stepB d x) i (fun hh => h (by simp [hh]))
    refine ⟨this.1.trans ?_, this.2.trans ?_⟩
    · exact getD_set_ne _ _ _ h1
    · exact getD_set_ne _ _ _ h1
theorem crashL_out : ∀ (l : List Nat) (d : (List (List Int) × List (List Int)) × List Bool) (i : Nat), i ∉ l → (crashL d l).1.1.getD i [] = d.1.1.getD i [] ∧ (crashL d l).1.2.getD i [] = d.1.2.getD i []
  | [], d, i, _ => ⟨rfl, rfl⟩
  | x :: l, d, i, h => by
    have h1 : i ≠ x := fun e => h (by simp [e])
    have := crashL_out l (stepC d x) i (fun hh => h (by simp [hh]))
    refine ⟨this.1.trans ?_, this.2.trans ?_⟩
    · unfold stepC
      dsimp only
      split
      · exact getD_set_ne _ _ _ h1
      · rfl
    · exact getD_set_ne _ _ _ h1
theorem barL_len : ∀ (l : List Nat) (d : List (List Int) × List (List Int)), (barL d l).1.length = d.1.length ∧ (barL d l).2.length = d.2.length
  | [], d => ⟨rfl, rfl⟩
  | x :: l, d => by
    have := barL_len l (stepB d x)
    exact ⟨this.1.trans (List.length_set ..), this.2.trans (List.length_set ..)⟩
theorem crashL_len : ∀ (l : List Nat) (d : (List (List Int) × List (List Int)) × List Bool), (crashL d l).1.1.length = d.1.1.length ∧ (crashL d l).1.2.length = d.1.2.length
  | [], d => ⟨rfl, rfl⟩
  | x :: l, d => by
    have := crashL_len l (stepC d x)
    refine ⟨this.1.trans ?_, this.2.trans (List.length_set ..)⟩
    unfold stepC
    dsimp only
    split
    · exact List.length_set ..
    · rfl
theorem nodup_at {l : List Nat} (h : l.Nodup) {j : Nat} (hj : j < l.length) : l.getD j 0 ∉ l.take j := by
  intro hm
  obtain ⟨k, hk, e⟩ := List.mem_iff_getElem.1 hm
  rw [List.length_take] at hk
  have e1 : l.getD j 0 = l[j] := by simp [List.getD, List.getElem?_eq_getElem hj]
  rw [List.getElem_take, e1] at e
  have := (List.nodup_iff_pairwise_ne.1 h)
  have hk' : k < j := by omega
  exact (List.pairwise_iff_getElem.1 this k j (by omega) hj hk') e
theorem mem_getD {l : List Nat} {j : Nat} (hj : j < l.length) : l.getD j 0 ∈ l := by
  simp only [List.getD, List.getElem?_eq_getElem hj, Option.getD_some]
  exact List.getElem_mem hj

/-- the cells are cells -/
def DevOk (las lat : List (List Int)) (hd : List Int) : Prop :=
  lat.length = las.length ∧ (∀ i, i < las.length → (las.getD i []).length = 20 ∧ Oct (las.getD i [])) ∧ (∀ i, lat.getD i [] ≠ [] → (lat.getD i []).length = 20 ∧ Oct (lat.getD i [])) ∧ Oct hd ∧ hd.length ≤ 1000000 ∧ las.length ≤ 1024
theorem DevOk.put {las lat : List (List Int)} {hd : List Int} (h : DevOk las lat hd) {i : Nat} (hi : i < las.length) {z : List Int} (hz : z = [] ∨ (z.length = 20 ∧ Oct z)) : DevOk las (lat.set i z) hd := by
  obtain ⟨h1, h2, h3, h4, h5, h6⟩ := h
  refine ⟨by rw [List.length_set]; exact h1, h2, fun j hj => ?_, h4, h5, h6⟩
  rw [getD_set _ _ _ _ _ (by omega)] at hj ⊢
  by_cases e : j = i
  · rw [if_pos e] at hj ⊢
    rcases hz with hz | hz
    · exact absurd hz hj
    · exact hz
  · rw [if_neg e] at hj ⊢
    exact h3 j hj
theorem DevOk.lasts {las lat : List (List Int)} {hd : List Int} (h : DevOk las lat hd) {i : Nat} (hi : i < las.length) {z : List Int} (hz : z.length = 20 ∧ Oct z) : DevOk (las.set i z) lat hd := by
  obtain ⟨h1, h2, h3, h4, h5, h6⟩ := h
  refine ⟨by rw [List.length_set]; exact h1, fun j hj => ?_, h3, h4, h5, by rw [List.length_set]; exact h6⟩
  rw [List.length_set] at hj
  rw [getD_set _ _ _ _ _ hi]
  by_cases e : j = i
  · rw [if_pos e]; exact hz
  · rw [if_neg e]; exact h2 j hj
theorem DevOk.head {las lat : List (List Int)} {hd hd' : List Int} (h : DevOk las lat hd) (ho : Oct hd') (hl : hd'.length ≤ 1000000) : DevOk las lat hd' := by
  obtain ⟨h1, h2, h3, h4, h5, h6⟩ := h
  exact ⟨h1, h2, h3, ho, hl, h6⟩
theorem DevOk.stepB {las lat : List (List Int)} {hd : List Int} (h : DevOk las lat hd) {i : Nat} (hi : i < las.length) (hl : lat.getD i [] ≠ []) : DevOk (stepB (las, lat) i).1 (stepB (las, lat) i).2 hd :=
  (h.lasts hi (h.2.2.1 i hl)).put (by simpa using hi) (.inl rfl)
theorem DevOk.new (n : Nat) (hn : n ≤ 1024) : DevOk (List.replicate n zcell) (List.replicate n []) [] := by
  refine ⟨by simp, fun i hi => ?_, fun i hi => ?_, fun x hx => by simp at hx, by simp, by simpa using hn⟩
  · rw [List.length_replicate] at hi
    have : (List.replicate n zcell).getD i [] = zcell := by simp [List.getD, List.getElem?_replicate, hi]
    rw [this]
    exact ⟨zcell_length, zcell_oct⟩
  · refine absurd ?_ hi
    simp only [List.getD, List.getElem?_replicate]
    split <;> rfl
end Go.Proofs.Ytpkoiogdkaklfaa
