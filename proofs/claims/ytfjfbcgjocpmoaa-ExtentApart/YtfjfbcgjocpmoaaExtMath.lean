/-
  Sectors of pages and whose they are, as numbers. Conditions: each theorem's own.
-/
import Derived.Test.YtfjfbcgjocpmoaaCfgMath
namespace Go.Proofs.Ytfjfbcgjocpmoaa
open Go.RowKit
set_option linter.unusedVariables false
set_option linter.unusedSimpArgs false

/-- a page's sector, and the error -/
def secS (ps : List Pt) (t g k : Int) : Int × Int := if t < 0 ∨ (ps.length : Int) ≤ t then (0, 1) else if g < 0 ∨ (ps.getD t.toNat Pt.zero).g ≤ g ∨ k < 0 ∨ 1 < k then (0, 4) else ((ps.getD t.toNat Pt.zero).b + 2 * g + k, 0)
theorem secS_arg {ps : List Pt} {t : Int} (g k : Int) (h : ¬ (0 ≤ t ∧ t < (ps.length : Int))) : secS ps t g k = (0, 1) := by unfold secS; rw [if_pos (by omega)]
theorem secS_rng {ps : List Pt} {i : Nat} {g k : Int} (hi : i < ps.length) (h : ¬ (0 ≤ g ∧ g < (ps.getD i Pt.zero).g ∧ 0 ≤ k ∧ k < 2)) : secS ps i g k = (0, 4) := by
  unfold secS
  rw [if_neg (by omega), Int.toNat_natCast, if_pos (by omega)]
theorem secS_ok {ps : List Pt} {i : Nat} {g k : Int} (hi : i < ps.length) (h : 0 ≤ g ∧ g < (ps.getD i Pt.zero).g ∧ 0 ≤ k ∧ k < 2) : secS ps i g k = ((ps.getD i Pt.zero).b + 2 * g + k, 0) := by
  unfold secS
  rw [if_neg (by omega), Int.toNat_natCast, if_neg (by omega)]

/-- whose a sector is -/
structure Ow where
  t : Int
  g : Int
  k : Int
  is : Bool
def Ow.no : Ow := ⟨0, 0, 0, false⟩
def Ow.cs (o : Ow) : List Value := [.int .i64 o.t, .int .i64 o.g, .int .i64 o.k, .bool o.is]
def ownFrom (s : Int) : List Pt → Nat → Ow
  | [], _ => Ow.no
  | p :: ps, i => if hasB p s = true then ⟨i, (s - p.b) / 2, (s - p.b) % 2, true⟩ else ownFrom s ps (i + 1)
def ownS (ps : List Pt) (s : Int) : Ow := ownFrom s ps 0
theorem own_none {ps : List Pt} {s : Int} (h : ∀ j, j < ps.length → hasB (ps.getD j Pt.zero) s = false) : ownS ps s = Ow.no := by
  have : ∀ (ps : List Pt) (i : Nat), (∀ j, j < ps.length → hasB (ps.getD j Pt.zero) s = false) → ownFrom s ps i = Ow.no := by
    intro ps
    induction ps with
    | nil => intro i _; rfl
    | cons p ps ih =>
      intro i h
      have h0 : hasB p s = false := h 0 (by simp)
      rw [ownFrom, h0, if_neg (by simp)]
      exact ih (i + 1) (fun j hj => h (j + 1) (by simpa using hj))
  exact this ps 0 h
theorem own_hit {ps : List Pt} {s : Int} {i : Nat} (hi : i < ps.length) (hb : hasB (ps.getD i Pt.zero) s = true) (h : ∀ j, j < i → hasB (ps.getD j Pt.zero) s = false) : ownS ps s = ⟨i, (s - (ps.getD i Pt.zero).b) / 2, (s - (ps.getD i Pt.zero).b) % 2, true⟩ := by
  have : ∀ (ps : List Pt) (n i : Nat), i < ps.length → hasB (ps.getD i Pt.zero) s = true → (∀ j, j < i → hasB (ps.getD j Pt.zero) s = false) → ownFrom s ps n = ⟨((n + i : Nat) : Int), (s - (ps.getD i Pt.zero).b) / 2, (s - (ps.getD i Pt.zero).b) % 2, true⟩ := by
    intro ps
    induction ps with
    | nil => intro n i h; exact absurd h (Nat.not_lt_zero _)
    | cons p ps ih =>
      intro n i hi hb h
      cases i with
      | zero =>
        have hb' : hasB p s = true := hb
        rw [ownFrom, if_pos hb']
        rfl
      | succ i =>
        have h0 : hasB p s = false := h 0 (by omega)
        rw [ownFrom, h0, if_neg (by simp), ih (n + 1) i (by simpa using hi) hb (fun j hj => h (j + 1) (by omega))]
        have e : n + 1 + i = n + (i + 1) := by omega
        rw [e]; rfl
  have := this ps 0 i hi hb h
  rw [Nat.zero_add] at this
  exact this
theorem own_cases (ps : List Pt) (s : Int) : (∀ j, j < ps.length → hasB (ps.getD j Pt.zero) s = false) ∨ ∃ i, i < ps.length ∧ hasB (ps.getD i Pt.zero) s = true ∧ ∀ j, j < i → hasB (ps.getD j Pt.zero) s = false := by
  have : ∀ n, n ≤ ps.length → (∀ j, j < n → hasB (ps.getD j Pt.zero) s = false) ∨ ∃ i, i < ps.length ∧ hasB (ps.getD i Pt.zero) s = true ∧ ∀ j, j < i → hasB (ps.getD j Pt.zero) s = false := by
    intro n
    induction n with
    | zero => intro _; left; intro j hj; omega
    | succ n ih =>
      intro hn
      rcases ih (by omega) with h | h
      · cases hb : hasB (ps.getD n Pt.zero) s with
        | true => exact .inr ⟨n, by omega, hb, h⟩
        | false =>
          left; intro j hj
          by_cases e : j = n
          · rw [e]; exact hb
          · exact h j (by omega)
      · exact .inr h
  exact this ps.length (Nat.le_refl _)
theorem own_is (ps : List Pt) (s : Int) : (ownS ps s).is = ps.any (fun p => hasB p s) := by
  rcases own_cases ps s with h | ⟨i, hi, hb, h⟩
  · rw [own_none h]
    symm
    have : (Ow.no).is = false := rfl
    rw [this, List.any_eq_false]
    intro p hp
    obtain ⟨j, hj, e⟩ := mem_getD hp
    rw [← e, h j hj]; simp
  · rw [own_hit hi hb h]
    symm
    rw [List.any_eq_true]
    exact ⟨_, getD_mem hi, hb⟩
/-- of a configuration that may be each sector is one part's at most -/
theorem GoodC.own_at {fr dp se : Int} {ps : List Pt} (hg : GoodC fr dp se ps) {s : Int} {i : Nat} (hi : i < ps.length) (hb : hasB (ps.getD i Pt.zero) s = true) : ownS ps s = ⟨i, (s - (ps.getD i Pt.zero).b) / 2, (s - (ps.getD i Pt.zero).b) % 2, true⟩ := by
  refine own_hit hi hb (fun j hj => ?_)
  cases hh : hasB (ps.getD j Pt.zero) s with
  | false => rfl
  | true =>
    have := (faultAt_zero hi (hg.faults i hi)).2 j hj
    rw [meet_of_has hh hb] at this
    cases this
theorem GoodC.own_eq {fr dp se : Int} {ps : List Pt} (hg : GoodC fr dp se ps) (s : Int) {i : Nat} (hi : i < ps.length) : hasB (ps.getD i Pt.zero) s = ((ownS ps s).is && (ownS ps s).t == (i : Int)) := by
  cases hb : hasB (ps.getD i Pt.zero) s with
  | true => rw [hg.own_at hi hb]; simp
  | false =>
    rcases own_cases ps s with h | ⟨j, hj, hjb, h⟩
    · rw [own_none h]; rfl
    · rw [own_hit hj hjb h]
      symm
      have : j ≠ i := by rintro rfl; rw [hjb] at hb; cases hb
      simp; omega
/-- how many of the first n sectors are somebody's -/
def cntOwn (ps : List Pt) (n : Nat) : Nat := (List.range n).countP (fun s : Nat => (ownS ps (s : Int)).is)
theorem cntOwn_next (ps : List Pt) (n : Nat) : cntOwn ps (n + 1) = cntOwn ps n + (if (ownS ps (n : Int)).is = true then 1 else 0) := by
  unfold cntOwn
  rw [List.range_succ, List.countP_append]
  cases h : (ownS ps (n : Int)).is <;> simp [List.countP_cons, h]
theorem cntOwn_le (ps : List Pt) (n : Nat) : cntOwn ps n ≤ n := by
  have := List.countP_le_length (p := fun s : Nat => (ownS ps (s : Int)).is) (l := List.range n)
  rw [List.length_range] at this
  exact this
theorem GoodC.owned {fr dp se : Int} {ps : List Pt} (h : GoodC fr dp se ps) : (cntOwn ps se.toNat : Int) = gsum ps := by
  have hb := h.bounds
  obtain ⟨h1, h2, h3, h4, h5, h6, e, h7, h8, h9⟩ := h
  have hc := count_any se.toNat ps 0 e (by omega) h7 h6 (by omega)
  unfold cntOwn
  have e : (fun s : Nat => (ownS ps (s : Int)).is) = (fun s : Nat => ps.any (fun p => hasB p (s : Int))) := by funext s; exact own_is ps s
  rw [e]; exact hc
/-- the next part begins behind the one ahead -/
theorem GoodC.next {fr dp se : Int} {ps : List Pt} (h : GoodC fr dp se ps) {i : Nat} (hi : i + 1 < ps.length) : (ps.getD i Pt.zero).b + 2 * (ps.getD i Pt.zero).g ≤ (ps.getD (i + 1) Pt.zero).b := by
  obtain ⟨h1, h2, h3, h4, h5, h6, e, h7, h8, h9⟩ := h
  have hp := List.pairwise_iff_getElem.1 (chain_pair ps 0 e h7 h6) i (i + 1) (by omega) hi (by omega)
  have ej : ps.getD i Pt.zero = ps[i]'(by omega) := by simp [List.getD, List.getElem?_eq_getElem (show i < ps.length by omega)]
  have ei : ps.getD (i + 1) Pt.zero = ps[i + 1] := by simp [List.getD, List.getElem?_eq_getElem hi]
  rw [ej, ei]; exact hp
theorem GoodC.within {fr dp se : Int} {ps : List Pt} (h : GoodC fr dp se ps) {i : Nat} (hi : i < ps.length) : 0 ≤ (ps.getD i Pt.zero).b ∧ (ps.getD i Pt.zero).b + 2 * (ps.getD i Pt.zero).g ≤ se ∧ 1 ≤ (ps.getD i Pt.zero).g ∧ (ps.getD i Pt.zero).g ≤ 4 := by
  obtain ⟨h1, h2, h3, h4, h5, h6, e, h7, h8, h9⟩ := h
  have hm := chain_mem ps 0 e h7 h6 _ (getD_mem hi)
  obtain ⟨s1, s2, s3, s4⟩ := h6 _ (getD_mem hi)
  exact ⟨by omega, by omega, by omega, by omega⟩
/-- a page's sector is that page's -/
theorem GoodC.own_page {fr dp se : Int} {ps : List Pt} (h : GoodC fr dp se ps) {i : Nat} (hi : i < ps.length) {g k : Int} (hg : 0 ≤ g ∧ g < (ps.getD i Pt.zero).g ∧ 0 ≤ k ∧ k < 2) : ownS ps ((ps.getD i Pt.zero).b + 2 * g + k) = ⟨i, g, k, true⟩ := by
  have hb : hasB (ps.getD i Pt.zero) ((ps.getD i Pt.zero).b + 2 * g + k) = true := by
    simp only [hasB, Bool.and_eq_true, decide_eq_true_eq]; omega
  rw [h.own_at hi hb]
  have e1 : ((ps.getD i Pt.zero).b + 2 * g + k - (ps.getD i Pt.zero).b) / 2 = g := by omega
  have e2 : ((ps.getD i Pt.zero).b + 2 * g + k - (ps.getD i Pt.zero).b) % 2 = k := by omega
  rw [e1, e2]
end Go.Proofs.Ytfjfbcgjocpmoaa
