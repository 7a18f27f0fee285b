/-
  Parts and configurations as numbers: where what is wrong, which sectors are whose. Conditions: each theorem's own.
-/
import Derived.WalkKit
import Derived.OpenShut
import Derived.WalkLawsBesides
namespace Go.Proofs.Ytfjfbcgjocpmoaa
open Go.RowKit
set_option linter.unusedVariables false
set_option linter.unusedSimpArgs false

/-- a part -/
structure Pt where
  q : Int
  b : Int
  g : Int
def Pt.zero : Pt := ⟨0, 0, 0⟩
def Pt.cs (p : Pt) : List Value := [.int .i64 p.q, .int .i64 p.b, .int .i64 p.g]
theorem Pt.cs_length (p : Pt) : p.cs.length = 3 := rfl
theorem Pt.cs_one (p : Pt) : ∀ u ∈ p.cs, u.oneCell' = true := by
  intro u hu
  simp only [Pt.cs, List.mem_cons, List.not_mem_nil, or_false] at hu
  rcases hu with rfl | rfl | rfl <;> rfl
def W64 (n : Int) : Prop := -9223372036854775808 ≤ n ∧ n ≤ 9223372036854775807
def Pt.Ok (p : Pt) : Prop := W64 p.q ∧ W64 p.b ∧ W64 p.g
theorem w64_of {n : Int} (h : (Lit.int .i64 n).wf = true) : W64 n := bounds_i64 h
theorem wf_of {n : Int} (h : W64 n) : (Lit.int .i64 n).wf = true := by
  obtain ⟨h0, h1⟩ := h
  simp [Lit.wf]
  first
    | exact ⟨h0, h1⟩
    | (rw [IntKind.wrap_i64]; omega)

/-- where: by its number -/
def wh : Nat → ByteArray
  | 0 => ⟨#[]⟩
  | 1 => ⟨#[112, 97, 114, 116, 115]⟩
  | 2 => ⟨#[102, 114, 97, 109, 101, 115]⟩
  | 3 => ⟨#[100, 101, 112, 116, 104]⟩
  | 4 => ⟨#[115, 101, 99, 116, 111, 114, 115]⟩
  | 5 => ⟨#[113, 117, 111, 116, 97]⟩
  | 6 => ⟨#[112, 97, 103, 101, 115]⟩
  | 7 => ⟨#[98, 97, 115, 101]⟩
  | 8 => ⟨#[101, 120, 116, 101, 110, 116]⟩
  | _ => ⟨#[115, 117, 109]⟩

def ownF (p : Pt) (se : Int) : Nat := if ¬ (1 ≤ p.q ∧ p.q ≤ 64) then 5 else if ¬ (1 ≤ p.g ∧ p.g ≤ 64) then 6 else if p.b < 0 ∨ p.b > se - 2 * p.g then 7 else 0
def meetB (x y : Pt) : Bool := decide (x.b < y.b + 2 * y.g) && decide (y.b < x.b + 2 * x.g)
def faultAt (se : Int) (ps : List Pt) (i : Nat) : Nat := if ownF (ps.getD i Pt.zero) se ≠ 0 then ownF (ps.getD i Pt.zero) se else if (ps.take i).any (fun a => meetB a (ps.getD i Pt.zero)) then 8 else 0
def pfFrom (se : Int) (ps : List Pt) : Nat → Nat → Nat × Int
  | 0, _ => (0, 0)
  | n + 1, i => if faultAt se ps i = 0 then pfFrom se ps n (i + 1) else (faultAt se ps i, (i : Int))
def pf (se : Int) (ps : List Pt) : Nat × Int := pfFrom se ps ps.length 0
def qsum : List Pt → Int
  | [] => 0
  | p :: ps => p.q + qsum ps
def gsum : List Pt → Int
  | [] => 0
  | p :: ps => 2 * p.g + gsum ps
def numF (n : Nat) (fr dp se : Int) : Nat := if ¬ (1 ≤ n ∧ n ≤ 16) then 1 else if ¬ (1 ≤ fr ∧ fr ≤ 64) then 2 else if ¬ (1 ≤ dp ∧ dp ≤ 8) then 3 else if ¬ (1 ≤ se ∧ se ≤ 1024) then 4 else 0
def ck (fr dp se : Int) (ps : List Pt) : Nat × Int := if numF ps.length fr dp se ≠ 0 then (numF ps.length fr dp se, 0) else if (pf se ps).1 ≠ 0 then pf se ps else if qsum ps ≠ fr then (9, 0) else (0, 0)
def hasB (p : Pt) (s : Int) : Bool := decide (p.b ≤ s) && decide (s < p.b + 2 * p.g)

theorem qsum_append (a b : List Pt) : qsum (a ++ b) = qsum a + qsum b := by
  induction a with
  | nil => simp [qsum]
  | cons p a ih => simp only [List.cons_append, qsum, ih]; omega
theorem gsum_append (a b : List Pt) : gsum (a ++ b) = gsum a + gsum b := by
  induction a with
  | nil => simp [gsum]
  | cons p a ih => simp only [List.cons_append, gsum, ih]; omega
theorem take_next (ps : List Pt) (j : Nat) (h : j < ps.length) : ps.take (j + 1) = ps.take j ++ [ps.getD j Pt.zero] := by
  rw [List.take_add_one]; simp [List.getD, List.getElem?_eq_getElem h]
theorem qsum_next (ps : List Pt) (j : Nat) (h : j < ps.length) : qsum (ps.take (j + 1)) = qsum (ps.take j) + (ps.getD j Pt.zero).q := by
  rw [take_next ps j h, qsum_append]; simp [qsum]
theorem gsum_next (ps : List Pt) (j : Nat) (h : j < ps.length) : gsum (ps.take (j + 1)) = gsum (ps.take j) + 2 * (ps.getD j Pt.zero).g := by
  rw [take_next ps j h, gsum_append]; simp [gsum]

theorem ownF_zero {p : Pt} {se : Int} (h : ownF p se = 0) : 1 ≤ p.q ∧ p.q ≤ 64 ∧ 1 ≤ p.g ∧ p.g ≤ 64 ∧ 0 ≤ p.b ∧ p.b + 2 * p.g ≤ se := by
  unfold ownF at h
  split at h
  · cases h
  · split at h
    · cases h
    · split at h
      · cases h
      · omega
theorem ownF_of {p : Pt} {se : Int} (h : 1 ≤ p.q ∧ p.q ≤ 64 ∧ 1 ≤ p.g ∧ p.g ≤ 64 ∧ 0 ≤ p.b ∧ p.b + 2 * p.g ≤ se) : ownF p se = 0 := by
  unfold ownF
  rw [if_neg (by omega), if_neg (by omega), if_neg (by omega)]
theorem numF_zero {n : Nat} {fr dp se : Int} (h : numF n fr dp se = 0) : 1 ≤ n ∧ n ≤ 16 ∧ 1 ≤ fr ∧ fr ≤ 64 ∧ 1 ≤ dp ∧ dp ≤ 8 ∧ 1 ≤ se ∧ se ≤ 1024 := by
  unfold numF at h
  split at h
  · cases h
  · split at h
    · cases h
    · split at h
      · cases h
      · split at h
        · cases h
        · omega
theorem numF_of {n : Nat} {fr dp se : Int} (h : 1 ≤ n ∧ n ≤ 16 ∧ 1 ≤ fr ∧ fr ≤ 64 ∧ 1 ≤ dp ∧ dp ≤ 8 ∧ 1 ≤ se ∧ se ≤ 1024) : numF n fr dp se = 0 := by
  unfold numF
  rw [if_neg (by omega), if_neg (by omega), if_neg (by omega), if_neg (by omega)]

theorem faultAt_own {se : Int} {ps : List Pt} {i : Nat} (h : ownF (ps.getD i Pt.zero) se ≠ 0) : faultAt se ps i = ownF (ps.getD i Pt.zero) se := by
  unfold faultAt; rw [if_pos h]
theorem faultAt_meet {se : Int} {ps : List Pt} {i j : Nat} (h : ownF (ps.getD i Pt.zero) se = 0) (hj : j < i) (hi : i < ps.length) (hm : meetB (ps.getD j Pt.zero) (ps.getD i Pt.zero) = true) : faultAt se ps i = 8 := by
  unfold faultAt
  rw [if_neg (by omega), if_pos]
  rw [List.any_eq_true]
  refine ⟨ps.getD j Pt.zero, ?_, hm⟩
  rw [List.mem_iff_getElem?]
  exact ⟨j, by rw [List.getElem?_take, if_pos hj]; simp [List.getD, List.getElem?_eq_getElem (show j < ps.length by omega)]⟩
theorem faultAt_no {se : Int} {ps : List Pt} {i : Nat} (h : ownF (ps.getD i Pt.zero) se = 0) (hi : i < ps.length) (hm : ∀ j, j < i → meetB (ps.getD j Pt.zero) (ps.getD i Pt.zero) = false) : faultAt se ps i = 0 := by
  unfold faultAt
  rw [if_neg (by omega), if_neg]
  rw [List.any_eq_true]
  rintro ⟨x, hx, hxm⟩
  rw [List.mem_iff_getElem?] at hx
  obtain ⟨j, hj⟩ := hx
  rw [List.getElem?_take] at hj
  split at hj
  · rename_i hji
    have e : ps.getD j Pt.zero = x := by simp [List.getD, hj]
    have := hm j hji
    rw [e] at this
    rw [this] at hxm
    cases hxm
  · cases hj
theorem faultAt_zero {se : Int} {ps : List Pt} {i : Nat} (hi : i < ps.length) (h : faultAt se ps i = 0) : ownF (ps.getD i Pt.zero) se = 0 ∧ ∀ j, j < i → meetB (ps.getD j Pt.zero) (ps.getD i Pt.zero) = false := by
  by_cases ho : ownF (ps.getD i Pt.zero) se = 0
  · refine ⟨ho, fun j hj => ?_⟩
    cases hm : meetB (ps.getD j Pt.zero) (ps.getD i Pt.zero) with
    | false => rfl
    | true => rw [faultAt_meet ho hj hi hm] at h; cases h
  · rw [faultAt_own ho] at h; exact absurd h ho

theorem pf_step {se : Int} {ps : List Pt} {j : Nat} (hj : j < ps.length) (h : faultAt se ps j = 0) : pfFrom se ps (ps.length - j) j = pfFrom se ps (ps.length - (j + 1)) (j + 1) := by
  rw [show ps.length - j = (ps.length - (j + 1)) + 1 by omega, pfFrom, if_pos h]
theorem pf_hit {se : Int} {ps : List Pt} {j : Nat} (hj : j < ps.length) (h : faultAt se ps j ≠ 0) : pfFrom se ps (ps.length - j) j = (faultAt se ps j, (j : Int)) := by
  rw [show ps.length - j = (ps.length - (j + 1)) + 1 by omega, pfFrom, if_neg h]
theorem pf_end {se : Int} {ps : List Pt} : pfFrom se ps (ps.length - ps.length) ps.length = (0, 0) := by
  rw [Nat.sub_self]; rfl
theorem pf_none {se : Int} {ps : List Pt} (h : ∀ i, i < ps.length → faultAt se ps i = 0) : ∀ n i, i + n ≤ ps.length → pfFrom se ps n i = (0, 0) := by
  intro n
  induction n with
  | zero => intro i _; rfl
  | succ n ih => intro i hi; rw [pfFrom, if_pos (h i (by omega)), ih (i + 1) (by omega)]
theorem pf_all {se : Int} {ps : List Pt} (h : (pf se ps).1 = 0) : ∀ i, i < ps.length → faultAt se ps i = 0 := by
  have : ∀ n i, i + n = ps.length → (pfFrom se ps n i).1 = 0 → ∀ j, i ≤ j → j < ps.length → faultAt se ps j = 0 := by
    intro n
    induction n with
    | zero => intro i hi _ j h1 h2; omega
    | succ n ih =>
      intro i hi h j h1 h2
      rw [pfFrom] at h
      by_cases h0 : faultAt se ps i = 0
      · rw [if_pos h0] at h
        by_cases e : j = i
        · rw [e]; exact h0
        · exact ih (i + 1) (by omega) h j (by omega) h2
      · rw [if_neg h0] at h; exact absurd h h0
  exact fun i hi => this ps.length 0 (by omega) h i (by omega) hi
/-- where the first is zero, all of it is -/
theorem pf_pair {se : Int} {ps : List Pt} (h : (pf se ps).1 = 0) : pf se ps = (0, 0) := pf_none (pf_all h) _ _ (by omega)

theorem ck_num {fr dp se : Int} {ps : List Pt} (h : numF ps.length fr dp se ≠ 0) : ck fr dp se ps = (numF ps.length fr dp se, 0) := by unfold ck; rw [if_pos h]
theorem ck_part {fr dp se : Int} {ps : List Pt} (h : numF ps.length fr dp se = 0) (h1 : (pf se ps).1 ≠ 0) : ck fr dp se ps = pf se ps := by unfold ck; rw [if_neg (by omega), if_pos h1]
theorem ck_sum {fr dp se : Int} {ps : List Pt} (h : numF ps.length fr dp se = 0) (h1 : (pf se ps).1 = 0) (h2 : qsum ps ≠ fr) : ck fr dp se ps = (9, 0) := by unfold ck; rw [if_neg (by omega), if_neg (by omega), if_pos h2]
theorem ck_ok {fr dp se : Int} {ps : List Pt} (h : numF ps.length fr dp se = 0) (h1 : (pf se ps).1 = 0) (h2 : qsum ps = fr) : ck fr dp se ps = (0, 0) := by unfold ck; rw [if_neg (by omega), if_neg (by omega), if_neg (by omega)]
theorem ck_zero {fr dp se : Int} {ps : List Pt} (h : (ck fr dp se ps).1 = 0) : numF ps.length fr dp se = 0 ∧ (pf se ps).1 = 0 ∧ qsum ps = fr := by
  unfold ck at h
  split at h
  · rename_i h1; exact absurd h h1
  · split at h
    · rename_i h1 h2; exact absurd h h2
    · split at h
      · cases h
      · rename_i h1 h2 h3; exact ⟨by omega, by omega, by omega⟩

/-- two parts that have a sector in common meet -/
theorem meet_of_has {x y : Pt} {s : Int} (hx : hasB x s = true) (hy : hasB y s = true) : meetB x y = true := by
  simp only [hasB, meetB, Bool.and_eq_true, decide_eq_true_eq] at *
  omega
/-- two parts within the sectors that have none in common do not -/
theorem not_meet {x y : Pt} {se : Int} (hx : 0 ≤ x.b ∧ x.b + 2 * x.g ≤ se ∧ 1 ≤ x.g) (hy : 0 ≤ y.b ∧ y.b + 2 * y.g ≤ se ∧ 1 ≤ y.g) (h : ∀ s : Nat, (s : Int) < se → ¬ (hasB x s = true ∧ hasB y s = true)) : meetB x y = false := by
  cases hm : meetB x y with
  | false => rfl
  | true =>
    simp only [meetB, Bool.and_eq_true, decide_eq_true_eq] at hm
    by_cases hle : x.b ≤ y.b
    · have := h y.b.toNat (by omega)
      simp only [hasB, Bool.and_eq_true, decide_eq_true_eq] at this
      omega
    · have := h x.b.toNat (by omega)
      simp only [hasB, Bool.and_eq_true, decide_eq_true_eq] at this
      omega

theorem getD_mem {ps : List Pt} {i : Nat} (h : i < ps.length) : ps.getD i Pt.zero ∈ ps := by
  have : ps.getD i Pt.zero = ps[i] := by simp [List.getD, List.getElem?_eq_getElem h]
  rw [this]; exact List.getElem_mem h
theorem mem_getD {ps : List Pt} {p : Pt} (h : p ∈ ps) : ∃ i, i < ps.length ∧ ps.getD i Pt.zero = p := by
  obtain ⟨i, hi, e⟩ := List.mem_iff_getElem.1 h
  exact ⟨i, hi, by simp [List.getD, List.getElem?_eq_getElem hi, e]⟩

/-- of parts that do not meet at most one has a sector -/
def cntH (ps : List Pt) (s : Int) : Nat := ps.countP (fun p => hasB p s)
theorem cntH_next (ps : List Pt) (s : Int) (j : Nat) (h : j < ps.length) : cntH (ps.take (j + 1)) s = cntH (ps.take j) s + (if hasB (ps.getD j Pt.zero) s = true then 1 else 0) := by
  unfold cntH
  rw [take_next ps j h, List.countP_append]; simp [List.countP_cons]
theorem cntH_one {se : Int} {ps : List Pt} (s : Int) (h : ∀ i, i < ps.length → faultAt se ps i = 0) : ∀ j, j ≤ ps.length → cntH (ps.take j) s ≤ 1 := by
  intro j
  induction j with
  | zero => intro _; simp [cntH]
  | succ j ih =>
    intro hj
    rw [cntH_next ps s j (by omega)]
    split
    · rename_i hh
      have : cntH (ps.take j) s = 0 := by
        unfold cntH
        rw [List.countP_eq_zero]
        intro x hx hxs
        rw [List.mem_iff_getElem?] at hx
        obtain ⟨i, hi⟩ := hx
        rw [List.getElem?_take] at hi
        split at hi
        · rename_i hij
          have e : ps.getD i Pt.zero = x := by simp [List.getD, hi]
          have := (faultAt_zero (by omega) (h j (by omega))).2 i hij
          rw [e, meet_of_has hxs hh] at this
          cases this
        · cases hi
      omega
    · have := ih (by omega); omega
theorem cntH_end {se : Int} {ps : List Pt} (s : Int) (h : ∀ i, i < ps.length → faultAt se ps i = 0) (hp : 0 < cntH ps s) : s < se := by
  unfold cntH at hp
  rw [List.countP_pos_iff] at hp
  obtain ⟨x, hx, hxs⟩ := hp
  obtain ⟨i, hi, e⟩ := mem_getD hx
  have := ownF_zero (faultAt_zero hi (h i hi)).1
  rw [e] at this
  simp only [hasB, Bool.and_eq_true, decide_eq_true_eq] at hxs
  omega

/-- parts one behind the other, with gaps of at most two sectors -/
def chain : Int → List Pt → Int → Prop
  | a, [], e => e = a
  | a, p :: ps, e => a ≤ p.b ∧ p.b ≤ a + 2 ∧ chain (p.b + 2 * p.g) ps e
theorem chain_snoc {p : Pt} : ∀ (ps : List Pt) (a e : Int), chain a ps e → e ≤ p.b → p.b ≤ e + 2 → chain a (ps ++ [p]) (p.b + 2 * p.g)
  | [], a, e, h, h1, h2 => by
    have h' : e = a := h
    subst h'
    exact ⟨h1, h2, rfl⟩
  | x :: ps, a, e, ⟨h1, h2, h3⟩, h4, h5 => ⟨h1, h2, chain_snoc ps _ _ h3 h4 h5⟩
def Small (p : Pt) : Prop := 1 ≤ p.q ∧ p.q ≤ 3 ∧ 1 ≤ p.g ∧ p.g ≤ 4
theorem chain_le : ∀ (ps : List Pt) (a e : Int), chain a ps e → (∀ p ∈ ps, Small p) → a ≤ e ∧ e ≤ a + 10 * ps.length
  | [], a, e, h, _ => by
    have h' : e = a := h
    subst h'
    simp
  | p :: ps, a, e, ⟨h1, h2, h3⟩, hs => by
    have := chain_le ps _ e h3 (fun x hx => hs x (List.mem_cons_of_mem _ hx))
    obtain ⟨_, _, _, _⟩ := hs p (List.mem_cons_self ..)
    simp only [List.length_cons]
    omega
theorem chain_mem : ∀ (ps : List Pt) (a e : Int), chain a ps e → (∀ p ∈ ps, Small p) → ∀ p ∈ ps, a ≤ p.b ∧ p.b + 2 * p.g ≤ e
  | [], a, e, h, _ => fun p hp => by cases hp
  | x :: ps, a, e, ⟨h1, h2, h3⟩, hs => fun p hp => by
    have hle := chain_le ps _ e h3 (fun x hx => hs x (List.mem_cons_of_mem _ hx))
    obtain ⟨_, _, _, _⟩ := hs x (List.mem_cons_self ..)
    rcases List.mem_cons.1 hp with rfl | hp'
    · omega
    · have := chain_mem ps _ e h3 (fun x hx => hs x (List.mem_cons_of_mem _ hx)) p hp'
      omega
theorem chain_pair : ∀ (ps : List Pt) (a e : Int), chain a ps e → (∀ p ∈ ps, Small p) → ps.Pairwise (fun x y => x.b + 2 * x.g ≤ y.b)
  | [], a, e, h, _ => List.Pairwise.nil
  | x :: ps, a, e, ⟨h1, h2, h3⟩, hs => List.Pairwise.cons (fun y hy => (chain_mem ps _ e h3 (fun x hx => hs x (List.mem_cons_of_mem _ hx)) y hy).1) (chain_pair ps _ e h3 (fun x hx => hs x (List.mem_cons_of_mem _ hx)))

/-- a configuration as 'Good' makes them -/
def GoodC (fr dp se : Int) (ps : List Pt) : Prop := 1 ≤ ps.length ∧ ps.length ≤ 4 ∧ 1 ≤ dp ∧ dp ≤ 4 ∧ fr = qsum ps ∧ (∀ p ∈ ps, Small p) ∧ ∃ e, chain 0 ps e ∧ e ≤ se ∧ se ≤ e + 2
theorem qsum_small : ∀ (ps : List Pt), (∀ p ∈ ps, Small p) → (ps.length : Int) ≤ qsum ps ∧ qsum ps ≤ 3 * ps.length
  | [], _ => by simp [qsum]
  | p :: ps, hs => by
    have := qsum_small ps (fun x hx => hs x (List.mem_cons_of_mem _ hx))
    obtain ⟨_, _, _, _⟩ := hs p (List.mem_cons_self ..)
    simp only [qsum, List.length_cons]
    omega
theorem GoodC.bounds {fr dp se : Int} {ps : List Pt} (h : GoodC fr dp se ps) : 1 ≤ fr ∧ fr ≤ 12 ∧ 1 ≤ dp ∧ dp ≤ 4 ∧ 2 ≤ se ∧ se ≤ 42 ∧ 1 ≤ ps.length ∧ ps.length ≤ 4 := by
  obtain ⟨h1, h2, h3, h4, h5, h6, e, h7, h8, h9⟩ := h
  have := qsum_small ps h6
  have hl := chain_le ps 0 e h7 h6
  have : 2 ≤ e := by
    match ps, h1, h7, h6 with
    | p :: ps, _, hc, hs =>
      have := chain_mem _ 0 e hc hs p (List.mem_cons_self ..)
      obtain ⟨_, _, _, _⟩ := hs p (List.mem_cons_self ..)
      omega
  omega
theorem GoodC.faults {fr dp se : Int} {ps : List Pt} (h : GoodC fr dp se ps) : ∀ i, i < ps.length → faultAt se ps i = 0 := by
  intro i hi
  obtain ⟨h1, h2, h3, h4, h5, h6, e, h7, h8, h9⟩ := h
  have hm := chain_mem ps 0 e h7 h6 _ (getD_mem hi)
  obtain ⟨s1, s2, s3, s4⟩ := h6 _ (getD_mem hi)
  refine faultAt_no (ownF_of (by omega)) hi (fun j hj => ?_)
  have hp := List.pairwise_iff_getElem.1 (chain_pair ps 0 e h7 h6) j i (by omega) hi hj
  have ej : ps.getD j Pt.zero = ps[j]'(by omega) := by simp [List.getD, List.getElem?_eq_getElem (show j < ps.length by omega)]
  have ei : ps.getD i Pt.zero = ps[i] := by simp [List.getD, List.getElem?_eq_getElem hi]
  rw [ej, ei]
  unfold meetB
  rw [Bool.and_eq_false_iff, decide_eq_false_iff_not, decide_eq_false_iff_not]
  right; omega
theorem GoodC.nopf {fr dp se : Int} {ps : List Pt} (h : GoodC fr dp se ps) : (pf se ps).1 = 0 := by
  have : pf se ps = (0, 0) := pf_none h.faults _ _ (by omega)
  rw [this]
theorem GoodC.okc {fr dp se : Int} {ps : List Pt} (h : GoodC fr dp se ps) : ck fr dp se ps = (0, 0) := by
  have hb := h.bounds
  exact ck_ok (numF_of (by omega)) h.nopf h.2.2.2.2.1.symm
theorem GoodC.wf {fr dp se : Int} {ps : List Pt} (h : GoodC fr dp se ps) : W64 fr ∧ W64 dp ∧ W64 se ∧ ∀ p ∈ ps, p.Ok := by
  have hb := h.bounds
  refine ⟨⟨by omega, by omega⟩, ⟨by omega, by omega⟩, ⟨by omega, by omega⟩, fun p hp => ?_⟩
  obtain ⟨h1, h2, h3, h4, h5, h6, e, h7, h8, h9⟩ := h
  have hm := chain_mem ps 0 e h7 h6 p hp
  obtain ⟨s1, s2, s3, s4⟩ := h6 p hp
  exact ⟨⟨by omega, by omega⟩, ⟨by omega, by omega⟩, ⟨by omega, by omega⟩⟩
theorem GoodC.sum {fr dp se : Int} {ps : List Pt} (h : GoodC fr dp se ps) (d : Int) (h0 : -3 ≤ d) (h1 : d ≤ 3) : ck (fr + d) dp se ps = if fr + d < 1 then (2, 0) else if d = 0 then (0, 0) else (9, 0) := by
  have hb := h.bounds
  have hq := h.2.2.2.2.1
  split
  · have : numF ps.length (fr + d) dp se = 2 := by unfold numF; rw [if_neg (by omega), if_pos (by omega)]
    rw [ck_num (by omega), this]
  · split
    · rename_i hd; subst hd; rw [Int.add_zero]; exact h.okc
    · exact ck_sum (numF_of (by omega)) h.nopf (by omega)

/-- how many of the first n sectors a part has -/
theorem count_has (p : Pt) (n : Nat) (h0 : 0 ≤ p.b) (hg : 1 ≤ p.g) : ((List.range n).countP (fun s : Nat => hasB p (s : Int)) : Int) = if (n : Int) ≤ p.b then 0 else if (n : Int) ≤ p.b + 2 * p.g then n - p.b else 2 * p.g := by
  induction n with
  | zero => simp; omega
  | succ n ih =>
    rw [List.range_succ, List.countP_append]
    simp only [List.countP_cons, List.countP_nil, hasB, Bool.and_eq_true, decide_eq_true_eq] at ih ⊢
    push_cast
    rw [ih]
    repeat' split
    all_goals omega
/-- .. and how many all of them have, which do not meet -/
theorem count_any (se : Nat) : ∀ (ps : List Pt) (a e : Int), 0 ≤ a → chain a ps e → (∀ p ∈ ps, Small p) → e ≤ se → ((List.range se).countP (fun s : Nat => ps.any (fun p => hasB p (s : Int))) : Int) = gsum ps
  | [], a, e, _, h, _, _ => by simp [gsum]
  | x :: ps, a, e, h0, ⟨h1, h2, h3⟩, hs, he => by
    have hs' : ∀ p ∈ ps, Small p := fun y hy => hs y (List.mem_cons_of_mem _ hy)
    obtain ⟨_, _, hg, _⟩ := hs x (List.mem_cons_self ..)
    have hle := chain_le ps _ e h3 hs'
    have hm := chain_mem ps _ e h3 hs'
    have ih := count_any se ps _ e (by omega) h3 hs' he
    have hx := count_has x se (by omega) hg
    rw [if_neg (by omega)] at hx
    have hx' : ((List.range se).countP (fun s : Nat => hasB x (s : Int)) : Int) = 2 * x.g := by
      rw [hx]; split <;> omega
    have hsplit : ∀ l : List Nat, l.countP (fun s : Nat => (x :: ps).any (fun p => hasB p (s : Int))) = l.countP (fun s : Nat => hasB x (s : Int)) + l.countP (fun s : Nat => ps.any (fun p => hasB p (s : Int))) := by
      intro l
      induction l with
      | nil => rfl
      | cons s l ih =>
        simp only [List.countP_cons, List.any_cons, ih]
        have hnb : ¬ (hasB x (s : Int) = true ∧ ps.any (fun p => hasB p (s : Int)) = true) := by
          rintro ⟨ha, hb⟩
          rw [List.any_eq_true] at hb
          obtain ⟨y, hy, hys⟩ := hb
          have := hm y hy
          simp only [hasB, Bool.and_eq_true, decide_eq_true_eq] at ha hys
          omega
        cases ha : hasB x (s : Int) <;> cases hb : ps.any (fun p => hasB p (s : Int)) <;> simp_all <;> omega
    rw [hsplit]
    push_cast
    rw [hx', ih, gsum]
/-- the sectors that are no part's -/
def freeN (ps : List Pt) (n : Nat) : Nat := (List.range n).countP (fun s : Nat => ! ps.any (fun p => hasB p (s : Int)))
theorem freeN_next (ps : List Pt) (n : Nat) : freeN ps (n + 1) = freeN ps n + (if ps.any (fun p => hasB p (n : Int)) = true then 0 else 1) := by
  unfold freeN
  rw [List.range_succ, List.countP_append]
  cases h : ps.any (fun p => hasB p (n : Int)) <;> simp [List.countP_cons, h]
theorem GoodC.free {fr dp se : Int} {ps : List Pt} (h : GoodC fr dp se ps) : (freeN ps se.toNat : Int) = se - gsum ps := by
  have hb := h.bounds
  obtain ⟨h1, h2, h3, h4, h5, h6, e, h7, h8, h9⟩ := h
  have hc := count_any se.toNat ps 0 e (by omega) h7 h6 (by omega)
  have : ∀ l : List Nat, l.countP (fun s : Nat => ! ps.any (fun p => hasB p (s : Int))) + l.countP (fun s : Nat => ps.any (fun p => hasB p (s : Int))) = l.length := by
    intro l
    induction l with
    | nil => rfl
    | cons s l ih =>
      simp only [List.countP_cons, List.length_cons]
      cases hb : ps.any (fun p => hasB p (s : Int)) <;> simp <;> omega
  have := this (List.range se.toNat)
  rw [List.length_range] at this
  unfold freeN
  omega
theorem gsum_small : ∀ (ps : List Pt), (∀ p ∈ ps, Small p) → 0 ≤ gsum ps ∧ gsum ps ≤ 8 * ps.length
  | [], _ => by simp [gsum]
  | p :: ps, hs => by
    have := gsum_small ps (fun x hx => hs x (List.mem_cons_of_mem _ hx))
    obtain ⟨_, _, _, _⟩ := hs p (List.mem_cons_self ..)
    simp only [gsum, List.length_cons]
    omega

/-- are two parts the same? -/
def eqP (a b : Pt) : Bool := a.q == b.q && a.b == b.b && a.g == b.g
theorem eqP_eq {a b : Pt} (h : eqP a b = true) : a = b := by
  simp only [eqP, Bool.and_eq_true, beq_iff_eq] at h
  obtain ⟨⟨h1, h2⟩, h3⟩ := h
  cases a; cases b; simp_all
theorem eqP_self (a : Pt) : eqP a a = true := by simp [eqP]
def allEq (ps qs : List Pt) : Bool := (List.range ps.length).all (fun i => eqP (ps.getD i Pt.zero) (qs.getD i Pt.zero))
def sameG (f1 d1 s1 : Int) (ps : List Pt) (f2 d2 s2 : Int) (qs : List Pt) : Bool := f1 == f2 && d1 == d2 && s1 == s2 && ps.length == qs.length && allEq ps qs
theorem allEq_no {ps qs : List Pt} {i : Nat} (hi : i < ps.length) (h : eqP (ps.getD i Pt.zero) (qs.getD i Pt.zero) = false) : allEq ps qs = false := by
  cases ha : allEq ps qs with
  | false => rfl
  | true =>
    unfold allEq at ha
    rw [List.all_eq_true] at ha
    rw [ha i (List.mem_range.2 hi)] at h
    cases h
theorem allEq_yes {ps qs : List Pt} (h : ∀ i, i < ps.length → eqP (ps.getD i Pt.zero) (qs.getD i Pt.zero) = true) : allEq ps qs = true := by
  unfold allEq
  rw [List.all_eq_true]
  exact fun i hi => h i (List.mem_range.1 hi)
theorem sameG_self (f d s : Int) (ps : List Pt) : sameG f d s ps f d s ps = true := by
  simp [sameG, allEq_yes (fun i _ => eqP_self _)]
end Go.Proofs.Ytfjfbcgjocpmoaa
