/-
  What a turn of the clock is, as a function of lists: looks one behind the other, and what comes of them. Conditions: each theorem's own.
-/
import Derived.Test.YtabhbeknpchpkaaLibS
namespace Go.Proofs.Ytabhbeknpchpkaa
open Go.RowKit
set_option linter.unusedVariables false

/-- what is known of a frame -/
structure Fl where
  u : Bool
  d : Bool
  r : Bool
  p : Int
def Fl.zero : Fl := ⟨false, false, false, 0⟩
def Fl.cs (x : Fl) : List Value := [.bool x.u, .bool x.d, .bool x.r, .int .i64 x.p]
theorem Fl.cs_length (x : Fl) : x.cs.length = 4 := rfl
theorem Fl.cs_one (x : Fl) : ∀ v ∈ x.cs, v.oneCell' = true := by
  intro v hv
  simp only [Fl.cs, List.mem_cons, List.not_mem_nil, or_false] at hv
  rcases hv with rfl | rfl | rfl | rfl <;> rfl
/-- may it go, ahead of its Ref? -/
def Fl.may (x : Fl) : Bool := !x.u || decide (x.p ≤ 0)
/-- is it the victim, at a look? -/
def Fl.hit (x : Fl) : Bool := !x.u || (decide (x.p ≤ 0) && !x.r)
/-- it is not referred to any more -/
def Fl.cool (x : Fl) : Fl := ⟨x.u, x.d, false, x.p⟩
/-- what a look leaves of it -/
def Fl.pass (x : Fl) : Fl := if x.u && decide (x.p ≤ 0) && x.r then x.cool else x

theorem Fl.hit_may {x : Fl} (h : x.hit = true) : x.may = true := by
  simp only [Fl.hit, Fl.may, Bool.or_eq_true, Bool.and_eq_true] at *
  rcases h with h | h
  · exact .inl h
  · exact .inr h.1
theorem Fl.hit_pass {x : Fl} (h : x.hit = true) : x.pass = x := by
  simp only [Fl.hit, Fl.pass] at *
  cases hu : x.u <;> cases hr : x.r <;> simp_all
theorem Fl.pass_hit (x : Fl) : x.pass.hit = x.may := by
  simp only [Fl.hit, Fl.may, Fl.pass, Fl.cool]
  split
  · rename_i h
    simp only [Bool.and_eq_true, decide_eq_true_eq] at h
    simp [h.1.1, h.1.2]
  · rename_i h
    cases hu : x.u <;> cases hr : x.r <;> simp_all
theorem Fl.pass_pass (x : Fl) : x.pass.pass = x.pass := by
  unfold Fl.pass Fl.cool
  cases hu : x.u <;> cases hr : x.r <;> simp [hu, hr]
  by_cases h : x.p ≤ 0 <;> simp [h, hr]
theorem Fl.pass_stay {x : Fl} (h : x.may = false) : x.pass = x := by
  unfold Fl.pass
  simp only [Fl.may, Bool.or_eq_false_iff] at h
  rw [h.2]
  simp
theorem Fl.pass_u (x : Fl) : x.pass.u = x.u := by unfold Fl.pass Fl.cool; split <;> rfl
theorem Fl.pass_d (x : Fl) : x.pass.d = x.d := by unfold Fl.pass Fl.cool; split <;> rfl
theorem Fl.pass_p (x : Fl) : x.pass.p = x.p := by unfold Fl.pass Fl.cool; split <;> rfl
theorem Fl.pass_r {x : Fl} (h : x.pass.r = true) : x.r = true := by
  unfold Fl.pass Fl.cool at h
  split at h
  · simp at h
  · exact h
theorem Fl.pass_pinned {x : Fl} (h : 0 < x.p) : x.pass = x := by
  unfold Fl.pass
  have : decide (x.p ≤ 0) = false := by simp; omega
  simp [this]

/-- looks one behind the other, m at most, k done already: how many were wanted (0: there is no victim), and the flags behind them -/
def scn (h : Nat) : Nat → Nat → List Fl → Nat × List Fl
  | 0, _, l => (0, l)
  | m + 1, k, l => if (l.getD ((h + k) % l.length) Fl.zero).hit then (k + 1, l) else scn h m (k + 1) (l.set ((h + k) % l.length) (l.getD ((h + k) % l.length) Fl.zero).pass)
theorem scn_zero (h k : Nat) (l : List Fl) : scn h 0 k l = (0, l) := rfl
theorem scn_hit {h m k : Nat} {l : List Fl} (x : Fl) (hx : l.getD ((h + k) % l.length) Fl.zero = x) (hh : x.hit = true) : scn h (m + 1) k l = (k + 1, l) := by
  subst hx
  simp only [scn]; rw [if_pos hh]
theorem scn_pass {h m k : Nat} {l : List Fl} (x : Fl) (hx : l.getD ((h + k) % l.length) Fl.zero = x) (hh : x.hit = false) : scn h (m + 1) k l = scn h m (k + 1) (l.set ((h + k) % l.length) x.pass) := by
  subst hx
  simp only [scn]; rw [if_neg (by rw [hh]; exact Bool.false_ne_true)]

/-- a turn: looks and flags -/
def trn (l : List Fl) (h : Nat) : Nat × List Fl := scn h (2 * l.length) 0 l
def vic (l : List Fl) (h : Nat) : Nat := if (trn l h).1 = 0 then 0 else (h + ((trn l h).1 - 1)) % l.length
def hnd (l : List Fl) (h : Nat) : Nat := if (trn l h).1 = 0 then h else (vic l h + 1) % l.length

theorem mod3 {x n : Nat} (h : x < 3 * n) : x % n = if x < n then x else if x < 2 * n then x - n else x - 2 * n := by
  split
  · exact Nat.mod_eq_of_lt (by assumption)
  · split
    · rw [Nat.mod_eq_sub_mod (by omega), Nat.mod_eq_of_lt (by omega)]
    · rw [Nat.mod_eq_sub_mod (by omega), Nat.mod_eq_sub_mod (by omega), Nat.mod_eq_of_lt (by omega)]; omega

/-- how far a place is from the hand -/
def rel (h n i : Nat) : Nat := if h ≤ i then i - h else i + n - h
theorem rel_lt {h n i : Nat} (hh : h < n) (hi : i < n) : rel h n i < n := by unfold rel; split <;> omega
theorem rel_at {h n k : Nat} (hh : h < n) (hk : k < 2 * n) : rel h n ((h + k) % n) = if k < n then k else k - n := by
  have := mod3 (x := h + k) (n := n) (by omega)
  unfold rel
  rw [this]
  repeat' split
  all_goals omega
theorem at_rel {h n i : Nat} (hh : h < n) (hi : i < n) : (h + rel h n i) % n = i := by
  have := mod3 (x := h + rel h n i) (n := n) (by have := rel_lt hh hi; omega)
  rw [this]
  unfold rel
  repeat' split
  all_goals omega
theorem at_again (h n k : Nat) : (h + (n + k)) % n = (h + k) % n := by
  rw [show h + (n + k) = (h + k) + n by omega, Nat.add_mod_right]

/-- the flags behind k looks that found none -/
def aft (l : List Fl) (h k : Nat) : List Fl := (List.range l.length).map (fun i => if rel h l.length i < k then (l.getD i Fl.zero).pass else l.getD i Fl.zero)
theorem aft_len (l : List Fl) (h k : Nat) : (aft l h k).length = l.length := by simp [aft]
theorem aft_get (l : List Fl) (h k : Nat) {i : Nat} (hi : i < l.length) : (aft l h k).getD i Fl.zero = if rel h l.length i < k then (l.getD i Fl.zero).pass else l.getD i Fl.zero := by
  simp [aft, List.getD, hi]
theorem getD_is {l : List Fl} {i : Nat} (hi : i < l.length) : l.getD i Fl.zero = l[i] := by simp [List.getD, hi]
theorem ext_getD {a b : List Fl} (hl : a.length = b.length) (h : ∀ i, i < a.length → a.getD i Fl.zero = b.getD i Fl.zero) : a = b := by
  apply List.ext_getElem hl
  intro i h1 h2
  have := h i h1
  rw [getD_is h1, getD_is h2] at this
  exact this
theorem aft_zero (l : List Fl) (h : Nat) : aft l h 0 = l := ext_getD (aft_len l h 0) (fun i hi => by
  rw [aft_len] at hi
  rw [aft_get l h 0 hi, if_neg (by omega)])
theorem getD_setF {l : List Fl} {i j : Nat} {x : Fl} (hj : j < l.length) : (l.set i x).getD j Fl.zero = if i = j then x else l.getD j Fl.zero := by
  rw [getD_is (by rw [List.length_set]; exact hj), List.getElem_set]
  split
  · rfl
  · rw [getD_is hj]
theorem aft_succ {l : List Fl} {h k : Nat} (hh : h < l.length) (hk : k < 2 * l.length) : aft l h (k + 1) = (aft l h k).set ((h + k) % l.length) ((aft l h k).getD ((h + k) % l.length) Fl.zero).pass := by
  have hlt : (h + k) % l.length < l.length := Nat.mod_lt _ (by omega)
  have hr := rel_at hh hk
  refine ext_getD (by rw [List.length_set, aft_len, aft_len]) (fun i hi => ?_)
  rw [aft_len] at hi
  rw [getD_setF (by rw [aft_len]; exact hi), aft_get l h (k + 1) hi]
  split
  · rename_i h1
    split
    · rename_i h2
      subst h2
      rw [aft_get l h k hlt]
      split
      · rw [Fl.pass_pass]
      · rfl
    · rename_i h2
      rw [aft_get l h k hi, if_pos]
      have e := at_rel hh hi
      have : rel h l.length i ≠ k := fun e' => h2 (by rw [← e', e])
      omega
  · rename_i h1
    have h2 : ¬ (h + k) % l.length = i := fun e => by
      subst e
      rw [hr] at h1
      split at h1 <;> omega
    rw [if_neg h2, aft_get l h k hi, if_neg (by omega)]

/-- does the look number k find the victim? -/
def hitAt (l : List Fl) (h k : Nat) : Bool := ((aft l h k).getD ((h + k) % l.length) Fl.zero).hit
theorem hitAt_first {l : List Fl} {h k : Nat} (hh : h < l.length) (hk : k < l.length) : hitAt l h k = (l.getD ((h + k) % l.length) Fl.zero).hit := by
  have hlt : (h + k) % l.length < l.length := Nat.mod_lt _ (by omega)
  unfold hitAt
  rw [aft_get l h k hlt, rel_at hh (by omega), if_pos hk, if_neg (by omega)]
theorem hitAt_second {l : List Fl} {h k : Nat} (hh : h < l.length) (h1 : l.length ≤ k) (hk : k < 2 * l.length) : hitAt l h k = (l.getD ((h + k) % l.length) Fl.zero).may := by
  have hlt : (h + k) % l.length < l.length := Nat.mod_lt _ (by omega)
  unfold hitAt
  rw [aft_get l h k hlt, rel_at hh hk, if_neg (show ¬ k < l.length by omega), if_pos (by omega), Fl.pass_hit]
theorem hitAt_may {l : List Fl} {h k : Nat} (hh : h < l.length) (hk : k < 2 * l.length) (hx : hitAt l h k = true) : (l.getD ((h + k) % l.length) Fl.zero).may = true := by
  by_cases h1 : k < l.length
  · rw [hitAt_first hh h1] at hx; exact Fl.hit_may hx
  · rw [hitAt_second hh (by omega) hk] at hx; exact hx

theorem scn_cases {l : List Fl} {h : Nat} (hh : h < l.length) : ∀ (m k : Nat), k + m = 2 * l.length →
    (∃ j, k ≤ j ∧ j < 2 * l.length ∧ hitAt l h j = true ∧ (∀ i, k ≤ i → i < j → hitAt l h i = false) ∧ scn h m k (aft l h k) = (j + 1, aft l h j)) ∨
    ((∀ i, k ≤ i → i < 2 * l.length → hitAt l h i = false) ∧ scn h m k (aft l h k) = (0, aft l h (2 * l.length)))
  | 0, k, e => .inr ⟨fun i h1 h2 => by omega, by rw [scn_zero, show k = 2 * l.length by omega]⟩
  | m + 1, k, e => by
    have hx : (aft l h k).getD ((h + k) % (aft l h k).length) Fl.zero = (aft l h k).getD ((h + k) % l.length) Fl.zero := by rw [aft_len]
    cases hk : hitAt l h k with
    | true =>
      refine .inl ⟨k, Nat.le_refl _, by omega, hk, fun i h1 h2 => by omega, ?_⟩
      exact scn_hit _ hx hk
    | false =>
      have e1 := scn_pass (m := m) _ hx hk
      rw [aft_len, ← aft_succ hh (by omega)] at e1
      rcases scn_cases hh m (k + 1) (by omega) with ⟨j, h1, h2, h3, h4, h5⟩ | ⟨h1, h2⟩
      · refine .inl ⟨j, by omega, h2, h3, fun i h6 h7 => ?_, by rw [e1, h5]⟩
        by_cases e' : i = k
        · rw [e']; exact hk
        · exact h4 i (by omega) h7
      · refine .inr ⟨fun i h6 h7 => ?_, by rw [e1, h2]⟩
        by_cases e' : i = k
        · rw [e']; exact hk
        · exact h1 i (by omega) h7

/-- a turn, whole: the first look that finds one, or none -/
theorem trn_cases {l : List Fl} {h : Nat} (hh : h < l.length) :
    (∃ j, j < 2 * l.length ∧ hitAt l h j = true ∧ (∀ i, i < j → hitAt l h i = false) ∧ trn l h = (j + 1, aft l h j)) ∨
    ((∀ i, i < 2 * l.length → hitAt l h i = false) ∧ trn l h = (0, aft l h (2 * l.length))) := by
  have := scn_cases hh (2 * l.length) 0 (by omega)
  rw [aft_zero] at this
  rcases this with ⟨j, _, h2, h3, h4, h5⟩ | ⟨h1, h2⟩
  · exact .inl ⟨j, h2, h3, fun i hi => h4 i (by omega) hi, h5⟩
  · exact .inr ⟨fun i hi => h1 i (by omega) hi, h2⟩

/-- how many may go -/
def freeN (l : List Fl) : Nat := (l.filter Fl.may).length
theorem freeN_pos {l : List Fl} (h : 0 < freeN l) : ∃ i, i < l.length ∧ (l.getD i Fl.zero).may = true := by
  unfold freeN at h
  obtain ⟨x, hx⟩ := List.exists_mem_of_length_pos h
  rw [List.mem_filter] at hx
  obtain ⟨i, hi, e⟩ := List.getElem_of_mem hx.1
  exact ⟨i, hi, by rw [getD_is hi, e]; exact hx.2⟩
theorem freeN_zero {l : List Fl} (h : freeN l = 0) {i : Nat} (hi : i < l.length) : (l.getD i Fl.zero).may = false := by
  have h0 := List.eq_nil_of_length_eq_zero h
  rw [List.filter_eq_nil_iff] at h0
  have := h0 _ (List.getElem_mem hi)
  rw [getD_is hi]
  simpa using this

theorem vic_lt {l : List Fl} {h : Nat} (hh : h < l.length) : vic l h < l.length := by
  unfold vic
  split
  · omega
  · exact Nat.mod_lt _ (by omega)
theorem hnd_lt {l : List Fl} {h : Nat} (hh : h < l.length) : hnd l h < l.length := by
  unfold hnd
  split
  · exact hh
  · exact Nat.mod_lt _ (by omega)
theorem trn_len {l : List Fl} {h : Nat} (hh : h < l.length) : (trn l h).2.length = l.length := by
  rcases trn_cases hh with ⟨j, _, _, _, e⟩ | ⟨_, e⟩ <;> rw [e] <;> exact aft_len _ _ _
theorem trn_looks {l : List Fl} {h : Nat} (hh : h < l.length) : (trn l h).1 ≤ 2 * l.length := by
  rcases trn_cases hh with ⟨j, _, _, _, e⟩ | ⟨_, e⟩ <;> rw [e]
  · show j + 1 ≤ _; omega
  · exact Nat.zero_le _
/-- what is found, and where -/
theorem trn_some {l : List Fl} {h : Nat} (hh : h < l.length) (hf : 0 < freeN l) : ∃ j, j < 2 * l.length ∧ hitAt l h j = true ∧ (∀ i, i < j → hitAt l h i = false) ∧ trn l h = (j + 1, aft l h j) ∧ vic l h = (h + j) % l.length := by
  obtain ⟨i, hi, hm⟩ := freeN_pos hf
  rcases trn_cases hh with ⟨j, h1, h2, h3, e⟩ | ⟨h1, e⟩
  · exact ⟨j, h1, h2, h3, e, by unfold vic; rw [e]; rfl⟩
  · have hr := rel_lt hh hi
    have := h1 (l.length + rel h l.length i) (by omega)
    rw [hitAt_second hh (by omega) (by omega), at_again, at_rel hh hi, hm] at this
    cases this
theorem trn_none {l : List Fl} {h : Nat} (hh : h < l.length) (hf : freeN l = 0) : trn l h = (0, l) := by
  rcases trn_cases hh with ⟨j, h1, h2, h3, e⟩ | ⟨h1, e⟩
  · have := hitAt_may hh h1 h2
    rw [freeN_zero hf (Nat.mod_lt _ (by omega))] at this
    cases this
  · rw [e]
    congr 1
    refine ext_getD (aft_len _ _ _) (fun i hi => ?_)
    rw [aft_len] at hi
    rw [aft_get _ _ _ hi]
    split
    · exact Fl.pass_stay (freeN_zero hf hi)
    · rfl
theorem vic_may {l : List Fl} {h : Nat} (hh : h < l.length) (hf : 0 < freeN l) : (l.getD (vic l h) Fl.zero).may = true := by
  obtain ⟨j, h1, h2, h3, e, hv⟩ := trn_some hh hf
  rw [hv]; exact hitAt_may hh h1 h2
/-- one that is referred to is passed by, if another one is not -/
theorem vic_hit {l : List Fl} {h : Nat} (hh : h < l.length) {i : Nat} (hi : i < l.length) (hx : (l.getD i Fl.zero).hit = true) : (l.getD (vic l h) Fl.zero).hit = true := by
  have hf : 0 < freeN l := by
    by_cases h0 : freeN l = 0
    · have := freeN_zero h0 hi
      rw [Fl.hit_may hx] at this; cases this
    · omega
  obtain ⟨j, h1, h2, h3, e, hv⟩ := trn_some hh hf
  have hr := rel_lt hh hi
  have hri : hitAt l h (rel h l.length i) = true := by rw [hitAt_first hh hr, at_rel hh hi]; exact hx
  have hj : j < l.length := by
    by_cases hj : j < l.length
    · exact hj
    · rw [h3 _ (by omega)] at hri; cases hri
  rw [hv, ← hitAt_first hh hj]; exact h2
/-- what is left of each: as it was, or passed by -/
theorem trn_each {l : List Fl} {h : Nat} (hh : h < l.length) {i : Nat} (hi : i < l.length) : (trn l h).2.getD i Fl.zero = l.getD i Fl.zero ∨ (trn l h).2.getD i Fl.zero = (l.getD i Fl.zero).pass := by
  rcases trn_cases hh with ⟨j, _, _, _, e⟩ | ⟨_, e⟩ <;> rw [e] <;> simp only [] <;> rw [aft_get _ _ _ hi] <;> split <;> simp
end Go.Proofs.Ytabhbeknpchpkaa
