/-
  What a turn of the clock is, as a function of lists: looks one behind the other, and what comes of them. Conditions: each theorem's own.
  Openers: what a struct of integers, a slice of structs, read as. Conditions: each theorem's own.
  Flags in memory: slices of them, one of them; what their type says. Conditions: each theorem's own.
  The walks of the law's 'as' and 'of'. Conditions: each theorem's own.
  The walks of Clone, of both Frees, and of Same where both are the same. Conditions: each theorem's own.
  The walk of the closure of a search: one look. Conditions: each theorem's own.
  The walk of a search, of Turn and of Rounds. Conditions: each theorem's own.
  The walk of Good: flags, made such as may be. Conditions: each theorem's own.
-/
import Derived.Test.YtgpigllimoafaaaLibA
import Derived.ProofKit
import Derived.OpenShut
import Derived.Deep.Slices
import Derived.Test.YtgpigllimoafaaaAround
import Derived.Test.YtgpigllimoafaaaEnds
import Derived.Deep.LoopGhost
import Derived.Deep.CutRange

/- What a turn of the clock is, as a function of lists: looks one behind the other, and what comes of them. Conditions: each theorem's own. -/
namespace Go.Proofs.Ytgpigllimoafaaa
open Go.RowKit
set_option linter.unusedVariables false

/-- what is known of a frame -/
structure Fl where
  u : Bool
  d : Bool
  r : Bool
  p : Int
def Fl.zero : Fl := ⟨false, false, false, 0⟩
def Fl.cs (x : Fl) : List Value := [.bool x.u, .bool x.d, .bool x.r, .int .i64 x.p]
theorem Fl.cs_length (x : Fl) : x.cs.length = 4 := rfl
theorem Fl.cs_one (x : Fl) : ∀ v ∈ x.cs, v.oneCell' = true := by
  intro v hv
  simp only [Fl.cs, List.mem_cons, List.not_mem_nil, or_false] at hv
  rcases hv with rfl | rfl | rfl | rfl <;> rfl
/-- may it go, ahead of its Ref? -/
def Fl.may (x : Fl) : Bool := !x.u || decide (x.p ≤ 0)
/-- is it the victim, at a look? -/
def Fl.hit (x : Fl) : Bool := !x.u || (decide (x.p ≤ 0) && !x.r)
/-- it is not referred to any more -/
def Fl.cool (x : Fl) : Fl := ⟨x.u, x.d, false, x.p⟩
/-- what a look leaves of it -/
def Fl.pass (x : Fl) : Fl := if x.u && decide (x.p ≤ 0) && x.r then x.cool else x

theorem Fl.hit_may {x : Fl} (h : x.hit = true) : x.may = true := by
  simp only [Fl.hit, Fl.may, Bool.or_eq_true, Bool.and_eq_true] at *
  rcases h with h | h
  · exact .inl h
  · exact .inr h.1
theorem Fl.hit_pass {x : Fl} (h : x.hit = true) : x.pass = x := by
  simp only [Fl.hit, Fl.pass] at *
  cases hu : x.u <;> cases hr : x.r <;> simp_all
theorem Fl.pass_hit (x : Fl) : x.pass.hit = x.may := by
  simp only [Fl.hit, Fl.may, Fl.pass, Fl.cool]
  split
  · rename_i h
    simp only [Bool.and_eq_true, decide_eq_true_eq] at h
    simp [h.1.1, h.1.2]
  · rename_i h
    cases hu : x.u <;> cases hr : x.r <;> simp_all
theorem Fl.pass_pass (x : Fl) : x.pass.pass = x.pass := by
  unfold Fl.pass Fl.cool
  cases hu : x.u <;> cases hr : x.r <;> simp [hu, hr]
  by_cases h : x.p ≤ 0 <;> simp [h, hr]
theorem Fl.pass_stay {x : Fl} (h : x.may = false) : x.pass = x := by
  unfold Fl.pass
  simp only [Fl.may, Bool.or_eq_false_iff] at h
  rw [h.2]
  simp
theorem Fl.pass_u (x : Fl) : x.pass.u = x.u := by unfold Fl.pass Fl.cool; split <;> rfl
theorem Fl.pass_d (x : Fl) : x.pass.d = x.d := by unfold Fl.pass Fl.cool; split <;> rfl
theorem Fl.pass_p (x : Fl) : x.pass.p = x.p := by unfold Fl.pass Fl.cool; split <;> rfl
theorem Fl.pass_r {x : Fl} (h : x.pass.r = true) : x.r = true := by
  unfold Fl.pass Fl.cool at h
  split at h
  · simp at h
  · exact h
theorem Fl.pass_pinned {x : Fl} (h : 0 < x.p) : x.pass = x := by
  unfold Fl.pass
  have : decide (x.p ≤ 0) = false := by simp; omega
  simp [this]

/-- looks one behind the other, m at most, k done already: how many were wanted (0: there is no victim), and the flags behind them -/
def scn (h : Nat) : Nat → Nat → List Fl → Nat × List Fl
  | 0, _, l => (0, l)
  | m + 1, k, l => if (l.getD ((h + k) % l.length) Fl.zero).hit then (k + 1, l) else scn h m (k + 1) (l.set ((h + k) % l.length) (l.getD ((h + k) % l.length) Fl.zero).pass)
theorem scn_zero (h k : Nat) (l : List Fl) : scn h 0 k l = (0, l) := rfl
theorem scn_hit {h m k : Nat} {l : List Fl} (x : Fl) (hx : l.getD ((h + k) % l.length) Fl.zero = x) (hh : x.hit = true) : scn h (m + 1) k l = (k + 1, l) := by
  subst hx
  simp only [scn]; rw [if_pos hh]
theorem scn_pass {h m k : Nat} {l : List Fl} (x : Fl) (hx : l.getD ((h + k) % l.length) Fl.zero = x) (hh : x.hit = false) : scn h (m + 1) k l = scn h m (k + 1) (l.set ((h + k) % l.length) x.pass) := by
  subst hx
  simp only [scn]; rw [if_neg (by rw [hh]; exact Bool.false_ne_true)]

/-- a turn: looks and flags -/
def trn (l : List Fl) (h : Nat) : Nat × List Fl := scn h (2 * l.length) 0 l
def vic (l : List Fl) (h : Nat) : Nat := if (trn l h).1 = 0 then 0 else (h + ((trn l h).1 - 1)) % l.length
def hnd (l : List Fl) (h : Nat) : Nat := if (trn l h).1 = 0 then h else (vic l h + 1) % l.length

theorem mod3 {x n : Nat} (h : x < 3 * n) : x % n = if x < n then x else if x < 2 * n then x - n else x - 2 * n := by
  split
  · exact Nat.mod_eq_of_lt (by assumption)
  · split
    · rw [Nat.mod_eq_sub_mod (by omega), Nat.mod_eq_of_lt (by omega)]
    · rw [Nat.mod_eq_sub_mod (by omega), Nat.mod_eq_sub_mod (by omega), Nat.mod_eq_of_lt (by omega)]; omega

/-- how far a place is from the hand -/
def rel (h n i : Nat) : Nat := if h ≤ i then i - h else i + n - h
theorem rel_lt {h n i : Nat} (hh : h < n) (hi : i < n) : rel h n i < n := by unfold rel; split <;> omega
theorem rel_at {h n k : Nat} (hh : h < n) (hk : k < 2 * n) : rel h n ((h + k) % n) = if k < n then k else k - n := by
  have := mod3 (x := h + k) (n := n) (by omega)
  unfold rel
  rw [this]
  repeat' split
  all_goals omega
theorem at_rel {h n i : Nat} (hh : h < n) (hi : i < n) : (h + rel h n i) % n = i := by
  have := mod3 (x := h + rel h n i) (n := n) (by have := rel_lt hh hi; omega)
  rw [this]
  unfold rel
  repeat' split
  all_goals omega
theorem at_again (h n k : Nat) : (h + (n + k)) % n = (h + k) % n := by
  rw [show h + (n + k) = (h + k) + n by omega, Nat.add_mod_right]

/-- the flags behind k looks that found none -/
def aft (l : List Fl) (h k : Nat) : List Fl := (List.range l.length).map (fun i => if rel h l.length i < k then (l.getD i Fl.zero).pass else l.getD i Fl.zero)
theorem aft_len (l : List Fl) (h k : Nat) : (aft l h k).length = l.length := by simp [aft]
theorem aft_get (l : List Fl) (h k : Nat) {i : Nat} (hi : i < l.length) : (aft l h k).getD i Fl.zero = if rel h l.length i < k then (l.getD i Fl.zero).pass else l.getD i Fl.zero := by
  simp [aft, List.getD, hi]
theorem getD_is {l : List Fl} {i : Nat} (hi : i < l.length) : l.getD i Fl.zero = l[i] := by simp [List.getD, hi]
theorem ext_getD {a b : List Fl} (hl : a.length = b.length) (h : ∀ i, i < a.length → a.getD i Fl.zero = b.getD i Fl.zero) : a = b := by
  apply List.ext_getElem hl
  intro i h1 h2
  have := h i h1
  rw [getD_is h1, getD_is h2] at this
  exact this
theorem aft_zero (l : List Fl) (h : Nat) : aft l h 0 = l := ext_getD (aft_len l h 0) (fun i hi => by
  rw [aft_len] at hi
  rw [aft_get l h 0 hi, if_neg (by omega)])
theorem getD_setF {l : List Fl} {i j : Nat} {x : Fl} (hj : j < l.length) : (l.set i x).getD j Fl.zero = if i = j then x else l.getD j Fl.zero := by
  rw [getD_is (by rw [List.length_set]; exact hj), List.getElem_set]
  split
  · rfl
  · rw [getD_is hj]
theorem aft_succ {l : List Fl} {h k : Nat} (hh : h < l.length) (hk : k < 2 * l.length) : aft l h (k + 1) = (aft l h k).set ((h + k) % l.length) ((aft l h k).getD ((h + k) % l.length) Fl.zero).pass := by
  have hlt : (h + k) % l.length < l.length := Nat.mod_lt _ (by omega)
  have hr := rel_at hh hk
  refine ext_getD (by rw [List.length_set, aft_len, aft_len]) (fun i hi => ?_)
  rw [aft_len] at hi
  rw [getD_setF (by rw [aft_len]; exact hi), aft_get l h (k + 1) hi]
  split
  · rename_i h1
    split
    · rename_i h2
      subst h2
      rw [aft_get l h k hlt]
      split
      · rw [Fl.pass_pass]
      · rfl
    · rename_i h2
      rw [aft_get l h k hi, if_pos]
      have e := at_rel hh hi
      have : rel h l.length i ≠ k := fun e' => h2 (by rw [← e', e])
      omega
  · rename_i h1
    have h2 : ¬ (h + k) % l.length = i := fun e => by
      subst e
      rw [hr] at h1
      split at h1 <;> omega
    rw [if_neg h2, aft_get l h k hi, if_neg (by omega)]

/-- does the look number k find the victim? -/
def hitAt (l : List Fl) (h k : Nat) : Bool := ((aft l h k).getD ((h + k) % l.length) Fl.zero).hit
theorem hitAt_first {l : List Fl} {h k : Nat} (hh : h < l.length) (hk : k < l.length) : hitAt l h k = (l.getD ((h + k) % l.length) Fl.zero).hit := by
  have hlt : (h + k) % l.length < l.length := Nat.mod_lt _ (by omega)
  unfold hitAt
  rw [aft_get l h k hlt, rel_at hh (by omega), if_pos hk, if_neg (by omega)]
theorem hitAt_second {l : List Fl} {h k : Nat} (hh : h < l.length) (h1 : l.length ≤ k) (hk : k < 2 * l.length) : hitAt l h k = (l.getD ((h + k) % l.length) Fl.zero).may := by
  have hlt : (h + k) % l.length < l.length := Nat.mod_lt _ (by omega)
  unfold hitAt
  rw [aft_get l h k hlt, rel_at hh hk, if_neg (show ¬ k < l.length by omega), if_pos (by omega), Fl.pass_hit]
theorem hitAt_may {l : List Fl} {h k : Nat} (hh : h < l.length) (hk : k < 2 * l.length) (hx : hitAt l h k = true) : (l.getD ((h + k) % l.length) Fl.zero).may = true := by
  by_cases h1 : k < l.length
  · rw [hitAt_first hh h1] at hx; exact Fl.hit_may hx
  · rw [hitAt_second hh (by omega) hk] at hx; exact hx

theorem scn_cases {l : List Fl} {h : Nat} (hh : h < l.length) : ∀ (m k : Nat), k + m = 2 * l.length →
    (∃ j, k ≤ j ∧ j < 2 * l.length ∧ hitAt l h j = true ∧ (∀ i, k ≤ i → i < j → hitAt l h i = false) ∧ scn h m k (aft l h k) = (j + 1, aft l h j)) ∨
    ((∀ i, k ≤ i → i < 2 * l.length → hitAt l h i = false) ∧ scn h m k (aft l h k) = (0, aft l h (2 * l.length)))
  | 0, k, e => .inr ⟨fun i h1 h2 => by omega, by rw [scn_zero, show k = 2 * l.length by omega]⟩
  | m + 1, k, e => by
    have hx : (aft l h k).getD ((h + k) % (aft l h k).length) Fl.zero = (aft l h k).getD ((h + k) % l.length) Fl.zero := by rw [aft_len]
    cases hk : hitAt l h k with
    | true =>
      refine .inl ⟨k, Nat.le_refl _, by omega, hk, fun i h1 h2 => by omega, ?_⟩
      exact scn_hit _ hx hk
    | false =>
      have e1 := scn_pass (m := m) _ hx hk
      rw [aft_len, ← aft_succ hh (by omega)] at e1
      rcases scn_cases hh m (k + 1) (by omega) with ⟨j, h1, h2, h3, h4, h5⟩ | ⟨h1, h2⟩
      · refine .inl ⟨j, by omega, h2, h3, fun i h6 h7 => ?_, by rw [e1, h5]⟩
        by_cases e' : i = k
        · rw [e']; exact hk
        · exact h4 i (by omega) h7
      · refine .inr ⟨fun i h6 h7 => ?_, by rw [e1, h2]⟩
        by_cases e' : i = k
        · rw [e']; exact hk
        · exact h1 i (by omega) h7

/-- a turn, whole: the first look that finds one, or none -/
theorem trn_cases {l : List Fl} {h : Nat} (hh : h < l.length) :
    (∃ j, j < 2 * l.length ∧ hitAt l h j = true ∧ (∀ i, i < j → hitAt l h i = false) ∧ trn l h = (j + 1, aft l h j)) ∨
    ((∀ i, i < 2 * l.length → hitAt l h i = false) ∧ trn l h = (0, aft l h (2 * l.length))) := by
  have := scn_cases hh (2 * l.length) 0 (by omega)
  rw [aft_zero] at this
  rcases this with ⟨j, _, h2, h3, h4, h5⟩ | ⟨h1, h2⟩
  · exact .inl ⟨j, h2, h3, fun i hi => h4 i (by omega) hi, h5⟩
  · exact .inr ⟨fun i hi => h1 i (by omega) hi, h2⟩

/-- how many may go -/
def freeN (l : List Fl) : Nat := (l.filter Fl.may).length
theorem freeN_pos {l : List Fl} (h : 0 < freeN l) : ∃ i, i < l.length ∧ (l.getD i Fl.zero).may = true := by
  unfold freeN at h
  obtain ⟨x, hx⟩ := List.exists_mem_of_length_pos h
  rw [List.mem_filter] at hx
  obtain ⟨i, hi, e⟩ := List.getElem_of_mem hx.1
  exact ⟨i, hi, by rw [getD_is hi, e]; exact hx.2⟩
theorem freeN_zero {l : List Fl} (h : freeN l = 0) {i : Nat} (hi : i < l.length) : (l.getD i Fl.zero).may = false := by
  have h0 := List.eq_nil_of_length_eq_zero h
  rw [List.filter_eq_nil_iff] at h0
  have := h0 _ (List.getElem_mem hi)
  rw [getD_is hi]
  simpa using this

theorem vic_lt {l : List Fl} {h : Nat} (hh : h < l.length) : vic l h < l.length := by
  unfold vic
  split
  · omega
  · exact Nat.mod_lt _ (by omega)
theorem hnd_lt {l : List Fl} {h : Nat} (hh : h < l.length) : hnd l h < l.length := by
  unfold hnd
  split
  · exact hh
  · exact Nat.mod_lt _ (by omega)
theorem trn_len {l : List Fl} {h : Nat} (hh : h < l.length) : (trn l h).2.length = l.length := by
  rcases trn_cases hh with ⟨j, _, _, _, e⟩ | ⟨_, e⟩ <;> rw [e] <;> exact aft_len _ _ _
theorem trn_looks {l : List Fl} {h : Nat} (hh : h < l.length) : (trn l h).1 ≤ 2 * l.length := by
  rcases trn_cases hh with ⟨j, _, _, _, e⟩ | ⟨_, e⟩ <;> rw [e]
  · show j + 1 ≤ _; omega
  · exact Nat.zero_le _
/-- what is found, and where -/
theorem trn_some {l : List Fl} {h : Nat} (hh : h < l.length) (hf : 0 < freeN l) : ∃ j, j < 2 * l.length ∧ hitAt l h j = true ∧ (∀ i, i < j → hitAt l h i = false) ∧ trn l h = (j + 1, aft l h j) ∧ vic l h = (h + j) % l.length := by
  obtain ⟨i, hi, hm⟩ := freeN_pos hf
  rcases trn_cases hh with ⟨j, h1, h2, h3, e⟩ | ⟨h1, e⟩
  · exact ⟨j, h1, h2, h3, e, by unfold vic; rw [e]; rfl⟩
  · have hr := rel_lt hh hi
    have := h1 (l.length + rel h l.length i) (by omega)
    rw [hitAt_second hh (by omega) (by omega), at_again, at_rel hh hi, hm] at this
    cases this
theorem trn_none {l : List Fl} {h : Nat} (hh : h < l.length) (hf : freeN l = 0) : trn l h = (0, l) := by
  rcases trn_cases hh with ⟨j, h1, h2, h3, e⟩ | ⟨h1, e⟩
  · have := hitAt_may hh h1 h2
    rw [freeN_zero hf (Nat.mod_lt _ (by omega))] at this
    cases this
  · rw [e]
    congr 1
    refine ext_getD (aft_len _ _ _) (fun i hi => ?_)
    rw [aft_len] at hi
    rw [aft_get _ _ _ hi]
    split
    · exact Fl.pass_stay (freeN_zero hf hi)
    · rfl
theorem vic_may {l : List Fl} {h : Nat} (hh : h < l.length) (hf : 0 < freeN l) : (l.getD (vic l h) Fl.zero).may = true := by
  obtain ⟨j, h1, h2, h3, e, hv⟩ := trn_some hh hf
  rw [hv]; exact hitAt_may hh h1 h2
/-- one that is referred to is passed by, if another one is not -/
theorem vic_hit {l : List Fl} {h : Nat} (hh : h < l.length) {i : Nat} (hi : i < l.length) (hx : (l.getD i Fl.zero).hit = true) : (l.getD (vic l h) Fl.zero).hit = true := by
  have hf : 0 < freeN l := by
    by_cases h0 : freeN l = 0
    · have := freeN_zero h0 hi
      rw [Fl.hit_may hx] at this; cases this
    · omega
  obtain ⟨j, h1, h2, h3, e, hv⟩ := trn_some hh hf
  have hr := rel_lt hh hi
  have hri : hitAt l h (rel h l.length i) = true := by rw [hitAt_first hh hr, at_rel hh hi]; exact hx
  have hj : j < l.length := by
    by_cases hj : j < l.length
    · exact hj
    · rw [h3 _ (by omega)] at hri; cases hri
  rw [hv, ← hitAt_first hh hj]; exact h2
/-- what is left of each: as it was, or passed by -/
theorem trn_each {l : List Fl} {h : Nat} (hh : h < l.length) {i : Nat} (hi : i < l.length) : (trn l h).2.getD i Fl.zero = l.getD i Fl.zero ∨ (trn l h).2.getD i Fl.zero = (l.getD i Fl.zero).pass := by
  rcases trn_cases hh with ⟨j, _, _, _, e⟩ | ⟨_, e⟩ <;> rw [e] <;> simp only [] <;> rw [aft_get _ _ _ hi] <;> split <;> simp
end Go.Proofs.Ytgpigllimoafaaa

/- Openers: what a struct of integers, a slice of structs, read as. Conditions: each theorem's own. -/
namespace Go.Proofs.Ytgpigllimoafaaa
open Go.RowKit Go.ChangeShapes Go.WideShapes
set_option linter.unusedVariables false

section
variable {H : Type} {enc : TypeId × Value → H} {P : Program} {w : World} {base : Nat} {spare : Nat → Bool} {held : Bool}

/-- one field of a struct -/
theorem open_field {t : TypeId} {fs : Array Field} {fuel : Nat} {cs : List Value} {x : DataW H × List MemPlace} (ht : P.underlying t = some (.struct fs)) (h : DataW.trod enc P w base spare held fuel t cs = some x)
    (i off : Nat) (e : TypeId) (hf : (fs[i]?).map (fun f => (f.offset, f.type)) = some (off, e)) : ∃ fuel' x', DataW.trod enc P w base spare held fuel' e ((cs.drop off).take (P.cellsOf e)) = some x' := by
  obtain ⟨xs, n, _, _, hl, hxl, hx⟩ := DataW.trod_struct ht h
  cases hi : fs[i]? with
  | none => rw [hi] at hf; cases hf
  | some f =>
    rw [hi] at hf
    simp only [Option.map_some, Option.some.injEq, Prod.mk.injEq] at hf
    obtain ⟨h1, h2⟩ := hf
    have ht' := hx i f hi
    rw [h1, h2] at ht'
    have hlt : i < xs.length := by
      have := (Array.getElem?_eq_some_iff.1 hi).1
      omega
    rw [List.getElem?_eq_getElem hlt] at ht'
    exact ⟨_, _, ht'⟩
/-- .. an integer -/
theorem open_field_int {t e : TypeId} {k : IntKind} {fs : Array Field} {fuel : Nat} {cs : List Value} {x : DataW H × List MemPlace} (ht : P.underlying t = some (.struct fs)) (h : DataW.trod enc P w base spare held fuel t cs = some x)
    (i off : Nat) (hf : (fs[i]?).map (fun f => (f.offset, f.type)) = some (off, e)) (he : P.underlying e = some (.int k)) (ce : P.cellsOf e = 1) : ∃ z : Int, cs[off]? = some (.int k z) ∧ (Lit.int k z).wf = true := by
  obtain ⟨fuel', x', h'⟩ := open_field ht h i off e hf
  rw [ce] at h'
  obtain ⟨z, e0, _, wz⟩ := DataW.trod_int he h'
  refine ⟨z, ?_, wz⟩
  cases hc : cs[off]? with
  | none =>
    have : cs.length ≤ off := List.getElem?_eq_none_iff.1 hc
    rw [List.drop_eq_nil_of_le this] at e0
    simp at e0
  | some u =>
    obtain ⟨hlt, hu⟩ := List.getElem?_eq_some_iff.1 hc
    have ec : (cs.drop off).take 1 = [cs[off]] := by rw [List.drop_eq_getElem_cons hlt]; rfl
    rw [ec] at e0
    injection e0 with e0
    rw [← hu, e0]
/-- .. one cell of whatever kind -/
theorem open_field_one {t e : TypeId} {fs : Array Field} {fuel : Nat} {cs : List Value} {x : DataW H × List MemPlace} (ht : P.underlying t = some (.struct fs)) (h : DataW.trod enc P w base spare held fuel t cs = some x)
    (i off : Nat) (hf : (fs[i]?).map (fun f => (f.offset, f.type)) = some (off, e)) (ce : P.cellsOf e = 1) {u : Value} (hu : cs[off]? = some u) : ∃ fuel' x', DataW.trod enc P w base spare held fuel' e [u] = some x' := by
  obtain ⟨fuel', x', h'⟩ := open_field ht h i off e hf
  rw [ce] at h'
  obtain ⟨hlt, hu⟩ := List.getElem?_eq_some_iff.1 hu
  have ec : (cs.drop off).take 1 = [cs[off]] := by rw [List.drop_eq_getElem_cons hlt]; rfl
  rw [ec, hu] at h'
  exact ⟨_, _, h'⟩
theorem trod_struct_len {t : TypeId} {fs : Array Field} {fuel : Nat} {cs : List Value} {x : DataW H × List MemPlace} (ht : P.underlying t = some (.struct fs)) (h : DataW.trod enc P w base spare held fuel t cs = some x) : cs.length = P.cellsOf t := by
  obtain ⟨xs, n, _, _, hl, hxl, hx⟩ := DataW.trod_struct ht h
  exact hl

/-- A slice of structs, each of which reads as one of α. -/
theorem open_sliceS {α : Type} {f : α → List Value} {k : Nat} {R : α → Prop} (d : α) (hk : ∀ x, (f x).length = k) (hk0 : 0 < k) {t e : TypeId} {fuel : Nat} {a : Option Addr} {len cap : Nat} {x : DataW H × List MemPlace} (ht : P.underlying t = some (.slice e)) (ce : P.cellsOf e = k)
    (one : ∀ fuel cs x, DataW.trod enc P w base spare held fuel e cs = some x → ∃ z, cs = f z ∧ R z)
    (h : DataW.trod enc P w base spare held fuel t [.slice a len cap] = some x) : ∃ zs, RdS f k (fun i => i < w.heap.size) w (.slice a len cap) zs ∧ ∀ z ∈ zs, R z := by
  rcases Deep.open_slice ht h with ⟨hcs, _⟩ | ⟨a', len', cap', m, n, D, Pl, hcs, _, hl, hm, hmm, _, hx⟩
  · simp at hcs
    obtain ⟨rfl, rfl, rfl⟩ := hcs
    exact ⟨[], RdS.nil _ _ _ _ _ _ (Nat.zero_le _), fun c hc => by cases hc⟩
  · simp at hcs
    obtain ⟨rfl, rfl, rfl⟩ := hcs
    have hlm : len ≤ m := by rw [hmm]; split <;> omega
    rw [ce] at hx
    obtain ⟨b, off, spot⟩ := a'
    have each : ∀ i, i < len → ∃ z : α, (∀ j, j < k → w.cell? ((Addr.add ⟨b, off, spot⟩ (i * k)).add j) = (f z)[j]?) ∧ R z := fun i hi => by
      obtain ⟨cs', h1, h2⟩ := hx i (by omega)
      obtain ⟨hb, hlen, hcell⟩ := World.cells?_some h1
      obtain ⟨z, hz, hr⟩ := one _ _ _ h2
      refine ⟨z, fun j hj => ?_, hr⟩
      rw [← hz]
      exact hcell j hj
    have inh : Inhabited α := ⟨d⟩
    obtain ⟨g, hg⟩ := Deep.choose_lt (α := α) each
    have hlen : ((List.range len).map g).length = len := by simp
    refine ⟨(List.range len).map g, ⟨some ⟨b, off, spot⟩, cap, by rw [hlen], by omega, hm, fun h0 => ?_⟩, fun c hc => ?_⟩
    · rw [hlen] at h0 ⊢
      have hspot : spot = none := by
        have h1 := (hg 0 h0).1 0 hk0
        rw [List.getElem?_eq_getElem (by rw [hk]; exact hk0)] at h1
        simpa [Addr.add] using World.cell?_spot h1
      subst hspot
      refine ⟨b, off, rfl, ?_, ?_, fun j hj => ?_⟩
      · have h1 := (hg 0 h0).1 0 hk0
        rw [List.getElem?_eq_getElem (by rw [hk]; exact hk0)] at h1
        simp only [Addr.add_lit] at h1
        exact World.block_lt_of_cell? _ _ h1
      · have h1 := (hg 0 h0).1 0 hk0
        rw [List.getElem?_eq_getElem (by rw [hk]; exact hk0)] at h1
        simp only [Addr.add_lit] at h1
        exact World.block_lt_of_cell? _ _ h1
      · obtain ⟨_, hq, hr, he⟩ := part_of hj
        have e1 := flat_get hk d ((List.range len).map g) (j / k) (j % k) (by rw [hlen]; exact hq) hr
        rw [he] at e1
        rw [e1]
        have hj' := (hg (j / k) hq).1 (j % k) hr
        simp only [Addr.add_lit] at hj'
        rw [Nat.add_assoc, he] at hj'
        rw [hj']
        simp [List.getD, hq]
    · simp only [List.mem_map, List.mem_range] at hc
      obtain ⟨i, hi, rfl⟩ := hc
      exact (hg i hi).2
end
end Go.Proofs.Ytgpigllimoafaaa

/- Flags in memory: slices of them, one of them; what their type says. Conditions: each theorem's own. -/
namespace Go.Proofs.Ytgpigllimoafaaa
open Go.RowKit
set_option linter.unusedVariables false
set_option linter.unusedSimpArgs false


theorem hid {p : Prop} (h : p) : Hid p := h
abbrev RdF (p : Nat → Prop) (w : World) (v : Value) (l : List Fl) : Prop := RdS Fl.cs 4 p w v l
abbrev OwnF (p : Nat → Prop) (w : World) (v : Value) (l : List Fl) : Prop := OwnS Fl.cs 4 p w v l
/-- flags' cells from a place on -/
def FIn (w : World) (b o : Nat) (x : Fl) : Prop := w.cell? ⟨b, o, none⟩ = some (.bool x.u) ∧ w.cell? ⟨b, o + 1, none⟩ = some (.bool x.d) ∧ w.cell? ⟨b, o + 2, none⟩ = some (.bool x.r) ∧ w.cell? ⟨b, o + 3, none⟩ = some (.int .i64 x.p)
theorem FIn.upd {S : Nat → Prop} {w w' : World} {b o : Nat} {x : Fl} (h : FIn w b o x) (hu : UpdS S w w') (hb : ¬ S b) : FIn w' b o x := by
  have hlt : b < w.heap.size := World.block_lt_of_cell? _ _ h.1
  obtain ⟨h0, h1, h2, h3⟩ := h
  refine ⟨?_, ?_, ?_, ?_⟩
  · rw [hu.cell (p := ⟨b, o, none⟩) hlt hb]; exact h0
  · rw [hu.cell (p := ⟨b, o + 1, none⟩) hlt hb]; exact h1
  · rw [hu.cell (p := ⟨b, o + 2, none⟩) hlt hb]; exact h2
  · rw [hu.cell (p := ⟨b, o + 3, none⟩) hlt hb]; exact h3
theorem FIn.grow {w w' : World} {b o : Nat} {x : Fl} (h : FIn w b o x) (hu : Grow w w') : FIn w' b o x := h.upd (S := fun _ => False) hu.s (fun f => f)
theorem rdF_at {p : Nat → Prop} {w : World} {a : Option Addr} {n c : Nat} {l : List Fl} (h : RdF p w (.slice a n c) l) {i : Nat} (hi : i < l.length) : ∃ b o, a = some ⟨b, o, none⟩ ∧ p b ∧ b < w.heap.size ∧ FIn w b (o + i * 4) (l.getD i Fl.zero) := by
  obtain ⟨b, o, e, hb, hlt, hc⟩ := RdS.at h Fl.cs_length Fl.zero hi
  exact ⟨b, o, e, hb, hlt, hc 0 (by omega), hc 1 (by omega), hc 2 (by omega), hc 3 (by omega)⟩
theorem rdF_addr {p : Nat → Prop} {w : World} {a : Option Addr} {n c : Nat} {l : List Fl} (h : RdF p w (.slice a n c) l) (h0 : 0 < l.length) : ∃ b o, a = some ⟨b, o, none⟩ ∧ p b := by
  obtain ⟨b, o, e, hb, _⟩ := rdF_at h h0
  exact ⟨b, o, e, hb⟩
theorem rdF_in {p : Nat → Prop} {w : World} {b o n c : Nat} {l : List Fl} (h : RdF p w (.slice (some ⟨b, o, none⟩) n c) l) {i : Nat} (hi : i < l.length) : FIn w b (o + i * 4) (l.getD i Fl.zero) := by
  obtain ⟨b', o', e, _, _, hf⟩ := rdF_at h hi
  injection e with e
  injection e with e1 e2
  subst e1; subst e2
  exact hf
theorem infoF : (Try.prog.info? 49).map (fun i => (i.zero, i.size, i.bytes)) = some (some (.agg #[.bool false, .bool false, .bool false, .int .i64 0]), 4, 16) := by kernel_rfl
theorem take_next {l : List Fl} {j : Nat} (hj : j < l.length) : l.take (j + 1) = l.take j ++ [l.getD j Fl.zero] := by
  rw [getD_is hj, List.take_succ_eq_append_getElem hj]
theorem take_len {l : List Fl} {j : Nat} (hj : j ≤ l.length) : (l.take j).length = j := by rw [List.length_take]; omega

/-- one laid in a new block, and read there -/
theorem exec_oneF {w : World} {o : Oper} {a : Act} {y : Operand} {x : Fl} (ho : o.op = .buildSlice 79 1 #[(0, y)]) (hy : a.eval y = .agg #[.bool x.u, .bool x.d, .bool x.r, .int .i64 x.p]) :
    (execOp a.eval o).run Try.prog w = .ok (.value (.slice (some ⟨w.heap.size, 0, none⟩) 1 1)) (w.alloc (.cells #[.bool x.u, .bool x.d, .bool x.r, .int .i64 x.p] 49)) := by
  generalize a.eval = ev at hy ⊢
  simp only [execOp, ho, hy, List.mapM_cons, Array.map, Array.toList]
  go_simp
theorem rd_oneF (w : World) (x : Fl) : RdF (fun i => i = w.heap.size) (w.alloc (.cells #[.bool x.u, .bool x.d, .bool x.r, .int .i64 x.p] 49)) (.slice (some ⟨w.heap.size, 0, none⟩) 1 1) [x] :=
  rdS_new (f := Fl.cs) (k := 4) w 49 [x] Fl.cs_length (by simp [maxLen])
theorem src_oneF (w : World) (x : Fl) : Src Try.prog 4 79 (.slice (some ⟨w.heap.size, 0, none⟩) 1 1) [x].length ([x].flatMap Fl.cs) (w.alloc (.cells #[.bool x.u, .bool x.d, .bool x.r, .int .i64 x.p] 49)) := (rd_oneF w x).src Fl.cs_length Fl.cs_one Try.underlying79
theorem load_Fl (b : Nat) (x : Fl) (w : World) (h : VarAt w b x.cs) : (loadVar 49 ⟨b, 0, none⟩).run Try.prog w = .ok (.agg #[.bool x.u, .bool x.d, .bool x.r, .int .i64 x.p]) w := by
  obtain ⟨⟨h0, h1, h2, h3⟩, -⟩ := h.four
  go_simp
set_option maxHeartbeats 1000000 in
theorem next_any (i n : Nat) (w : World) (hn : 0 < n) (hi : i ≤ 1000000) (hm : n ≤ 1000000) : Calls Try.prog 55 #[.int .i64 i, .int .i64 n] w fun e w' => e = .returned (.int .i64 (((i + 1) % n : Nat) : Int)) ∧ w = w' := by
  have hw : IntKind.i64.wrap ((i : Int) + 1) = (i : Int) + 1 := by rw [IntKind.wrap_i64]; omega
  have hn' : ¬ (n : Int) = 0 := by omega
  have ht : Int.tmod ((i : Int) + 1) (n : Int) = (((i + 1) % n : Nat) : Int) := by
    rw [Int.tmod_eq_emod_of_nonneg (by omega)]; rfl
  generalize (i + 1) % n = z at ht
  go_enter Try.func55, Try.ntmps55
  go_wp2
  go_ret
  refine ⟨ret_int ?_, rfl⟩
  first | exact ht | (rw [← ht, Int.tmod_eq_emod_of_nonneg (by omega)]) | simp [ht]

set_option maxHeartbeats 1000000 in
theorem ffree_any (b o : Nat) (x : Fl) (w : World) (h : FIn w b o x) : Calls Try.prog 52 #[.pointer (some ⟨b, o, none⟩)] w fun e w' => e = .returned (.bool (decide (x.p ≤ 0))) ∧ w = w' := by
  obtain ⟨h0, h1, h2, h3⟩ := h
  go_enter Try.func52, Try.ntmps52
  go_wp2
  go_ret
  exact ⟨rfl, rfl⟩

end Go.Proofs.Ytgpigllimoafaaa

/- The walks of the law's 'as' and 'of'. Conditions: each theorem's own. -/
namespace Go.Proofs.Ytgpigllimoafaaa
open Go.RowKit
set_option linter.unusedVariables false
set_option linter.unusedSimpArgs false


end Go.Proofs.Ytgpigllimoafaaa

/- The walks of Clone, of both Frees, and of Same where both are the same. Conditions: each theorem's own. -/
namespace Go.Proofs.Ytgpigllimoafaaa
open Go.RowKit
set_option linter.unusedVariables false
set_option linter.unusedSimpArgs false


set_option maxHeartbeats 1000000 in
theorem clone_any {p : Nat → Prop} (b o n c : Nat) (zs : List Fl) (w : World) (h : RdF p w (.slice (some ⟨b, o, none⟩) n c) zs) (hb : zs.length ≤ 1000000) :
    Calls Try.prog 59 #[.slice (some ⟨b, o, none⟩) n c] w fun e w' => ∃ v', e = .returned v' ∧ OwnF (fun i => w.heap.size ≤ i) w' v' zs ∧ Grow w w' := by
  obtain ⟨i0, hi, hz0, hz1, hz2⟩ := info_parts infoF
  have hsrc : ∀ o', Src Try.prog 4 79 (.slice (some ⟨b, o, none⟩) n c) zs.length (zs.flatMap Fl.cs) (w.alloc o') := fun o' => (RdS.grow h ((Grow.refl w).alloc o')).src Fl.cs_length Fl.cs_one Try.underlying79
  have hq := fun w => Lib.run_eql_slice_nil (P := Try.prog) w 79 49 (some ⟨b, o, none⟩) n c 0 0 Try.underlying79
  simp only [Option.isNone_some] at hq
  clear h
  go_enter Try.func59, Try.ntmps59
  go_wp2_with (at_builtin; refine wpList_appS (f := Fl.cs) (k := 4) (p := fun i => i = w.heap.size) rfl (.tmp 5) (.tmp 6) 79 79 rfl Fl.cs_length (by omega) i0 (.agg #[.bool false, .bool false, .bool false, .int .i64 0]) 16 Try.underlying79 hi hz0 hz1 hz2 rfl rfl rfl (OwnS.nil _ _ _ _ _) (hsrc _) (by simp only [maxLen, List.length_nil]; omega) (by simp only [List.length_nil]; omega) ?_)
  intro v1 w1 ho1 hu1
  have HO : Hid (OwnF (fun i => w.heap.size ≤ i) w1 v1 zs ∧ Grow w w1) := ⟨OwnS.mono ho1 (fun i _ hi => by omega), UpdS.new ((Grow.refl w).alloc _) hu1 (fun i hi => by omega)⟩
  clear ho1 hu1 hsrc hq
  go_wp2
  go_ret
  exact ⟨_, rfl, HO.out.1, HO.out.2⟩

theorem freeN_take {l : List Fl} {j : Nat} (hj : j < l.length) : freeN (l.take (j + 1)) = freeN (l.take j) + (if (l.getD j Fl.zero).may then 1 else 0) := by
  rw [take_next hj]
  unfold freeN
  rw [List.filter_append, List.length_append]
  congr 1
  generalize l.getD j Fl.zero = x
  cases hm : x.may <;> simp [List.filter_cons, hm]
theorem freeN_le (l : List Fl) : freeN l ≤ l.length := List.length_filter_le _ _

end Go.Proofs.Ytgpigllimoafaaa

/- The walk of the closure of a search: one look. Conditions: each theorem's own. -/
namespace Go.Proofs.Ytgpigllimoafaaa
open Go.RowKit
set_option linter.unusedVariables false
set_option linter.unusedSimpArgs false


theorem set_same {L : List Fl} {z : Nat} (hz : z < L.length) : L.set z (L.getD z Fl.zero) = L := by rw [getD_is hz]; exact List.set_getElem_self hz

set_option maxHeartbeats 1000000 in
theorem look_any (w : World) (bk bn ba g k z : Nat) (v : Value) (L : List Fl) (hk : VarAt w bk [.int .i64 k]) (hn : VarAt w bn [v]) (ha : VarAt w ba [.int .i64 z]) (ho : OwnF (fun i => i = g) w v L)
    (hz : z < L.length) (hL : L.length ≤ 1000000) (hkb : k ≤ 10000000) (n1 : bk ≠ bn) (n2 : bk ≠ ba) (n3 : bk ≠ g) :
    Calls Try.prog 60 #[.pointer (some ⟨bk, 0, none⟩), .pointer (some ⟨bn, 0, none⟩), .pointer (some ⟨ba, 0, none⟩)] w fun e w' => e = .returned (.bool (L.getD z Fl.zero).hit) ∧ OwnF (fun i => i = g) w' v (L.set z (L.getD z Fl.zero).pass) ∧ VarAt w' bk [.int .i64 ((k : Int) + 1)] ∧ UpdS (fun i => i = bk ∨ i = g) w w' := by
  have hw1 : IntKind.i64.wrap ((k : Int) + 1) = (k : Int) + 1 := by rw [IntKind.wrap_i64]; omega
  have hu : UpdS (fun i => i = bk) w (w.setCell ⟨bk, 0, none⟩ (.int .i64 ((k : Int) + 1))) := upd_one w bk 0 _
  have hk1 := hk.set 0 (.int .i64 ((k : Int) + 1))
  have hn1 := hn.upd hu (fun e => n1 e.symm)
  have ha1 := ha.upd hu (fun e => n2 e.symm)
  have ho1 := OwnS.upd ho hu (fun i _ hi => by omega)
  have c0 := (hk.2 0 (by show 0 < 1; omega)).1
  have f0 := (hk.2 0 (by show 0 < 1; omega)).2
  have c1 := (hn1.2 0 (by show 0 < 1; omega)).1
  have c2 := (ha1.2 0 (by show 0 < 1; omega)).1
  simp only [List.getElem?_cons_zero] at c0 c1 c2
  have HS : Hid (L.set z (L.getD z Fl.zero) = L) := set_same hz
  obtain ⟨g', o, c, rfl, e, _, hlc, hcm, hcell, hfr, hset⟩ := OwnS.row ho1 Fl.cs_length Fl.zero hz
  unfold maxLen at hcm
  subst e
  have q0 := hcell 0 (by omega)
  have q1 := hcell 1 (by omega)
  have q2 := hcell 2 (by omega)
  have q3 := hcell 3 (by omega)
  have f2 := hfr 2 (by omega)
  have hset2 := hset 2 (L.getD z Fl.zero).cool (.bool false) (by omega) rfl
  have hz' : (z : Int) < (L.length : Int) := by omega
  generalize L.getD z Fl.zero = x at *
  obtain ⟨u, d, r, p⟩ := x
  have hff := ffree_any g' (o + z * 4) ⟨u, d, r, p⟩ (w.setCell ⟨bk, 0, none⟩ (.int .i64 ((k : Int) + 1))) ⟨q0, q1, q2, q3⟩
  simp only [Fl.cs, List.getElem?_cons_zero, List.getElem?_cons_succ, Nat.add_zero] at q0 q1 q2 q3
  have HK : Hid (OwnF (fun i => i = g') (w.setCell ⟨bk, 0, none⟩ (.int .i64 ((k : Int) + 1))) (.slice (some ⟨g', o, none⟩) L.length c) L ∧ VarAt (w.setCell ⟨bk, 0, none⟩ (.int .i64 ((k : Int) + 1))) bk [.int .i64 ((k : Int) + 1)] ∧ UpdS (fun i => i = bk) w (w.setCell ⟨bk, 0, none⟩ (.int .i64 ((k : Int) + 1))) ∧ bk ≠ g') := ⟨ho1, hk1, hu, n3⟩
  have HC : Hid (OwnF (fun i => i = g') ((w.setCell ⟨bk, 0, none⟩ (.int .i64 ((k : Int) + 1))).setCell ⟨g', o + z * 4 + 2, none⟩ (.bool false)) (.slice (some ⟨g', o, none⟩) L.length c) (L.set z ⟨u, d, false, p⟩)) := hset2
  clear hk hn ha ho hu hk1 hn1 ha1 ho1 hcell hfr hset hset2 hz n1 n2 n3
  cases u
  · have HE : Hid ((Fl.mk false d r p).pass = ⟨false, d, r, p⟩ ∧ (Fl.mk false d r p).hit = true) := ⟨by simp [Fl.pass], by simp [Fl.hit]⟩
    clear hff
    go_enter Try.func60, Try.ntmps60
    go_wp2
    go_ret
    refine ⟨ret_bool HE.out.2.symm, ?_, HK.out.2.1, HK.out.2.2.1.mono (fun i hi => .inl hi)⟩
    rw [HE.out.1, HS.out]
    exact HK.out.1
  · by_cases hp : p ≤ 0
    · have hd : decide (p ≤ 0) = true := by simp [hp]
      simp only [] at hff
      rw [hd] at hff
      cases r
      · have HE : Hid ((Fl.mk true d false p).pass = ⟨true, d, false, p⟩ ∧ (Fl.mk true d false p).hit = true) := ⟨by simp [Fl.pass], by simp [Fl.hit, hp]⟩
        clear hd hp
        go_enter Try.func60, Try.ntmps60
        go_wp2_with fail
        refine hff.mono ?_
        rintro e w1 ⟨rfl, rfl⟩
        clear hff
        go_wp2
        go_ret
        refine ⟨ret_bool HE.out.2.symm, ?_, HK.out.2.1, HK.out.2.2.1.mono (fun i hi => .inl hi)⟩
        rw [HE.out.1, HS.out]
        exact HK.out.1
      · have HE : Hid ((Fl.mk true d true p).pass = ⟨true, d, false, p⟩ ∧ (Fl.mk true d true p).hit = false) := ⟨by simp [Fl.pass, Fl.cool, hp], by simp [Fl.hit]⟩
        clear hd hp
        go_enter Try.func60, Try.ntmps60
        go_wp2_with fail
        refine hff.mono ?_
        rintro e w1 ⟨rfl, rfl⟩
        clear hff
        go_wp2
        go_ret
        refine ⟨ret_bool HE.out.2.symm, ?_, HK.out.2.1.upd (upd_one _ g' _ _) (fun e => HK.out.2.2.2 e), (HK.out.2.2.1.mono (fun i hi => .inl hi)).trans ((upd_one _ g' _ _).mono (fun i hi => .inr hi))⟩
        rw [HE.out.1]
        exact HC.out
    · have hd : decide (p ≤ 0) = false := by simp; omega
      simp only [] at hff
      rw [hd] at hff
      have HE : Hid ((Fl.mk true d r p).pass = ⟨true, d, r, p⟩ ∧ (Fl.mk true d r p).hit = false) := ⟨by simp [Fl.pass, hp], by simp [Fl.hit, hp]⟩
      clear hd hp
      go_enter Try.func60, Try.ntmps60
      go_wp2_with fail
      refine hff.mono ?_
      rintro e w1 ⟨rfl, rfl⟩
      clear hff
      go_wp2
      go_ret
      refine ⟨ret_bool HE.out.2.symm, ?_, HK.out.2.1, HK.out.2.2.1.mono (fun i hi => .inl hi)⟩
      rw [HE.out.1, HS.out]
      exact HK.out.1
end Go.Proofs.Ytgpigllimoafaaa

/- The walk of a search, of Turn and of Rounds. Conditions: each theorem's own. -/
namespace Go.Proofs.Ytgpigllimoafaaa
open Go.RowKit
set_option linter.unusedVariables false
set_option linter.unusedSimpArgs false


theorem own_block {p : Nat → Prop} {w : World} {v : Value} {l : List Fl} (h : OwnF p w v l) (h0 : 0 < l.length) : ∃ g, p g ∧ g < w.heap.size ∧ OwnF (fun i => i = g) w v l := by
  rcases h with ⟨rfl, _⟩ | ⟨g, o, c, rfl, hb, hlt, r⟩
  · exact absurd h0 (Nat.lt_irrefl _)
  · exact ⟨g, hb, hlt, .inr ⟨g, o, c, rfl, rfl, hlt, r⟩⟩

/-- a search, behind k looks -/
def SrAt (w wr : World) (bn ba bk g : Nat) (v : Value) (L L' : List Fl) (h k : Nat) : Prop :=
  VarAt wr bn [v] ∧ VarAt wr ba [.int .i64 (((h + k) % L.length : Nat) : Int)] ∧ VarAt wr bk [.int .i64 k] ∧ OwnF (fun i => i = g) wr v L' ∧ L'.length = L.length ∧ k ≤ 2 * L.length ∧ scn h (2 * L.length - k) k L' = trn L h ∧ Grow w wr ∧ w.heap.size ≤ g ∧ g < bn ∧ bn < ba ∧ ba < bk

theorem ret_three {x y x' y' : Int} {v : Value} (h1 : x = x') (h2 : y = y') : Ending.returned (.tuple #[.int .i64 x, .int .i64 y, v]) = .returned (.tuple #[.int .i64 x', .int .i64 y', v]) := by rw [h1, h2]
theorem mod_next (h k n : Nat) : ((h + k) % n + 1) % n = (h + (k + 1)) % n := by rw [Nat.mod_add_mod, Nat.add_assoc]

theorem SrAt.start {w w1 : World} {v : Value} {L : List Fl} {h g : Nat} (hh : h < L.length) (ho : OwnF (fun i => i = g) w1 v L) (hg : Grow w w1) (h1 : w.heap.size ≤ g) (h2 : g < w1.heap.size) :
    SrAt w (((w1.alloc (.cells #[v] 79)).alloc (.cells #[.int .i64 h] 3)).alloc (.cells #[.int .i64 0] 3)) w1.heap.size (w1.heap.size + 1) (w1.heap.size + 1 + 1) g v L L h 0 := by
  have g1 : Grow w1 (w1.alloc (.cells #[v] 79)) := (Grow.refl _).alloc _
  have g2 : Grow (w1.alloc (.cells #[v] 79)) ((w1.alloc (.cells #[v] 79)).alloc (.cells #[.int .i64 h] 3)) := (Grow.refl _).alloc _
  have g3 : Grow ((w1.alloc (.cells #[v] 79)).alloc (.cells #[.int .i64 h] 3)) (((w1.alloc (.cells #[v] 79)).alloc (.cells #[.int .i64 h] 3)).alloc (.cells #[.int .i64 0] 3)) := (Grow.refl _).alloc _
  have v1 := VarAt.new w1 [v] 79
  have v2 := VarAt.new (w1.alloc (.cells #[v] 79)) [.int .i64 h] 3
  have v3 := VarAt.new ((w1.alloc (.cells #[v] 79)).alloc (.cells #[.int .i64 h] 3)) [.int .i64 0] 3
  rw [World.size_alloc] at v2
  rw [World.size_alloc, World.size_alloc] at v3
  refine ⟨v1.grow (g2.trans g3), ?_, v3, OwnS.grow ho (g1.trans (g2.trans g3)), rfl, Nat.zero_le _, rfl, hg.trans (g1.trans (g2.trans g3)), h1, h2, by omega, by omega⟩
  have e : (h + 0) % L.length = h := by rw [Nat.add_zero, Nat.mod_eq_of_lt hh]
  rw [e]
  exact v2.grow g3

/-- a look that finds one -/
theorem SrAt.hit {w wr : World} {bn ba bk g : Nat} {v : Value} {L L' : List Fl} {h k z : Nat} (s : SrAt w wr bn ba bk g v L L' h k) (hh : h < L.length) (hk : k < 2 * L.length) (hz : z = (h + k) % L.length) (hx : (L'.getD z Fl.zero).hit = true) :
    L'.set z (L'.getD z Fl.zero).pass = L' ∧ trn L h = (k + 1, L') ∧ vic L h = z := by
  obtain ⟨_, _, _, _, hl, _, hs, _⟩ := s
  have hlt : z < L'.length := by rw [hl, hz]; exact Nat.mod_lt _ (by omega)
  obtain ⟨m, hm⟩ : ∃ m, 2 * L.length - k = m + 1 := ⟨2 * L.length - k - 1, by omega⟩
  have e : trn L h = (k + 1, L') := by
    rw [← hs, hm]
    exact scn_hit (L'.getD z Fl.zero) (by rw [hl, hz]) hx
  refine ⟨by rw [Fl.hit_pass hx]; exact set_same hlt, e, ?_⟩
  unfold vic
  rw [e, hz]
  rfl
/-- a look that passes by -/
theorem SrAt.pass {w wr w2 : World} {bn ba bk g : Nat} {v : Value} {L L' : List Fl} {h k z z' : Nat} (s : SrAt w wr bn ba bk g v L L' h k) (hk : k < 2 * L.length) (hz : z = (h + k) % L.length) (hz' : z' = (z + 1) % L.length) (hx : (L'.getD z Fl.zero).hit = false)
    (ho : OwnF (fun i => i = g) w2 v (L'.set z (L'.getD z Fl.zero).pass)) (hv : VarAt w2 bk [.int .i64 ((k : Int) + 1)]) (hu : UpdS (fun i => i = bk ∨ i = g) wr w2) :
    SrAt w (w2.setCell ⟨ba, 0, none⟩ (.int .i64 z')) bn ba bk g v L (L'.set z (L'.getD z Fl.zero).pass) h (k + 1) := by
  obtain ⟨s1, s2, s3, s4, hl, s6, hs, sg, b1, b2, b3, b4⟩ := s
  obtain ⟨m, hm⟩ : ∃ m, 2 * L.length - k = m + 1 := ⟨2 * L.length - k - 1, by omega⟩
  have hu2 : UpdS (fun i => i = ba) w2 (w2.setCell ⟨ba, 0, none⟩ (.int .i64 z')) := upd_one w2 ba 0 _
  have e2 : z' = (h + (k + 1)) % L.length := by rw [hz', hz, mod_next]
  refine ⟨(s1.upd hu (by omega)).upd hu2 (by omega), ?_, hv.upd hu2 (by omega), OwnS.upd ho hu2 (fun i _ hi => by omega), by rw [List.length_set, hl], by omega, ?_, ?_, b1, b2, b3, b4⟩
  · rw [← e2]
    exact (s2.upd hu (by omega)).set 0 _
  · rw [← hs, hm, show 2 * L.length - (k + 1) = m by omega, scn_pass (L'.getD z Fl.zero) (by rw [hl, hz]) hx, hl, hz]
  · exact UpdS.new (UpdS.new sg hu (fun i hi => by omega)) hu2 (fun i hi => by omega)

set_option maxHeartbeats 2000000 in
theorem search_any {p : Nat → Prop} (b o n c : Nat) (L : List Fl) (h : Nat) (w : World) (hr : RdF p w (.slice (some ⟨b, o, none⟩) n c) L) (hh : h < L.length) (hL : L.length ≤ 1000) :
    Calls Try.prog 54 #[.slice (some ⟨b, o, none⟩) n c, .int .i64 h] w fun e w' => ∃ v', e = .returned (.tuple #[.int .i64 (vic L h), .int .i64 (trn L h).1, v']) ∧ OwnF (fun i => w.heap.size ≤ i) w' v' (trn L h).2 ∧ Grow w w' := by
  have hcl := clone_any b o n c L w hr (by omega)
  obtain rfl : n = L.length := hr.caps.1
  have hmf : ∀ (fn : Fn) (first cap : Array Value) (w : World), (Instr.makeFunc fn first cap).run Try.prog w = .ok (.func fn first cap) w := fun _ _ _ _ => rfl
  have h0 : decide ((h : Int) < 0) = false := decide_eq_false (by omega)
  have h1 : decide (L.length ≤ h) = false := decide_eq_false (by omega)
  have h2 : decide ((L.length : Int) ≤ (h : Int)) = false := decide_eq_false (by omega)
  have HH : Hid (h < L.length) := hh
  clear hr
  go_enter Try.func54, Try.ntmps54
  go_wp2
  go_step3
  go_wp2_with fail
  refine hcl.mono ?_
  rintro e w1 ⟨v', rfl, ho1, g1⟩
  obtain ⟨g, hg1, hg2, ho⟩ := own_block ho1 (by omega)
  obtain ⟨a1, c1, hv⟩ := ho1.shape
  subst hv
  have HS := hid (SrAt.start hh ho g1 hg1 hg2)
  clear ho1 g1 hcl ho hg1 hg2
  go_wp2
  go_step3
  go_wp2
  obtain ⟨bk, hbk⟩ : ∃ bk, bk = w1.heap.size + 1 + 1 := ⟨_, rfl⟩
  obtain ⟨ba, hba⟩ : ∃ ba, ba = w1.heap.size + 1 := ⟨_, rfl⟩
  obtain ⟨bn, hbn⟩ : ∃ bn, bn = w1.heap.size := ⟨_, rfl⟩
  rw [← hbk, ← hba, ← hbn] at HS ⊢
  clear hbk hba hbn
  generalize (((w1.alloc (.cells #[.slice a1 L.length c1] 79)).alloc (.cells #[.int .i64 h] 3)).alloc (.cells #[.int .i64 0] 3)) = w2 at HS ⊢
  go_loopg [10, 25] 2 (fun m fv iv wr => ∃ (i : Nat) (L' : List Fl), m = 2 - i ∧ i ≤ 2 ∧ fv = .bool false ∧ iv = .int .i64 i ∧ Hid (SrAt w wr bn ba bk g (.slice a1 L.length c1) L L' h (i * L.length)))
  case atStart => exact ⟨0, L, rfl, by omega, rfl, rfl, by rw [Nat.zero_mul]; exact HS.out⟩
  case round =>
    clear HS
    obtain ⟨i, L0, hi, hi2, rfl, rfl, S0⟩ := hrel
    by_cases hlt : i < 2
    · have hle : (i : Int) < 2 := by omega
      have HI : Hid (i < 2 ∧ gk = 2 - i) := ⟨hlt, hi⟩
      have hw0 : IntKind.i64.wrap ((i : Int) + 1) = ((i + 1 : Nat) : Int) := by rw [IntKind.wrap_i64]; omega
      clear hi hi2 hlt
      have c7 := (S0.out.1.2 0 (by show 0 < 1; omega)).1
      simp only [List.getElem?_cons_zero] at c7
      go_wp2
      clear c7
      go_loopg [10, 29] L.length (fun m fv iv wr => ∃ (j : Nat) (L' : List Fl), m = L.length - j ∧ j ≤ L.length ∧ fv = .bool false ∧ iv = .int .i64 j ∧ Hid (SrAt w wr bn ba bk g (.slice a1 L.length c1) L L' h (i * L.length + j)))
      case atStart => exact ⟨0, L0, rfl, by omega, rfl, rfl, by rw [Nat.add_zero]; exact S0.out⟩
      case round =>
        clear S0
        obtain ⟨j, L', hj, hj2, rfl, rfl, S⟩ := hrel
        by_cases hlt : j < L.length
        · have hle2 : (j : Int) < (L.length : Int) := by omega
          have HJ : Hid (j < L.length ∧ gk = L.length - j) := ⟨hlt, hj⟩
          have hw1 : IntKind.i64.wrap ((j : Int) + 1) = ((j + 1 : Nat) : Int) := by rw [IntKind.wrap_i64]; omega
          have hkb : i * L.length + j < 2 * L.length := by
            have := HI.out.1
            obtain rfl | rfl : i = 0 ∨ i = 1 := by omega
            · omega
            · omega
          have HE : Hid (i * L.length + (j + 1) = i * L.length + j + 1) := rfl
          generalize i * L.length + j = k at S hkb HE
          have HZ : Hid ((h + k) % L.length < L.length) := Nat.mod_lt _ (by omega)
          obtain ⟨z, hz⟩ : ∃ z, z = (h + k) % L.length := ⟨_, rfl⟩
          have Hz : Hid (z = (h + k) % L.length) := hz
          have HK : Hid (k < 2 * L.length) := hkb
          rw [← hz] at HZ
          have hzl : z < L.length := HZ.out
          obtain ⟨z', hz'⟩ : ∃ z', z' = (z + 1) % L.length := ⟨_, rfl⟩
          have Hz' : Hid (z' = (z + 1) % L.length) := hz'
          have s2 := S.out.2.1
          rw [← hz] at s2
          have hlook := look_any wr bk bn ba g k z (.slice a1 L.length c1) L' S.out.2.2.1 S.out.1 s2 S.out.2.2.2.1 (by rw [S.out.2.2.2.2.1]; exact hzl) (by rw [S.out.2.2.2.2.1]; omega) (by omega) (by have := S.out.2.2.2.2.2.2.2.2; omega) (by have := S.out.2.2.2.2.2.2.2.2; omega) (by have := S.out.2.2.2.2.2.2.2.2; omega)
          have hnx := fun w' => next_any z L.length w' (by omega) (by omega) (by omega)
          rw [← hz'] at hnx
          clear hz hz' hlt hj hj2 hkb hzl
          cases hx : (L'.getD z Fl.zero).hit with
          | true =>
            rw [hx] at hlook
            have HT := hid (S.out.hit HH.out HK.out Hz.out hx)
            clear hx hnx
            go_wp2_with fail
            refine hlook.mono ?_
            rintro e w3 ⟨rfl, ho3, hk3, hu3⟩
            have hn3 := S.out.1.upd hu3 (by have := S.out.2.2.2.2.2.2.2.2; omega)
            have ha3 := s2.upd hu3 (by have := S.out.2.2.2.2.2.2.2.2; omega)
            rw [HT.out.1] at ho3
            have HF : Hid (OwnF (fun i => w.heap.size ≤ i) w3.drew (.slice a1 L.length c1) (trn L h).2 ∧ Grow w w3.drew) := by
              rw [HT.out.2.1]
              exact ⟨OwnS.grow (OwnS.mono ho3 (fun i _ hi => by have := S.out.2.2.2.2.2.2.2.2; omega)) (Grow.refl _).drew, (UpdS.new S.out.2.2.2.2.2.2.2.1 hu3 (fun i hi => by have := S.out.2.2.2.2.2.2.2.2; omega)).drew⟩
            have HV : Hid ((z : Int) = (vic L h : Int) ∧ (k : Int) + 1 = ((trn L h).1 : Int)) := by
              rw [HT.out.2.1, HT.out.2.2]; exact ⟨rfl, rfl⟩
            have kx : ∀ w', Grow w3.drew w' → w'.cell? ⟨bn, 0, none⟩ = some (.slice a1 L.length c1) ∧ w'.cell? ⟨ba, 0, none⟩ = some (.int .i64 z) ∧ w'.cell? ⟨bk, 0, none⟩ = some (.int .i64 ((k : Int) + 1)) := fun w' hg =>
              ⟨((hn3.grow ((Grow.refl w3).drew.trans hg)).2 0 (by show 0 < 1; omega)).1, ((ha3.grow ((Grow.refl w3).drew.trans hg)).2 0 (by show 0 < 1; omega)).1, ((hk3.grow ((Grow.refl w3).drew.trans hg)).2 0 (by show 0 < 1; omega)).1⟩
            clear hlook ho3 hk3 hu3 hn3 ha3 s2 HT
            go_wp2
            refine wp_region_sched (by kernel_rfl) [(0, false), (1, false), (2, false), (3, false), (4, false), (5, false)] (by kernel_rfl) (by kernel_rfl) rfl (fun _ _ d _ _ h => by cases d <;> exact h) ?_
            simp only [inOrder, List.filterMap_cons, List.filterMap_nil, List.getElem?_toArray, List.getElem?_cons_zero, List.getElem?_cons_succ, Option.map_some]
            repeat (first
              | (refine wpS_move rfl ?_; simp only [Act.eval, Act.put, Array.getD_eq_getD_getElem?, List.getElem?_toArray, List.getElem?_cons_zero, List.getElem?_cons_succ, Option.getD_some, List.setIfInBounds_toArray, List.set_cons_zero, List.set_cons_succ])
              | (refine wpS_assign rfl ?_; simp only [Act.eval, Act.put, Array.getD_eq_getD_getElem?, List.getElem?_toArray, List.getElem?_cons_zero, List.getElem?_cons_succ, Option.getD_some, List.setIfInBounds_toArray, List.set_cons_zero, List.set_cons_succ])
              | (refine wpS_read (v := ?_) rfl ?_ ?_; rotate_left; (focus (intro w' hG; obtain ⟨cn, ca, ck⟩ := kx w' hG; go_simp; try (with_reducible rfl))); simp only [Act.put, List.setIfInBounds_toArray, List.set_cons_zero, List.set_cons_succ])
              | (refine wpS_skip rfl ?_; simp only [Act.put, List.setIfInBounds_toArray, List.set_cons_zero, List.set_cons_succ]))
            refine wpS_nil ?_
            go_wp2
            try rw [Exit.noGoto_ret]
            go_ret3
            exact ⟨_, ret_three HV.out.1 HV.out.2, HF.out⟩
          | false =>
            rw [hx] at hlook
            have Hx : Hid ((L'.getD z Fl.zero).hit = false) := hx
            clear hx
            go_wp2_with fail
            refine hlook.mono ?_
            rintro e w3 ⟨rfl, ho3, hk3, hu3⟩
            have HN := hid (S.out.pass HK.out Hz.out Hz'.out Hx.out ho3 hk3 hu3)
            have hn3 := S.out.1.upd hu3 (by have := S.out.2.2.2.2.2.2.2.2; omega)
            have ha3 := s2.upd hu3 (by have := S.out.2.2.2.2.2.2.2.2; omega)
            have cn := (hn3.2 0 (by show 0 < 1; omega)).1
            have ca := (ha3.2 0 (by show 0 < 1; omega)).1
            have fa := (ha3.2 0 (by show 0 < 1; omega)).2
            simp only [List.getElem?_cons_zero] at cn ca
            clear hlook ho3 hk3 hu3 hn3 ha3 s2
            go_wp2_with fail
            refine (hnx _).mono ?_
            rintro e w4 ⟨rfl, rfl⟩
            clear hnx
            go_wp2
            go_roundg (L.length - (j + 1))
            case measure => have := HJ.out; omega
            case rel => exact ⟨j + 1, _, rfl, HJ.out.1, rfl, rfl, by rw [HE.out]; exact HN⟩
        · have hle2 : ¬ (j : Int) < (L.length : Int) := by omega
          have HE : Hid (i * L.length + j = (i + 1) * L.length) := by
            have : Hid (j = L.length) := by show j = L.length; omega
            show i * L.length + j = (i + 1) * L.length
            rw [Nat.succ_mul, this.out]
          clear hlt hj hj2
          go_wp2
          go_roundg (2 - (i + 1))
          case measure => have := HI.out; omega
          case rel => exact ⟨i + 1, L', rfl, HI.out.1, rfl, rfl, by rw [← HE.out]; exact S⟩
    · have hle : ¬ (i : Int) < 2 := by omega
      have HT : Hid (trn L h = (0, L0)) := by
        obtain rfl : i = 2 := by omega
        have := S0.out.2.2.2.2.2.2.1
        rw [Nat.sub_self, scn_zero] at this
        exact this.symm
      have HF : Hid (OwnF (fun i => w.heap.size ≤ i) wr.drew (.slice a1 L.length c1) (trn L h).2 ∧ Grow w wr.drew) := by
        rw [HT.out]
        exact ⟨OwnS.grow (OwnS.mono S0.out.2.2.2.1 (fun i _ hi => by have := S0.out.2.2.2.2.2.2.2.2; omega)) (Grow.refl _).drew, S0.out.2.2.2.2.2.2.2.1.drew⟩
      have HV : Hid ((0 : Int) = (vic L h : Int) ∧ (0 : Int) = ((trn L h).1 : Int)) := by
        unfold vic; rw [HT.out]; exact ⟨rfl, rfl⟩
      have kx : ∀ w', Grow wr.drew w' → w'.cell? ⟨bn, 0, none⟩ = some (.slice a1 L.length c1) := fun w' hg => ((S0.out.1.grow ((Grow.refl wr).drew.trans hg)).2 0 (by show 0 < 1; omega)).1
      clear S0 HT hi hi2 hlt
      go_wp2
      refine wp_region_sched (by kernel_rfl) [(0, false), (1, false), (2, false), (3, false)] (by kernel_rfl) (by kernel_rfl) rfl (fun _ _ d _ _ h => by cases d <;> exact h) ?_
      simp only [inOrder, List.filterMap_cons, List.filterMap_nil, List.getElem?_toArray, List.getElem?_cons_zero, List.getElem?_cons_succ, Option.map_some]
      repeat (first
        | (refine wpS_move rfl ?_; simp only [Act.eval, Act.put, Array.getD_eq_getD_getElem?, List.getElem?_toArray, List.getElem?_cons_zero, List.getElem?_cons_succ, Option.getD_some, List.setIfInBounds_toArray, List.set_cons_zero, List.set_cons_succ])
        | (refine wpS_assign rfl ?_; simp only [Act.eval, Act.put, Array.getD_eq_getD_getElem?, List.getElem?_toArray, List.getElem?_cons_zero, List.getElem?_cons_succ, Option.getD_some, List.setIfInBounds_toArray, List.set_cons_zero, List.set_cons_succ])
        | (refine wpS_read (v := ?_) rfl ?_ ?_; rotate_left; (focus (intro w' hG; have cn := kx w' hG; go_simp; try (with_reducible rfl))); simp only [Act.put, List.setIfInBounds_toArray, List.set_cons_zero, List.set_cons_succ])
        | (refine wpS_skip rfl ?_; simp only [Act.put, List.setIfInBounds_toArray, List.set_cons_zero, List.set_cons_succ]))
      refine wpS_nil ?_
      go_wp2
      try rw [Exit.noGoto_ret]
      go_ret3
      exact ⟨_, ret_three HV.out.1 HV.out.2, HF.out⟩

theorem ret_four {x y x' y' : Int} {v : Value} {t t' : Bool} (h1 : x = x') (h2 : y = y') (h3 : t = t') : Ending.returned (.tuple #[.int .i64 x, .int .i64 y, v, .bool t]) = .returned (.tuple #[.int .i64 x', .int .i64 y', v, .bool t']) := by rw [h1, h2, h3]

set_option maxHeartbeats 2000000 in
theorem turn_any {p : Nat → Prop} (b o n c : Nat) (L : List Fl) (h : Nat) (w : World) (hr : RdF p w (.slice (some ⟨b, o, none⟩) n c) L) (hh : h < L.length) (hL : L.length ≤ 1000) :
    Calls Try.prog 48 #[.slice (some ⟨b, o, none⟩) n c, .int .i64 h] w fun e w' => ∃ v', e = .returned (.tuple #[.int .i64 (vic L h), .int .i64 (hnd L h), v', .bool (decide (0 < (trn L h).1))]) ∧ OwnF (fun i => w.heap.size ≤ i) w' v' (trn L h).2 ∧ Grow w w' := by
  have hs := search_any b o n c L h w hr hh hL
  obtain rfl : n = L.length := hr.caps.1
  have HH : Hid (hnd L h = if (trn L h).1 = 0 then h else (vic L h + 1) % L.length) := rfl
  have hv := vic_lt hh
  have HV0 : Hid (vic L h = if (trn L h).1 = 0 then 0 else (h + ((trn L h).1 - 1)) % L.length) := rfl
  generalize vic L h = V at *
  have hnx := fun w' => next_any V L.length w' (by omega) (by omega) (by omega)
  generalize hnd L h = Hd at *
  generalize trn L h = T at *
  obtain ⟨K, M⟩ := T
  simp only [] at hs HH HV0 ⊢
  clear hr
  by_cases hK : K = 0
  · have HE : Hid ((0 : Int) = (V : Int) ∧ (h : Int) = (Hd : Int) ∧ false = decide (0 < K)) := by
      have e1 := HH.out; have e2 := HV0.out
      rw [if_pos hK] at e1 e2
      rw [e1, e2, hK]; exact ⟨rfl, rfl, rfl⟩
    have hq : ((K : Int) == 0) = true := by rw [hK]; rfl
    clear hK HH HV0 hnx
    go_enter Try.func48, Try.ntmps48
    go_wp2_with fail
    refine hs.mono ?_
    rintro e w1 ⟨v', rfl, ho1, g1⟩
    have HF : Hid (OwnF (fun i => w.heap.size ≤ i) w1 v' M ∧ Grow w w1) := ⟨ho1, g1⟩
    clear hs ho1 g1
    go_wp2
    (try simp only [Exit.inBlock, Exit.then])
    refine bodyPost_ret (results_tmp4 rfl _ _) rfl ?_
    exact ⟨_, ret_four HE.out.1 HE.out.2.1 HE.out.2.2, HF.out⟩
  · obtain ⟨z', hz'⟩ : ∃ z', z' = (V + 1) % L.length := ⟨_, rfl⟩
    have HE : Hid ((z' : Int) = (Hd : Int) ∧ true = decide (0 < K)) := by
      have e1 := HH.out
      rw [if_neg hK, ← hz'] at e1
      rw [e1]; exact ⟨rfl, (decide_eq_true (by omega)).symm⟩
    have hq : ((K : Int) == 0) = false := by rw [beq_eq_false_iff_ne]; omega
    rw [← hz'] at hnx
    clear hK HH HV0 hz'
    go_enter Try.func48, Try.ntmps48
    go_wp2_with fail
    refine hs.mono ?_
    rintro e w1 ⟨v', rfl, ho1, g1⟩
    have HF : Hid (OwnF (fun i => w.heap.size ≤ i) w1 v' M ∧ Grow w w1) := ⟨ho1, g1⟩
    clear hs ho1 g1
    go_wp2_with fail
    refine (hnx _).mono ?_
    rintro e w2 ⟨rfl, rfl⟩
    go_wp2
    (try simp only [Exit.inBlock, Exit.then])
    refine bodyPost_ret (results_tmp4 rfl _ _) rfl ?_
    exact ⟨_, ret_four rfl HE.out.1 HE.out.2, HF.out⟩

end Go.Proofs.Ytgpigllimoafaaa

/- The walk of Good: flags, made such as may be. Conditions: each theorem's own. -/
namespace Go.Proofs.Ytgpigllimoafaaa
open Go.RowKit
set_option linter.unusedVariables false
set_option linter.unusedSimpArgs false


theorem VarAt.setF4 {w : World} {b : Nat} {x0 x1 x2 x3 : Value} (h : VarAt w b [x0, x1, x2, x3]) (x y z t : Value) : VarAt ((((w.setCell ⟨b, 0, none⟩ x).setCell ⟨b, 1, none⟩ y).setCell ⟨b, 2, none⟩ z).setCell ⟨b, 3, none⟩ t) b [x, y, z, t] :=
  (((h.set 0 x).set 1 y).set 2 z).set 3 t
theorem updF4 (w : World) (b : Nat) (x y z t : Value) : UpdS (fun k => k = b) w ((((w.setCell ⟨b, 0, none⟩ x).setCell ⟨b, 1, none⟩ y).setCell ⟨b, 2, none⟩ z).setCell ⟨b, 3, none⟩ t) :=
  (((upd_one w b 0 x).trans (upd_one _ b 1 y)).trans (upd_one _ b 2 z)).trans (upd_one _ b 3 t)

/-- flags, made such as may be -/
def goodF (x : Fl) : Fl := if x.u then ⟨true, x.d, x.r, around x.p 3⟩ else Fl.zero
def goodL (zs : List Fl) : List Fl := if zs.length = 0 then [Fl.zero] else (zs.take 8).map goodF
theorem goodF_bd (x : Fl) : 0 ≤ (goodF x).p ∧ (goodF x).p ≤ 2 := by
  unfold goodF
  split
  · have := around_bd x.p 3 (by omega)
    exact ⟨this.1, by show around x.p 3 ≤ 2; omega⟩
  · exact ⟨Int.le_refl _, by decide⟩
theorem goodL_len (zs : List Fl) : 1 ≤ (goodL zs).length ∧ (goodL zs).length ≤ 8 := by
  unfold goodL
  split
  · simp
  · rw [List.length_map, List.length_take]; omega
theorem goodL_bd (zs : List Fl) : ∀ x ∈ goodL zs, 0 ≤ x.p ∧ x.p ≤ 2 := by
  intro x hx
  unfold goodL at hx
  split at hx
  · rw [List.mem_singleton] at hx
    subst hx; exact ⟨Int.le_refl _, by decide⟩
  · obtain ⟨y, _, rfl⟩ := List.mem_map.1 hx
    exact goodF_bd y

end Go.Proofs.Ytgpigllimoafaaa
