/-
  What is used of an arena's frames, as numbers: one frame loaded, new partitions, none used. Conditions: each theorem's own.
-/
import Derived.Test.YtgpigllimoafaaaAreL
namespace Go.Proofs.Ytgpigllimoafaaa
open Go.RowKit
set_option linter.unusedVariables false
set_option linter.unusedSimpArgs false

theorem useN_repl (n j : Nat) : useN (List.replicate n FS.empty) j = 0 := by
  unfold useN
  rw [List.take_replicate, List.countP_replicate]
  rfl
theorem emptyL_repl15 (n : Nat) : emptyL (List.replicate n FS.empty) = true := by
  rw [emptyL_iff]
  intro i hi
  rw [List.length_replicate] at hi
  exact repl_at hi
/-- new partitions have nothing -/
theorem NewM.none {q : List Int} {M : List PS} (h : NewM q M) : ∀ n, n ≤ M.length → cntM PS.used M n = 0 ∧ cntM PS.full M n = 0 := by
  intro n
  induction n with
  | zero => intro _; exact ⟨rfl, rfl⟩
  | succ n ih =>
    intro hn
    obtain ⟨h1, h2⟩ := ih (by omega)
    obtain ⟨h3, -⟩ := h n (by omega)
    rw [cntM_succ (by omega), cntM_succ (by omega), h1, h2]
    unfold PS.used PS.full
    rw [h3, useN_repl, emptyL_repl15]
    exact ⟨rfl, rfl⟩
theorem clr_new (M : List PS) : NewM (M.map PS.len) (clrTo M M.length) := fun i hi => by
  rw [clrTo_len] at hi
  rw [clrTo_at hi, if_pos hi, getD_map0 hi]
  exact ⟨by unfold PS.clr PS.len; rw [Int.toNat_natCast], rfl⟩

/-- a frame with the page n, just loaded -/
def pg15 (n : Int) : FS := ⟨true, false, false, 0, n, z32⟩
theorem pg15_ok (n : Int) : (pg15 n).Ok := ⟨z32_len, z32_oct, by show (0 : Int) ≤ 0; omega, by show (0 : Int) ≤ 100; omega⟩
theorem useN_ahead {L : List FS} {k : Nat} {x : FS} {n : Nat} (hn : n ≤ k) : useN (L.set k x) n = useN L n := by
  unfold useN
  rw [List.take_set_of_le hn]
theorem useN_put {L : List FS} {k : Nat} {x : FS} (hx : x.u = true) : ∀ n, k < n → n ≤ L.length → useN (L.set k x) n + (if (L.getD k FS.empty).u = true then 1 else 0) = useN L n + 1 := by
  intro n
  induction n with
  | zero => intro h; exact absurd h (Nat.not_lt_zero _)
  | succ n ih =>
    intro h hn
    rw [useN_succ (by rw [List.length_set]; omega), useN_succ (by omega), getD_set (by omega)]
    by_cases e : k = n
    · subst e
      rw [if_pos rfl, if_pos hx, useN_ahead (Nat.le_refl _)]
      omega
    · rw [if_neg e]
      have := ih (by omega) (by omega)
      omega
theorem cntM_ahead {c : PS → Int} {M : List PS} {t : Nat} {s : PS} {n : Nat} (hn : n ≤ t) : cntM c (M.set t s) n = cntM c M n := by
  unfold cntM
  rw [List.take_set_of_le hn]
theorem cntM_put {c : PS → Int} {M : List PS} {t : Nat} {s : PS} : ∀ n, t < n → n ≤ M.length → cntM c (M.set t s) n = cntM c M n - c (M.getD t PS.zero) + c s := by
  intro n
  induction n with
  | zero => intro h; exact absurd h (Nat.not_lt_zero _)
  | succ n ih =>
    intro h hn
    rw [cntM_succ (by rw [List.length_set]; omega), cntM_succ (by omega), getD_set (by omega)]
    by_cases e : t = n
    · subst e
      rw [if_pos rfl, cntM_ahead (Nat.le_refl _)]
      omega
    · rw [if_neg e]
      have := ih (by omega) (by omega)
      omega
theorem cntM_none {c : PS → Int} {M : List PS} (hc : ∀ i, i < M.length → 0 ≤ c (M.getD i PS.zero)) : ∀ n, n ≤ M.length → 0 ≤ cntM c M n ∧ (cntM c M n = 0 ↔ ∀ i, i < n → c (M.getD i PS.zero) = 0) := by
  intro n
  induction n with
  | zero => intro _; exact ⟨Int.le_refl _, fun _ i hi => absurd hi (Nat.not_lt_zero _), fun _ => rfl⟩
  | succ n ih =>
    intro hn
    obtain ⟨h1, h2⟩ := ih (by omega)
    have h3 := hc n (by omega)
    rw [cntM_succ (by omega)]
    refine ⟨by omega, fun h i hi => ?_, fun h => ?_⟩
    · by_cases e : i = n
      · subst e; omega
      · exact h2.1 (by omega) i (by omega)
    · have := h2.2 (fun i hi => h i (by omega))
      have := h n (by omega)
      omega

/-- the frames, and which numbers of theirs were loaded -/
def Fits (q : List Int) (M : List PS) (U : List Bool) : Prop :=
  U.length = 20 ∧ ∀ t, t < M.length → ∀ k, k < (M.getD t PS.zero).L.length →
    (U.getD ((sm q t).toNat + k) false = true → ((M.getD t PS.zero).L.getD k FS.empty).u = true ∧ ((M.getD t PS.zero).L.getD k FS.empty).q = sm q t + k) ∧
    (U.getD ((sm q t).toNat + k) false = false → (M.getD t PS.zero).L.getD k FS.empty = FS.empty)
theorem Fits.new {q : List Int} {M : List PS} (h : NewM q M) : Fits q M (List.replicate 20 false) := by
  refine ⟨List.length_replicate, fun t ht k hk => ⟨fun hu => ?_, fun _ => ?_⟩⟩
  · exfalso
    simp only [List.getD, List.getElem?_replicate] at hu
    split at hu <;> simp at hu
  · rw [(h t ht).1] at hk ⊢
    rw [List.length_replicate] at hk
    exact repl_at hk
theorem Fits.u {q : List Int} {M : List PS} {U : List Bool} (h : Fits q M U) {t k : Nat} (ht : t < M.length) (hk : k < (M.getD t PS.zero).L.length) : ((M.getD t PS.zero).L.getD k FS.empty).u = U.getD ((sm q t).toNat + k) false := by
  obtain ⟨h1, h2⟩ := h.2 t ht k hk
  cases hu : U.getD ((sm q t).toNat + k) false with
  | true => exact (h1 hu).1
  | false => rw [h2 hu]; rfl
/-- a partition's quota -/
theorem len_q {q : List Int} {M : List PS} (hm : M.map PS.len = q) {t : Nat} (ht : t < M.length) : q.getD t 0 = ((M.getD t PS.zero).L.length : Int) := by
  rw [← hm, getD_map0 ht]; rfl
/-- a page is loaded where its number is -/
theorem Fits.load {q : List Int} {M : List PS} {U : List Bool} (h : Fits q M U) (hm : M.map PS.len = q) (hq : CutOk q) (hT : sm q q.length ≤ 12) {t k : Nat} (ht : t < M.length) (hk : k < (M.getD t PS.zero).L.length) {n : Int} (hn : n = sm q t + k) :
    loadP (k : Int) n z32 (M.getD t PS.zero).L = ((M.getD t PS.zero).L.set k (pg15 n), 0) ∧
    Fits q (M.set t ⟨(M.getD t PS.zero).P, (M.getD t PS.zero).b, (M.getD t PS.zero).L.set k (pg15 n), (M.getD t PS.zero).h⟩) (U.set ((sm q t).toNat + k) true) ∧
    cntM PS.used (M.set t ⟨(M.getD t PS.zero).P, (M.getD t PS.zero).b, (M.getD t PS.zero).L.set k (pg15 n), (M.getD t PS.zero).h⟩) M.length = cntM PS.used M M.length + (if U.getD ((sm q t).toNat + k) false = true then 0 else 1) := by
  have hml : M.length = q.length := by rw [← hm]; simp
  have hlow : ∀ m, m ≤ q.length → 0 ≤ sm q m := fun m hmq => by
    have := sm_mono hq.low (m := 0) (n := m) (by omega) hmq
    rwa [sm_zero] at this
  have hs0 := hlow t (by omega)
  have hsucc := sm_succ (q := q) (n := t) (by omega)
  have hlt := len_q hm ht
  have hs1 := sm_mono hq.low (m := t + 1) (n := q.length) (by omega) (Nat.le_refl _)
  have hb20 : (sm q t).toNat + k < 20 := by omega
  refine ⟨?_, ⟨by rw [List.length_set]; exact h.1, fun t' ht' k' hk' => ?_⟩, ?_⟩
  · have hno : ¬ (fnd n (M.getD t PS.zero).L < (M.getD t PS.zero).L.length ∧ fnd n (M.getD t PS.zero).L ≠ k) := fun hh => by
      have h1 := fnd_of hh.1
      have h2 := h.2 t ht _ hh.1
      cases hu : U.getD ((sm q t).toNat + fnd n (M.getD t PS.zero).L) false with
      | true =>
        have h3 := (h2.1 hu).2
        unfold FS.of at h1
        rw [Bool.and_eq_true, beq_iff_eq] at h1
        have h4 := h1.2
        rw [h3] at h4
        exact hh.2 (by omega)
      | false => rw [h2.2 hu] at h1; exact Bool.noConfusion h1
    rw [loadP_yes hk hno]
    unfold loadS
    rw [if_pos z32_len]; rfl
  · rw [List.length_set] at ht'
    rw [getD_set ht'] at hk' ⊢
    by_cases e : t = t'
    · subst e
      rw [if_pos rfl] at hk' ⊢
      simp only [List.length_set] at hk'
      simp only [getD_set hk', getD_set (show (sm q t).toNat + k' < U.length by rw [h.1]; omega)]
      by_cases e2 : k = k'
      · subst e2
        rw [if_pos rfl, if_pos rfl]
        exact ⟨fun _ => ⟨rfl, hn⟩, fun h => Bool.noConfusion h⟩
      · rw [if_neg e2, if_neg (by omega)]
        exact h.2 t ht k' hk'
    · rw [if_neg e] at hk' ⊢
      have hlt' := len_q hm ht'
      have hsucc' := sm_succ (q := q) (n := t') (by omega)
      have hs0' := hlow t' (by omega)
      have hs1' := sm_mono hq.low (m := t' + 1) (n := q.length) (by omega) (Nat.le_refl _)
      have hne : ¬ (sm q t).toNat + k = (sm q t').toNat + k' := fun e2 => e (sm_uniq hq.low (n := n) (by omega) (by omega) (by omega) (by omega) (by omega) (by omega))
      rw [getD_set (show (sm q t').toNat + k' < U.length by rw [h.1]; omega), if_neg hne]
      exact h.2 t' ht' k' hk'
  · rw [cntM_put _ ht (Nat.le_refl _)]
    have h1 := useN_put (L := (M.getD t PS.zero).L) (k := k) (x := pg15 n) rfl _ hk (Nat.le_refl _)
    have h2 := h.u ht hk
    rw [h2] at h1
    unfold PS.used
    simp only [List.length_set]
    by_cases hu : U.getD ((sm q t).toNat + k) false = true
    · rw [if_pos hu] at h1 ⊢; omega
    · rw [if_neg hu] at h1 ⊢; omega
/-- none used, all empty: the same -/
theorem Fits.empty {q : List Int} {M : List PS} {U : List Bool} (h : Fits q M U) : (cntM PS.full M M.length == 0) = (cntM PS.used M M.length == 0) := by
  have hf := (cntM_none (c := PS.full) (M := M) (fun i hi => (PS.full_bd _).1) M.length (Nat.le_refl _)).2
  have hu := (cntM_none (c := PS.used) (M := M) (fun i hi => by unfold PS.used; omega) M.length (Nat.le_refl _)).2
  have hone : ∀ i, i < M.length → ((M.getD i PS.zero).full = 0 ↔ (M.getD i PS.zero).used = 0) := fun i hi => by
    have hx : (M.getD i PS.zero).full = 0 ↔ emptyL (M.getD i PS.zero).L = true := by
      unfold PS.full
      split
      · rename_i e; exact ⟨fun _ => e, fun _ => rfl⟩
      · rename_i e; exact ⟨fun h => absurd h (by decide), fun h => absurd h e⟩
    rw [hx, emptyL_iff]
    have key : ∀ n, n ≤ (M.getD i PS.zero).L.length → (useN (M.getD i PS.zero).L n = 0 ↔ ∀ k, k < n → ((M.getD i PS.zero).L.getD k FS.empty).u = false) := by
      intro n
      induction n with
      | zero => intro _; exact ⟨fun _ k hk => absurd hk (Nat.not_lt_zero _), fun _ => rfl⟩
      | succ n ih =>
        intro hn
        rw [useN_succ (by omega)]
        have hi2 := ih (by omega)
        constructor
        · intro h0 k hk
          by_cases e : k = n
          · subst e
            cases hv : ((M.getD i PS.zero).L.getD k FS.empty).u with
            | false => rfl
            | true => rw [hv] at h0; simp at h0
          · exact hi2.1 (by omega) k (by omega)
        · intro hk
          rw [hi2.2 (fun k hk2 => hk k (by omega)), hk n (by omega)]; rfl
    have hk := key _ (Nat.le_refl _)
    constructor
    · intro h0
      unfold PS.used
      rw [hk.2 (fun k hk2 => by rw [h0 k hk2]; rfl)]; rfl
    · intro h0 k hk2
      have h1 : useN (M.getD i PS.zero).L (M.getD i PS.zero).L.length = 0 := by unfold PS.used at h0; omega
      have h2 := hk.1 h1 k hk2
      rw [h.u hi hk2] at h2
      exact (h.2 i hi k hk2).2 h2
  have hiff : cntM PS.full M M.length = 0 ↔ cntM PS.used M M.length = 0 := by
    rw [hf, hu]
    exact ⟨fun h i hi => (hone i hi).1 (h i hi), fun h i hi => (hone i hi).2 (h i hi)⟩
  by_cases e : cntM PS.used M M.length = 0
  · rw [e, hiff.2 e]
  · rw [beq_eq_false_iff_ne.2 e, beq_eq_false_iff_ne.2 (fun x => e (hiff.1 x))]
end Go.Proofs.Ytgpigllimoafaaa
