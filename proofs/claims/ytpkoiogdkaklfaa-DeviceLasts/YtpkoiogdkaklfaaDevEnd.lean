/-
  Sectors that were written, what a barrier and a crash leave of them, bit by bit. Conditions: each theorem's own.
-/
import Derived.Test.YtpkoiogdkaklfaaDevCom
import Derived.Test.YtpkoiogdkaklfaaDevLive
import Derived.Test.YtpkoiogdkaklfaaDevApart
import Derived.Test.YtpkoiogdkaklfaaCelSplit
namespace Go.Proofs.Ytpkoiogdkaklfaa
open Go.RowKit
set_option linter.unusedVariables false
set_option linter.unusedSimpArgs false

/-- the cell of a sector's bytes; of none there is none -/
def sealO (z : List Int) : List Int := if z = [] then [] else z ++ le 4 (chk 0 z : Nat)
def latOf (last : List (List Int)) : List (List Int) := last.map sealO
theorem latOf_set (last : List (List Int)) (i : Nat) {z : List Int} (hz : z ≠ []) : (latOf last).set i (z ++ le 4 (chk 0 z : Nat)) = latOf (last.set i z) := by
  unfold latOf
  rw [List.map_set]
  have : sealO z = z ++ le 4 (chk 0 z : Nat) := if_neg hz
  rw [this]
theorem latOf_getD (last : List (List Int)) (i : Nat) : (latOf last).getD i [] = sealO (last.getD i []) := by
  unfold latOf
  simp only [List.getD, List.getElem?_map]
  cases last[i]? <;> simp [sealO]
theorem latOf_length (last : List (List Int)) : (latOf last).length = last.length := by simp [latOf]
theorem sealO_nil : sealO [] = [] := rfl
theorem sealO_ne {z : List Int} (h : z ≠ []) : sealO z = z ++ le 4 (chk 0 z : Nat) ∧ sealO z ≠ [] := by
  have e : sealO z = z ++ le 4 (chk 0 z : Nat) := if_neg h
  refine ⟨e, ?_⟩
  rw [e]
  intro hh
  exact h (List.append_eq_nil_iff.1 hh).1

theorem later6 {lat : List (List Int)} {n : Nat} (hn : n < 6) : isLater lat 0 6 n = decide (lat.getD n [] ≠ []) := by
  unfold isLater
  by_cases h : lat.getD n [] = []
  · rw [h]; simp
  · rw [decide_eq_true h, decide_eq_true ⟨by omega, by omega, h⟩]

theorem crash_to (las lat : List (List Int)) (ks : List Bool) (h6 : las.length = 6) (h6' : lat.length = 6) : ∀ n, n ≤ 6 →
    (crashL ((las, lat), ks) (laterTo lat 0 6 n)).2 = ks.drop (laterTo lat 0 6 n).length ∧
    (∀ i, (crashL ((las, lat), ks) (laterTo lat 0 6 n)).1.1.getD i [] = if i < n ∧ lat.getD i [] ≠ [] ∧ ks.getD (laterTo lat 0 6 i).length false = true then lat.getD i [] else las.getD i []) ∧
    (∀ i, (crashL ((las, lat), ks) (laterTo lat 0 6 n)).1.2.getD i [] = if i < n then [] else lat.getD i [])
  | 0, _ => ⟨rfl, fun i => by rw [if_neg (by omega)]; rfl, fun i => by rw [if_neg (by omega)]; rfl⟩
  | n + 1, hn => by
    obtain ⟨h1, h2, h3⟩ := crash_to las lat ks h6 h6' n (by omega)
    have hl := crashL_len (laterTo lat 0 6 n) ((las, lat), ks)
    by_cases hz : lat.getD n [] = []
    · rw [laterTo_no (by rw [later6 (by omega)]; simpa using hz)]
      refine ⟨h1, fun i => ?_, fun i => ?_⟩
      · rw [h2 i]
        by_cases e : i = n
        · subst e
          rw [if_neg (fun hh => hh.2.1 hz), if_neg (fun hh => hh.2.1 hz)]
        · by_cases hi : i < n ∧ lat.getD i [] ≠ [] ∧ ks.getD (laterTo lat 0 6 i).length false = true
          · rw [if_pos hi, if_pos ⟨by omega, hi.2⟩]
          · rw [if_neg hi, if_neg (fun hh => hi ⟨by omega, hh.2⟩)]
      · rw [h3 i]
        by_cases e : i = n
        · subst e
          rw [if_neg (by omega), if_pos (by omega), hz]
        · by_cases hi : i < n
          · rw [if_pos hi, if_pos (by omega)]
          · rw [if_neg hi, if_neg (by omega)]
    · have hyes : isLater lat 0 6 n = true := by rw [later6 (by omega)]; exact decide_eq_true hz
      rw [laterTo_yes hyes, crashL_snoc]
      have hbit : (crashL ((las, lat), ks) (laterTo lat 0 6 n)).2.getD 0 false = ks.getD (laterTo lat 0 6 n).length false := by
        rw [h1]; simp [List.getD, List.getElem?_drop]
      have hrow : (crashL ((las, lat), ks) (laterTo lat 0 6 n)).1.2.getD n [] = lat.getD n [] := by rw [h3 n, if_neg (by omega)]
      refine ⟨?_, fun i => ?_, fun i => ?_⟩
      · show (crashL ((las, lat), ks) (laterTo lat 0 6 n)).2.drop 1 = _
        rw [h1, List.drop_drop, List.length_append]; rfl
      · show (if (crashL ((las, lat), ks) (laterTo lat 0 6 n)).2.getD 0 false = true then (crashL ((las, lat), ks) (laterTo lat 0 6 n)).1.1.set n ((crashL ((las, lat), ks) (laterTo lat 0 6 n)).1.2.getD n []) else (crashL ((las, lat), ks) (laterTo lat 0 6 n)).1.1).getD i [] = _
        rw [hbit, hrow]
        by_cases hb : ks.getD (laterTo lat 0 6 n).length false = true
        · rw [if_pos hb, getD_set _ _ _ _ _ (by rw [hl.1]; show n < las.length; omega)]
          by_cases e : i = n
          · subst e
            rw [if_pos rfl, if_pos ⟨by omega, hz, hb⟩]
          · rw [if_neg e, h2 i]
            by_cases hi : i < n ∧ lat.getD i [] ≠ [] ∧ ks.getD (laterTo lat 0 6 i).length false = true
            · rw [if_pos hi, if_pos ⟨by omega, hi.2⟩]
            · rw [if_neg hi, if_neg (fun hh => hi ⟨by omega, hh.2⟩)]
        · rw [if_neg hb, h2 i]
          by_cases e : i = n
          · subst e
            rw [if_neg (fun hh => hb hh.2.2), if_neg (fun hh => hb hh.2.2)]
          · by_cases hi : i < n ∧ lat.getD i [] ≠ [] ∧ ks.getD (laterTo lat 0 6 i).length false = true
            · rw [if_pos hi, if_pos ⟨by omega, hi.2⟩]
            · rw [if_neg hi, if_neg (fun hh => hi ⟨by omega, hh.2⟩)]
      · show ((crashL ((las, lat), ks) (laterTo lat 0 6 n)).1.2.set n []).getD i [] = _
        rw [getD_set _ _ _ _ _ (by rw [hl.2]; show n < lat.length; omega)]
        by_cases e : i = n
        · rw [if_pos e, if_pos (by omega)]
        · rw [if_neg e, h3 i]
          by_cases hi : i < n
          · rw [if_pos hi, if_pos (by omega)]
          · rw [if_neg hi, if_neg (by omega)]

theorem bar_to (las lat : List (List Int)) (h6 : las.length = 6) (h6' : lat.length = 6) : ∀ n, n ≤ 6 →
    (∀ i, (barL (las, lat) (laterTo lat 0 6 n)).1.getD i [] = if i < n ∧ lat.getD i [] ≠ [] then lat.getD i [] else las.getD i []) ∧
    (∀ i, (barL (las, lat) (laterTo lat 0 6 n)).2.getD i [] = if i < n then [] else lat.getD i [])
  | 0, _ => ⟨fun i => by rw [if_neg (by omega)]; rfl, fun i => by rw [if_neg (by omega)]; rfl⟩
  | n + 1, hn => by
    obtain ⟨h2, h3⟩ := bar_to las lat h6 h6' n (by omega)
    have hl := barL_len (laterTo lat 0 6 n) (las, lat)
    by_cases hz : lat.getD n [] = []
    · rw [laterTo_no (by rw [later6 (by omega)]; simpa using hz)]
      refine ⟨fun i => ?_, fun i => ?_⟩
      · rw [h2 i]
        by_cases e : i = n
        · subst e
          rw [if_neg (fun hh => hh.2 hz), if_neg (fun hh => hh.2 hz)]
        · by_cases hi : i < n ∧ lat.getD i [] ≠ []
          · rw [if_pos hi, if_pos ⟨by omega, hi.2⟩]
          · rw [if_neg hi, if_neg (fun hh => hi ⟨by omega, hh.2⟩)]
      · rw [h3 i]
        by_cases e : i = n
        · subst e
          rw [if_neg (by omega), if_pos (by omega), hz]
        · by_cases hi : i < n
          · rw [if_pos hi, if_pos (by omega)]
          · rw [if_neg hi, if_neg (by omega)]
    · have hyes : isLater lat 0 6 n = true := by rw [later6 (by omega)]; exact decide_eq_true hz
      rw [laterTo_yes hyes, barL_snoc]
      have hrow : (barL (las, lat) (laterTo lat 0 6 n)).2.getD n [] = lat.getD n [] := by rw [h3 n, if_neg (by omega)]
      refine ⟨fun i => ?_, fun i => ?_⟩
      · show ((barL (las, lat) (laterTo lat 0 6 n)).1.set n ((barL (las, lat) (laterTo lat 0 6 n)).2.getD n [])).getD i [] = _
        rw [hrow, getD_set _ _ _ _ _ (by rw [hl.1]; show n < las.length; omega)]
        by_cases e : i = n
        · subst e
          rw [if_pos rfl, if_pos ⟨by omega, hz⟩]
        · rw [if_neg e, h2 i]
          by_cases hi : i < n ∧ lat.getD i [] ≠ []
          · rw [if_pos hi, if_pos ⟨by omega, hi.2⟩]
          · rw [if_neg hi, if_neg (fun hh => hi ⟨by omega, hh.2⟩)]
      · show ((barL (las, lat) (laterTo lat 0 6 n)).2.set n []).getD i [] = _
        rw [getD_set _ _ _ _ _ (by rw [hl.2]; show n < lat.length; omega)]
        by_cases e : i = n
        · rw [if_pos e, if_pos (by omega)]
        · rw [if_neg e, h3 i]
          by_cases hi : i < n
          · rw [if_pos hi, if_pos (by omega)]
          · rw [if_neg hi, if_neg (by omega)]

/-- which is kept: each behind a barrier, else by its bit -/
def keptB (barrier : Bool) (last : List (List Int)) (ks : List Bool) (i : Nat) : Bool := barrier || ks.getD (laterTo (latOf last) 0 6 i).length false
/-- what each sector has in the end -/
def wantB (barrier : Bool) (last : List (List Int)) (ks : List Bool) (i : Nat) : List Int := if last.getD i [] ≠ [] ∧ keptB barrier last ks i = true then last.getD i [] else List.replicate 16 0
/-- sectors of 16 bytes, or none -/
def LastOk (last : List (List Int)) : Prop := last.length = 6 ∧ ∀ i, last.getD i [] ≠ [] → (last.getD i []).length = 16 ∧ Oct (last.getD i [])
/-- what is left behind all: the cells that last, and none later -/
def EndOk (barrier : Bool) (last : List (List Int)) (ks : List Bool) (las lat : List (List Int)) : Prop :=
  (∀ i : Nat, i < 6 → readL las lat i = (wantB barrier last ks i, 0) ∧ lastingL las i = (wantB barrier last ks i, 0)) ∧ laterL lat 0 6 = []
theorem end_of {barrier : Bool} {last : List (List Int)} {ks : List Bool} {las lat : List (List Int)} (hL : LastOk last) (h6 : las.length = 6) (h6' : lat.length = 6) (hlat : ∀ i, lat.getD i [] = []) (hlas : ∀ i, i < 6 → las.getD i [] = if last.getD i [] ≠ [] ∧ keptB barrier last ks i = true then sealO (last.getD i []) else zcell) : EndOk barrier last ks las lat := by
  refine ⟨fun i hi => ?_, laterL_empty (fun i _ _ => hlat i)⟩
  have e : opened (las.getD i []) = (wantB barrier last ks i, 0) := by
    rw [hlas i hi]
    unfold wantB
    by_cases hc : last.getD i [] ≠ [] ∧ keptB barrier last ks i = true
    · rw [if_pos hc, if_pos hc, (sealO_ne hc.1).1]
      exact opened_sealed _ (hL.2 i hc.1).1
    · rw [if_neg hc, if_neg hc]
      exact opened_zcell
  exact ⟨by rw [readL_at (hlat i) (by omega)]; exact e, by rw [lastingL_at (by omega)]; exact e⟩
theorem end_crash {last : List (List Int)} (hL : LastOk last) (ks : List Bool) : EndOk false last ks (crashL ((List.replicate 6 zcell, latOf last), ks) (laterL (latOf last) 0 6)).1.1 (crashL ((List.replicate 6 zcell, latOf last), ks) (laterL (latOf last) 0 6)).1.2 := by
  have h6 : (latOf last).length = 6 := by rw [latOf_length]; exact hL.1
  have hc := crash_to (List.replicate 6 zcell) (latOf last) ks (by simp) h6 6 (Nat.le_refl _)
  have hl := crashL_len (laterL (latOf last) 0 6) ((List.replicate 6 zcell, latOf last), ks)
  have e : laterL (latOf last) 0 6 = laterTo (latOf last) 0 6 6 := by unfold laterL; rw [h6]
  rw [e] at hl ⊢
  refine end_of hL (hl.1.trans (by simp)) (hl.2.trans h6) (fun i => ?_) (fun i hi => ?_)
  · rw [hc.2.2 i]
    by_cases hi : i < 6
    · rw [if_pos hi]
    · rw [if_neg hi]
      simp [List.getD, List.getElem?_eq_none (show (latOf last).length ≤ i by omega)]
  · rw [hc.2.1 i, latOf_getD]
    unfold keptB
    rw [Bool.false_or]
    by_cases hz : last.getD i [] = []
    · rw [hz, sealO_nil, if_neg (fun hh => hh.2.1 rfl), if_neg (fun hh => hh.1 rfl), repl_at 6 i hi]
    · by_cases hb : ks.getD (laterTo (latOf last) 0 6 i).length false = true
      · rw [if_pos ⟨hi, (sealO_ne hz).2, hb⟩, if_pos ⟨hz, hb⟩]
      · rw [if_neg (fun hh => hb hh.2.2), if_neg (fun hh => hb hh.2), repl_at 6 i hi]
theorem end_bar {last : List (List Int)} (hL : LastOk last) (ks : List Bool) : laterL (barL (List.replicate 6 zcell, latOf last) (laterL (latOf last) 0 6)).2 0 6 = [] ∧ EndOk true last ks (barL (List.replicate 6 zcell, latOf last) (laterL (latOf last) 0 6)).1 (barL (List.replicate 6 zcell, latOf last) (laterL (latOf last) 0 6)).2 := by
  have h6 : (latOf last).length = 6 := by rw [latOf_length]; exact hL.1
  have hc := bar_to (List.replicate 6 zcell) (latOf last) (by simp) h6 6 (Nat.le_refl _)
  have hl := barL_len (laterL (latOf last) 0 6) (List.replicate 6 zcell, latOf last)
  have e : laterL (latOf last) 0 6 = laterTo (latOf last) 0 6 6 := by unfold laterL; rw [h6]
  rw [e] at hl ⊢
  have hE : EndOk true last ks (barL (List.replicate 6 zcell, latOf last) (laterTo (latOf last) 0 6 6)).1 (barL (List.replicate 6 zcell, latOf last) (laterTo (latOf last) 0 6 6)).2 := by
    refine end_of hL (hl.1.trans (by simp)) (hl.2.trans h6) (fun i => ?_) (fun i hi => ?_)
    · rw [hc.2 i]
      by_cases hi : i < 6
      · rw [if_pos hi]
      · rw [if_neg hi]
        simp [List.getD, List.getElem?_eq_none (show (latOf last).length ≤ i by omega)]
    · rw [hc.1 i, latOf_getD]
      unfold keptB
      rw [Bool.true_or]
      by_cases hz : last.getD i [] = []
      · rw [hz, sealO_nil, if_neg (fun hh => hh.2 rfl), if_neg (fun hh => hh.1 rfl), repl_at 6 i hi]
      · rw [if_pos ⟨hi, (sealO_ne hz).2⟩, if_pos ⟨hz, rfl⟩]
  exact ⟨hE.2, hE⟩
theorem LastOk.set {last : List (List Int)} (h : LastOk last) (i : Nat) {z : List Int} (hz : z.length = 16 ∧ Oct z) : LastOk (last.set i z) := by
  refine ⟨by rw [List.length_set]; exact h.1, fun j hj => ?_⟩
  by_cases e : j = i
  · subst e
    by_cases hl : j < last.length
    · rw [getD_set _ _ _ _ _ hl, if_pos rfl]; exact hz
    · exact absurd (by simp only [List.getD]; rw [List.getElem?_eq_none (by rw [List.length_set]; omega)]; rfl) hj
  · rw [getD_set_ne _ _ _ e] at hj ⊢
    exact h.2 j hj
theorem LastOk.new : LastOk (List.replicate 6 []) := by
  refine ⟨by simp, fun i hi => absurd ?_ hi⟩
  exact repl_nil 6 i
theorem latOf_new : latOf (List.replicate 6 []) = List.replicate 6 [] := by simp [latOf, sealO]
theorem repl_sl (n i : Nat) : (List.replicate n sl0).getD i sl0 = sl0 := by
  simp only [List.getD, List.getElem?_replicate]
  split <;> rfl
theorem own9_lt {w : World} {gL oL cL : Nat} {ss : List (Option Addr × Nat × Nat)} (h : OwnV slF sl0 (fun i => i = gL) w (.slice (some ⟨gL, oL, none⟩) 6 cL) ss) (hs : ss.length = 6) : gL < w.heap.size := by
  obtain ⟨g', o', c', hv, hg, hl, _⟩ := h.row (j := 0) (by omega)
  have : g' = gL := hg
  omega
theorem wantB_none {barrier : Bool} {last : List (List Int)} {ks : List Bool} {i : Nat} (h : last.getD i [] = []) : wantB barrier last ks i = List.replicate 16 0 := if_neg (fun hh => hh.1 h)
theorem wantB_yes {barrier : Bool} {last : List (List Int)} {ks : List Bool} {i : Nat} (h : last.getD i [] ≠ []) (hk : keptB barrier last ks i = true) : wantB barrier last ks i = last.getD i [] := if_pos ⟨h, hk⟩
theorem wantB_no {barrier : Bool} {last : List (List Int)} {ks : List Bool} {i : Nat} (hk : keptB barrier last ks i = false) : wantB barrier last ks i = List.replicate 16 0 := if_neg (fun hh => by rw [hk] at hh; exact absurd hh.2 (by simp))
end Go.Proofs.Ytpkoiogdkaklfaa
