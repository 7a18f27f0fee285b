/-
  A whole struct stored over one of a slice of the call's own. Conditions: each theorem's own.
-/
import Derived.Test.YtgpigllimoafaaaPrtF
import Derived.Test.YtgpigllimoafaaaLibA
namespace Go.Proofs.Ytgpigllimoafaaa
open Go.RowKit
set_option linter.unusedVariables false
set_option linter.unusedSimpArgs false

theorem OwnS.put {α : Type} {f : α → List Value} {k : Nat} {p : Nat → Prop} {w : World} {g o n c : Nat} {zs : List α} (h : OwnS f k p w (.slice (some ⟨g, o, none⟩) n c) zs) (hk : ∀ x, (f x).length = k) (d : α) {i : Nat} (hi : i < zs.length) (y : α) :
    OwnS f k p (w.setCells g (o + i * k) (f y)) (.slice (some ⟨g, o, none⟩) n c) (zs.set i y) := by
  rcases h with ⟨rfl, _⟩ | ⟨g', o', c', hv, hb, hlt, h0, hnc, hcm, hc, ht⟩
  · exact absurd hi (Nat.not_lt_zero _)
  · injection hv with e1 e2 e3
    injection e1 with e1
    injection e1 with eb eo
    subst eb eo e2 e3
    have hin : (i + 1) * k ≤ zs.length * k := Nat.mul_le_mul_right k hi
    rw [Nat.succ_mul] at hin
    have hck : zs.length * k ≤ c * k := Nat.mul_le_mul_right k hnc
    have hsome : ∀ j, j < (f y).length → (w.cell? ⟨g, o + i * k + j, none⟩).isSome = true := fun j hj => by rw [hk] at hj; rw [Nat.add_assoc]; exact (ht _ (by omega)).1
    refine .inr ⟨g, o, c, by rw [List.length_set], hb, Nat.lt_of_lt_of_le hlt (updS_row g (o + i * k) (f y) w).size, h0, by rw [List.length_set]; exact hnc, hcm, fun j hj => ?_, fun j hj => ⟨?_, ?_⟩⟩
    · rw [List.length_set] at hj
      obtain ⟨hk0, hq, hr, he⟩ := part_of hj
      have e1 := flat_get hk d (zs.set i y) (j / k) (j % k) (by rw [List.length_set]; exact hq) hr
      rw [he, getD_set hq] at e1
      rw [e1]
      by_cases hji : i = j / k
      · rw [if_pos hji]
        have e2 : o + j = o + i * k + j % k := by rw [hji]; omega
        rw [e2, World.cell?_setCells_in g (f y) (o + i * k) w hsome (j % k) (by rw [hk]; exact hr)]
        exact (List.getElem?_eq_getElem _).symm
      · rw [if_neg hji]
        have hout : o + j < o + i * k ∨ o + i * k + (f y).length ≤ o + j := by
          rw [hk]
          rcases Nat.lt_or_ge (j / k) i with hl | hl
          · left
            have : (j / k + 1) * k ≤ i * k := Nat.mul_le_mul_right k hl
            rw [Nat.succ_mul] at this; omega
          · right
            have : (i + 1) * k ≤ j / k * k := Nat.mul_le_mul_right k (by omega)
            rw [Nat.succ_mul] at this; omega
        rw [World.cell?_setCells_out g _ _ _ _ (fun _ _ => hout), hc j hj]
        have e3 := flat_get hk d zs (j / k) (j % k) hq hr
        rw [he] at e3
        exact e3
    · exact World.isSome_setCells g (f y) (o + i * k) w _ (ht j hj).1
    · rw [World.frozen?_setCells]; exact (ht j hj).2

/-- six cells from a place on, written anew -/
def put6o (w : World) (b o : Nat) (x0 x1 x2 x3 x4 x5 : Value) : World := (((((w.setCell ⟨b, o, none⟩ x0).setCell ⟨b, o + 1, none⟩ x1).setCell ⟨b, o + 2, none⟩ x2).setCell ⟨b, o + 3, none⟩ x3).setCell ⟨b, o + 4, none⟩ x4).setCell ⟨b, o + 5, none⟩ x5
theorem put6o_is (w : World) (b o : Nat) (s : FS) : w.setCells b o s.rc = put6o w b o (.bool s.u) (.bool s.d) (.bool s.r) (.int .i64 s.p) (.int .i64 s.q) (.string (strOfNums s.bs)) := rfl
theorem put6o_eq (w : World) (b o : Nat) (x0 x1 x2 x3 x4 x5 : Value) : (((((w.setCell ⟨b, o, none⟩ x0).setCell ⟨b, o + 1, none⟩ x1).setCell ⟨b, o + 2, none⟩ x2).setCell ⟨b, o + 3, none⟩ x3).setCell ⟨b, o + 4, none⟩ x4).setCell ⟨b, o + 5, none⟩ x5 = put6o w b o x0 x1 x2 x3 x4 x5 := rfl
theorem ownQ_cells {p : Nat → Prop} {w : World} {v : Value} {L : List FS} (h : OwnQ p w v L) {i : Nat} (hi : i < L.length) : ∃ g o c, v = .slice (some ⟨g, o, none⟩) L.length c ∧ p g ∧ g < w.heap.size ∧ L.length ≤ c ∧ c ≤ maxLen ∧ QIn w g (o + i * 6) (L.getD i FS.empty) ∧ (w.frozen? ⟨g, o + i * 6, none⟩ = false ∧ w.frozen? ⟨g, o + i * 6 + 1, none⟩ = false ∧ w.frozen? ⟨g, o + i * 6 + 2, none⟩ = false ∧ w.frozen? ⟨g, o + i * 6 + 3, none⟩ = false ∧ w.frozen? ⟨g, o + i * 6 + 4, none⟩ = false ∧ w.frozen? ⟨g, o + i * 6 + 5, none⟩ = false) ∧
    ∀ s : FS, OwnQ p (put6o w g (o + i * 6) (.bool s.u) (.bool s.d) (.bool s.r) (.int .i64 s.p) (.int .i64 s.q) (.string (strOfNums s.bs))) v (L.set i s) := by
  obtain ⟨g, o, c, rfl, hb, hlt, hnc, hcm, hcell, hfr, -⟩ := OwnS.row h FS.rc_length FS.empty hi
  refine ⟨g, o, c, rfl, hb, hlt, hnc, hcm, ⟨hcell 0 (by omega), hcell 1 (by omega), hcell 2 (by omega), hcell 3 (by omega), hcell 4 (by omega), hcell 5 (by omega)⟩, ⟨hfr 0 (by omega), hfr 1 (by omega), hfr 2 (by omega), hfr 3 (by omega), hfr 4 (by omega), hfr 5 (by omega)⟩, fun s => ?_⟩
  rw [← put6o_is]
  exact OwnS.put h FS.rc_length FS.empty hi s
theorem upd_put6o (w : World) (b o : Nat) (x0 x1 x2 x3 x4 x5 : Value) : UpdS (fun k => k = b) w (put6o w b o x0 x1 x2 x3 x4 x5) :=
  (((((upd_one w b o x0).trans (upd_one _ b (o + 1) x1)).trans (upd_one _ b (o + 2) x2)).trans (upd_one _ b (o + 3) x3)).trans (upd_one _ b (o + 4) x4)).trans (upd_one _ b (o + 5) x5)
end Go.Proofs.Ytgpigllimoafaaa
