/-
  A queue in memory: a row of one-cell values of whatever kind, and a bound; clearing a row; taking the first of a row away in its place. Conditions: each theorem's own.
-/
import Derived.Test.YtmnaadbemlecpaaLibV
import Derived.Test.YtmnaadbemlecpaaVars
import Derived.Lib.SliceRun
namespace Go.Proofs.Ytmnaadbemlecpaa
open Go.RowKit
set_option linter.unusedVariables false

/-- what Put answers -/
def putE (m n : Nat) : Int := if n = m then 8 else 0

section
variable {α : Type} {f : α → Value} {d : α}

/-- what waits behind a Put -/
def putL (m : Nat) (zs : List α) (x : α) : List α := if zs.length = m then zs else zs ++ [x]

/-- The queue at block b: what waits, in blocks of p; its bound m. -/
def QAt (f : α → Value) (d : α) (p : Nat → Prop) (w : World) (b m : Nat) (zs : List α) : Prop :=
  ∃ a c, VarAt w b [.slice a zs.length c, .int .i64 m] ∧ OwnV f d p w (.slice a zs.length c) zs ∧ zs.length ≤ m ∧ m ≤ 1000 ∧ ¬ p b ∧ ∀ i, p i → i < w.heap.size

theorem QAt.lt {p : Nat → Prop} {w : World} {b m : Nat} {zs : List α} (h : QAt f d p w b m zs) : b < w.heap.size := by
  obtain ⟨a, c, h1, -⟩ := h
  exact h1.lt
theorem QAt.le {p : Nat → Prop} {w : World} {b m : Nat} {zs : List α} (h : QAt f d p w b m zs) : zs.length ≤ m ∧ m ≤ 1000 := by
  obtain ⟨a, c, -, -, h1, h2, -⟩ := h
  exact ⟨h1, h2⟩
theorem QAt.upd {S p : Nat → Prop} {w w' : World} {b m : Nat} {zs : List α} (h : QAt f d p w b m zs) (hu : UpdS S w w') (hb : ¬ S b) (hS : ∀ i, i < w.heap.size → p i → ¬ S i) : QAt f d p w' b m zs := by
  obtain ⟨a, c, h1, h2, h3, h4, h5, h6⟩ := h
  exact ⟨a, c, h1.upd hu hb, h2.upd hu hS, h3, h4, h5, fun i hi => Nat.lt_of_lt_of_le (h6 i hi) hu.size⟩
theorem QAt.grow {p : Nat → Prop} {w w' : World} {b m : Nat} {zs : List α} (h : QAt f d p w b m zs) (hu : Grow w w') : QAt f d p w' b m zs := h.upd (S := fun _ => False) hu.s (fun f => f) (fun _ _ _ h => h)
theorem QAt.new (w : World) (m : Nat) (hm : m ≤ 1000) (t : TypeId) : QAt f d (fun _ => False) (w.alloc (.cells #[.slice none 0 0, .int .i64 m] t)) w.heap.size m [] :=
  ⟨none, 0, VarAt.new w [.slice none 0 0, .int .i64 m] t, OwnV.nil _ _ _ _ _, Nat.zero_le _, hm, fun h => h, fun _ h => h.elim⟩

/-- the row in its variable: another row laid there -/
theorem QAt.lay {p q : Nat → Prop} {w : World} {b m : Nat} {zs : List α} {v0 : Value} (h1 : VarAt w b [v0, .int .i64 m]) (v : Value) (h2 : OwnV f d p w v zs) (h3 : zs.length ≤ m) (h4 : m ≤ 1000) (h5 : ¬ p b) (h6 : ∀ i, p i → i < w.heap.size) :
    QAt f d p (w.setCell ⟨b, 0, none⟩ v) b m zs := by
  obtain ⟨a, c, rfl⟩ := h2.shape
  exact ⟨a, c, h1.set 0 _, h2.upd (upd_one w b 0 _) (fun i _ hi e => h5 (by rw [← e]; exact hi)), h3, h4, h5, fun i hi => by simpa using h6 i hi⟩

theorem OwnV.cut0 {p : Nat → Prop} {w : World} {a : Option Addr} {n c : Nat} {zs : List α} (h : OwnV f d p w (.slice a n c) zs) : OwnV f d p w (.slice a 0 c) [] := by
  rcases h with ⟨rfl, a', hv⟩ | ⟨g, o, c', hv, hb, h0, hnc, hcm, hc, ht⟩
  · injection hv with e1 e2 e3
    subst e3
    exact OwnV.nil _ _ _ _ _
  · injection hv with e1 e2 e3
    subst e1 e3
    exact .inr ⟨g, o, c, rfl, hb, h0, Nat.zero_le _, hcm, fun j hj => absurd hj (Nat.not_lt_zero _), ht⟩

theorem there {w : World} {g o c : Nat} (ht : ∀ j, j < c → (w.cell? ⟨g, o + j, none⟩).isSome = true ∧ w.frozen? ⟨g, o + j, none⟩ = false) (k : Nat) (vs : List Value) (h : k + vs.length ≤ c) :
    ∀ j, j < c → ((w.setCells g (o + k) vs).cell? ⟨g, o + j, none⟩).isSome = true ∧ (w.setCells g (o + k) vs).frozen? ⟨g, o + j, none⟩ = false := fun j hj => by
  refine ⟨?_, by rw [World.frozen?_setCells]; exact (ht j hj).2⟩
  have hs : ∀ i, i < vs.length → (w.cell? ⟨g, o + k + i, none⟩).isSome = true := fun i hi => by rw [Nat.add_assoc]; exact (ht _ (by omega)).1
  by_cases hin : k ≤ j ∧ j < k + vs.length
  · have := World.cell?_setCells_in g vs (o + k) w hs (j - k) (by omega)
    rw [show o + k + (j - k) = o + j by omega] at this
    rw [this]; rfl
  · rw [World.cell?_setCells_out g _ _ _ _ (fun _ _ => by show o + j < o + k ∨ o + k + vs.length ≤ o + j; omega)]
    exact (ht j hj).1

section
variable {P : Program}

/-- THE CLEARING. -/
theorem run_clearV {t e : TypeId} {p : Nat → Prop} {w : World} {v : Value} {zs : List α} (ht : P.underlying t = some (.slice e)) (hv : ∀ w, (zeroValue e).run P w = .ok (f d) w) (hz : (f d).cells = #[f d]) (h1 : (f d).oneCell' = true) (hown : OwnV f d p w v zs) :
    ∃ w', (∀ ty, (Builtin.clear_ #[t] ty #[v]).run P w = .ok (.tuple #[]) w') ∧ OwnV f d p w' v (List.replicate zs.length d) ∧ UpdS p w w' := by
  by_cases h0 : zs.length = 0
  · have hzs : zs = [] := List.eq_nil_of_length_eq_zero h0
    subst hzs
    obtain ⟨a, c, rfl⟩ := hown.shape
    refine ⟨w, fun ty => ?_, hown, UpdS.refl _ _⟩
    cases a <;> simp [Builtin.clear_, run_underlying ht]
  · rcases hown with ⟨rfl, _⟩ | ⟨g, o, c, rfl, hb, hc0, hnc, hcm, hc, hth⟩
    · exact absurd rfl h0
    · refine ⟨_, fun ty => Lib.run_clear_slice (P := P) w t e ty (f d) ht hv hz h1 g o zs.length c (by omega) (fun j hj => (hth j (by omega)).1) (fun j hj => (hth j (by omega)).2), .inr ⟨g, o, c, by rw [List.length_replicate], hb, hc0, by rw [List.length_replicate]; exact hnc, hcm, fun j hj => ?_, ?_⟩, (updS_cells g _ _ w).mono (fun k hk => by rw [hk]; exact hb)⟩
      · rw [List.length_replicate] at hj
        rw [World.cell?_setCells_in g _ o w (fun i hi => (hth i (by simp at hi; omega)).1) j (by simpa using hj)]
        simp [List.getD, hj]
      · exact there hth 0 _ (by simpa using hnc)

/-- THE FIRST ONE GOES: the append over itself, and the clearing of the place behind. -/
theorem del_first {t e : TypeId} {p : Nat → Prop} {w : World} {v : Value} {zs : List α} (i : TypeInfo) (ht : P.underlying t = some (.slice e)) (hi : P.info? e = some i) (hsize : i.size = 1) (hv : ∀ w, (zeroValue e).run P w = .ok (f d) w) (hz : (f d).cells = #[f d]) (hf : ∀ x, (f x).oneCell' = true)
    (hown : OwnV f d p w v zs) (hpos : 0 < zs.length) :
    ∃ g o c W1 W2, v = .slice (some ⟨g, o, none⟩) zs.length c ∧ zs.length ≤ c ∧ c ≤ maxLen ∧
      (∀ ty, (Builtin.append_ #[t, t] ty #[.slice (some ⟨g, o, none⟩) 0 c, .slice (if c = 1 then some ⟨g, o, none⟩ else some ⟨g, o + 1, none⟩) (zs.length - 1) (c - 1)]).run P w.drew = .ok (.slice (some ⟨g, o, none⟩) (zs.length - 1) c) W1) ∧
      (∀ ty, (Builtin.clear_ #[t] ty #[.slice (some ⟨g, o + (zs.length - 1), none⟩) (zs.length - (zs.length - 1)) (c - (zs.length - 1))]).run P W1 = .ok (.tuple #[]) W2) ∧
      OwnV f d p W2 (.slice (some ⟨g, o, none⟩) (zs.length - 1) c) (zs.drop 1) ∧ UpdS p w W2 ∧ UpdS p w.drew W1 := by
  have hrd := hown.rd
  rcases hown with ⟨rfl, _⟩ | ⟨g, o, c, rfl, hb, hc0, hnc, hcm, hc, hth⟩
  · simp at hpos
  · have hsrc : Src P i.size t (.slice (if c = 1 then some ⟨g, o, none⟩ else some ⟨g, o + 1, none⟩) (zs.length - 1) (c - 1)) (zs.length - 1) ((zs.drop 1).map f) w.drew := by
      have h1 := ((hrd.grow (w' := w.drew) (Grow.refl w).drew).drop 1 hpos).src (P := P) hf (tx := t) ht
      rw [hsize]
      simp only [List.length_drop, Option.map_some, Addr.add_lit] at h1
      exact h1
    have hth' : ∀ j, j < c → (w.drew.cell? ⟨g, o + j, none⟩).isSome = true ∧ w.drew.frozen? ⟨g, o + j, none⟩ = false := hth
    have hl : ((zs.drop 1).map f).length = zs.length - 1 := by simp
    have hrun := fun ty => run_append_room_src (P := P) w.drew t t ty e i ht hi g o 0 c _ (zs.length - 1) ((zs.drop 1).map f) hsrc (by omega) (fun j hj => by rw [Nat.zero_mul, Nat.add_zero]; exact (hth' j (by omega)).1) (fun j hj => by rw [Nat.zero_mul, Nat.add_zero]; exact (hth' j (by omega)).2)
    simp only [Nat.zero_mul, Nat.add_zero, Nat.zero_add] at hrun
    have hth1 := there hth' 0 ((zs.drop 1).map f) (by omega)
    rw [Nat.add_zero] at hth1
    have hin1 : ∀ j, j < zs.length - 1 → (w.drew.setCells g o ((zs.drop 1).map f)).cell? ⟨g, o + j, none⟩ = some (f ((zs.drop 1).getD j d)) := fun j hj => by
      rw [World.cell?_setCells_in g _ o w.drew (fun i hi => (hth' i (by omega)).1) j (by omega)]
      simp only [List.getElem_map, List.getD, List.getElem?_eq_getElem (show j < (zs.drop 1).length by simp; omega), Option.getD_some]
    have hcl := fun ty => Lib.run_clear_slice (P := P) (w.drew.setCells g o ((zs.drop 1).map f)) t e ty (f d) ht hv hz (hf d) g (o + (zs.length - 1)) 1 (c - (zs.length - 1)) (by omega) (fun j hj => by rw [Nat.add_assoc]; exact (hth1 _ (by omega)).1) (fun j hj => by rw [Nat.add_assoc]; exact (hth1 _ (by omega)).2)
    have u1 : UpdS p w.drew (w.drew.setCells g o ((zs.drop 1).map f)) := (updS_cells g _ _ _).mono (fun k hk => by rw [hk]; exact hb)
    have u2 : UpdS p (w.drew.setCells g o ((zs.drop 1).map f)) _ := (updS_cells g (o + (zs.length - 1)) (List.replicate 1 (f d)) _).mono (fun k hk => by rw [hk]; exact hb)
    refine ⟨g, o, c, _, _, rfl, hnc, hcm, hrun, fun ty => by rw [show zs.length - (zs.length - 1) = 1 by omega]; exact hcl ty, .inr ⟨g, o, c, by simp, hb, hc0, by simp; omega, hcm, fun j hj => ?_, ?_⟩, ((UpdS.refl p w).drew.trans u1).trans u2, u1⟩
    · rw [List.length_drop] at hj
      rw [World.cell?_setCells_out g _ _ _ _ (fun _ _ => Or.inl (by show o + j < o + (zs.length - 1); omega))]
      exact hin1 j hj
    · exact there hth1 (zs.length - 1) _ (by simp; omega)
end
end
end Go.Proofs.Ytmnaadbemlecpaa
