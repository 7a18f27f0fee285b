/-
  Own library: slices of one-cell values of whatever kind, told by what they read as and by the blocks they lie in; slices of the call's own; appending, making, copying. Conditions: each theorem's own.
-/
import Derived.Test.YtdafamocnjfmjaaDoorLib
import Derived.Test.YtdafamocnjfmjaaDoorSched
import Derived.Laws.MakeOwn
import Derived.Laws.IdiomCopy
import Derived.Laws.CopyOwn
namespace Go.Proofs.YtdafamocnjfmjaaDoor
open Go.RowKit
set_option linter.unusedVariables false

section
variable {α : Type} {f : α → Value} {d : α}

/-- The value v is a slice that reads, in w, as the values f z of zs; its cells (if any) lie in blocks of p. -/
def RdV (f : α → Value) (d : α) (p : Nat → Prop) (w : World) (v : Value) (zs : List α) : Prop :=
  ∃ a c, v = .slice a zs.length c ∧ zs.length ≤ c ∧ c ≤ maxLen ∧
    ∀ i, i < zs.length → ∃ b o, a = some ⟨b, o, none⟩ ∧ p b ∧ w.cell? ⟨b, o + i, none⟩ = some (f (zs.getD i d))

theorem RdV.mono {p q : Nat → Prop} {w : World} {v : Value} {zs : List α} (h : RdV f d p w v zs) (hp : ∀ i, i < w.heap.size → p i → q i) : RdV f d q w v zs := by
  obtain ⟨a, c, hv, h1, h2, h3⟩ := h
  exact ⟨a, c, hv, h1, h2, fun i hi => by obtain ⟨b, o, e, hb, hc⟩ := h3 i hi; exact ⟨b, o, e, hp b (World.block_lt_of_cell? _ _ hc) hb, hc⟩⟩
theorem RdV.nil (f : α → Value) (d : α) (p : Nat → Prop) (w : World) (a : Option Addr) (c : Nat) (hc : c ≤ maxLen) : RdV f d p w (.slice a 0 c) [] :=
  ⟨a, c, rfl, Nat.zero_le _, hc, fun i hi => absurd hi (Nat.not_lt_zero _)⟩
theorem RdV.upd {S p : Nat → Prop} {w w' : World} {v : Value} {zs : List α} (h : RdV f d p w v zs) (hu : UpdS S w w') (hS : ∀ i, i < w.heap.size → p i → ¬ S i) : RdV f d p w' v zs := by
  obtain ⟨a, c, hv, h1, h2, h3⟩ := h
  exact ⟨a, c, hv, h1, h2, fun i hi => by
    obtain ⟨b, o, e, hlt, hc⟩ := h3 i hi
    have hb : b < w.heap.size := World.block_lt_of_cell? _ _ hc
    exact ⟨b, o, e, hlt, by rw [hu.cell (p := ⟨b, o + i, none⟩) hb (hS b hb hlt)]; exact hc⟩⟩
theorem RdV.grow {p : Nat → Prop} {w w' : World} {v : Value} {zs : List α} (h : RdV f d p w v zs) (hu : Grow w w') : RdV f d p w' v zs := h.upd (S := fun _ => False) hu.s (fun _ _ _ h => h)
theorem RdV.len {p : Nat → Prop} {w : World} {v : Value} {zs : List α} (h : RdV f d p w v zs) : zs.length ≤ maxLen := by
  obtain ⟨a, c, hv, h1, h2, h3⟩ := h; omega
theorem RdV.caps {p : Nat → Prop} {w : World} {a : Option Addr} {n c : Nat} {zs : List α} (h : RdV f d p w (.slice a n c) zs) : n = zs.length ∧ n ≤ c ∧ c ≤ maxLen := by
  obtain ⟨a', c', hv, h1, h2, h3⟩ := h
  injection hv with ea en ec
  subst ec
  exact ⟨en, by omega, h2⟩
theorem RdV.shape {p : Nat → Prop} {w : World} {v : Value} {zs : List α} (h : RdV f d p w v zs) : ∃ a c, v = .slice a zs.length c := by
  obtain ⟨a, c, hv, _⟩ := h
  exact ⟨a, c, hv⟩

/-- the address, once for all elements -/
theorem RdV.addr {p : Nat → Prop} {w : World} {a : Option Addr} {n c : Nat} {zs : List α} (h : RdV f d p w (.slice a n c) zs) (hn : 0 < zs.length) :
    ∃ b o, a = some ⟨b, o, none⟩ ∧ p b ∧ ∀ i, i < zs.length → w.cell? ⟨b, o + i, none⟩ = some (f (zs.getD i d)) := by
  obtain ⟨a', c', hv, h1, h2, h3⟩ := h
  injection hv with ea en ec
  subst ea; subst ec
  obtain ⟨b, o, e, hb, _⟩ := h3 0 hn
  refine ⟨b, o, e, hb, fun i hi => ?_⟩
  obtain ⟨b', o', e', _, hc'⟩ := h3 i hi
  rw [e] at e'
  injection e' with e'
  injection e' with eb eo
  subst eb; subst eo
  exact hc'

theorem RdV.src {P : Program} {p : Nat → Prop} {w : World} {v : Value} {zs : List α} (h : RdV f d p w v zs) (hf : ∀ x, (f x).oneCell' = true) {tx e' : TypeId} (hk : P.underlying tx = some (.slice e')) :
    Src P 1 tx v zs.length (zs.map f) w := by
  obtain ⟨a, c, rfl, h1, h2, h3⟩ := h
  cases zs with
  | nil =>
    cases a with
    | none => exact Src.ofNil w hk c
    | some a => exact Src.ofSlice w hk a 0 c [] (by simp) (by simp) (by simp)
  | cons z zs =>
    obtain ⟨b, o, rfl, _, _⟩ := h3 0 (by simp)
    refine Src.ofSlice w hk _ _ c _ (by simp) (fun j u hu => ?_) (by
      intro u hu
      obtain ⟨x, _, rfl⟩ := List.mem_map.1 hu
      exact hf x)
    have hj : j < (z :: zs).length := by
      have := (List.getElem?_eq_some_iff.1 hu).1
      simpa using this
    obtain ⟨b', o', e, _, hc⟩ := h3 j hj
    injection e with e
    injection e with eb eo
    subst eb; subst eo
    rw [Addr.add_lit, hc]
    rw [List.getElem?_map, List.getElem?_eq_getElem hj] at hu
    rw [← hu]
    simp only [List.getD, List.getElem?_eq_getElem hj, Option.getD_some, Option.map_some]

theorem RdV.take {p : Nat → Prop} {w : World} {a : Option Addr} {n c : Nat} {zs : List α} (h : RdV f d p w (.slice a n c) zs) (m : Nat) (hm : m ≤ zs.length) : RdV f d p w (.slice a m c) (zs.take m) := by
  obtain ⟨a', c', hv, h1, h2, h3⟩ := h
  injection hv with ea en ec
  subst ea; subst ec
  have hl : (zs.take m).length = m := by rw [List.length_take]; omega
  refine ⟨a, c, by rw [hl], by omega, h2, fun i hi => ?_⟩
  obtain ⟨b, o, e, hb, hc⟩ := h3 i (by omega)
  refine ⟨b, o, e, hb, ?_⟩
  rw [hc]
  simp [List.getD, show i < m by omega]

/-- what 's[l:]' reads as -/
theorem RdV.drop {p : Nat → Prop} {w : World} {a : Option Addr} {n c : Nat} {zs : List α} (h : RdV f d p w (.slice a n c) zs) (l : Nat) (hl : l ≤ zs.length) :
    RdV f d p w (.slice (if c = l then a else a.map (·.add l)) (n - l) (c - l)) (zs.drop l) := by
  obtain ⟨a', c', hv, h1, h2, h3⟩ := h
  injection hv with ea en ec
  subst ea; subst ec
  refine ⟨_, _, by rw [List.length_drop, en], by rw [List.length_drop]; omega, by omega, fun i hi => ?_⟩
  rw [List.length_drop] at hi
  obtain ⟨b, o, e, hb, hc⟩ := h3 (l + i) (by omega)
  refine ⟨b, o + l, ?_, hb, ?_⟩
  · rw [if_neg (by omega), e]
    simp [Addr.add_lit]
  · rw [Nat.add_assoc, hc]
    simp [List.getD, List.getElem?_drop]

/-- A slice of the call's own: of no capacity, or a row in a block of p whose cells (up to the capacity) are there and may be written. -/
def OwnV (f : α → Value) (d : α) (p : Nat → Prop) (w : World) (v : Value) (zs : List α) : Prop :=
  (zs = [] ∧ ∃ a, v = .slice a 0 0) ∨
  ∃ g o c, v = .slice (some ⟨g, o, none⟩) zs.length c ∧ p g ∧ 0 < c ∧ zs.length ≤ c ∧ c ≤ maxLen ∧
    (∀ j, j < zs.length → w.cell? ⟨g, o + j, none⟩ = some (f (zs.getD j d))) ∧
    (∀ j, j < c → (w.cell? ⟨g, o + j, none⟩).isSome = true ∧ w.frozen? ⟨g, o + j, none⟩ = false)

theorem OwnV.nil (f : α → Value) (d : α) (p : Nat → Prop) (w : World) (a : Option Addr) : OwnV f d p w (.slice a 0 0) [] := .inl ⟨rfl, a, rfl⟩
theorem lt_of_some {w : World} {g o : Nat} (h : (w.cell? ⟨g, o, none⟩).isSome = true) : g < w.heap.size := by
  obtain ⟨u, hu⟩ := Option.isSome_iff_exists.1 h
  exact World.block_lt_of_cell? _ _ hu
theorem OwnV.rd {p : Nat → Prop} {w : World} {v : Value} {zs : List α} (h : OwnV f d p w v zs) : RdV f d p w v zs := by
  rcases h with ⟨rfl, a, rfl⟩ | ⟨g, o, c, rfl, hb, h0, hnc, hcm, hc, ht⟩
  · exact RdV.nil _ _ _ _ _ _ (Nat.zero_le _)
  · exact ⟨_, c, rfl, hnc, hcm, fun i hi => ⟨g, o, rfl, hb, hc i hi⟩⟩
theorem OwnV.mono {p q : Nat → Prop} {w : World} {v : Value} {zs : List α} (h : OwnV f d p w v zs) (hp : ∀ i, i < w.heap.size → p i → q i) : OwnV f d q w v zs := by
  rcases h with h | ⟨g, o, c, rfl, hb, h0, hnc, hcm, hc, ht⟩
  · exact .inl h
  · have hlt : g < w.heap.size := lt_of_some (ht 0 h0).1
    exact .inr ⟨g, o, c, rfl, hp g hlt hb, h0, hnc, hcm, hc, ht⟩
/-- the block, by its number: where it is none of p it is of no capacity -/
theorem OwnV.pick {p : Nat → Prop} {w : World} {v : Value} {zs : List α} (h : OwnV f d p w v zs) (g0 : Nat) : ∃ g, OwnV f d (fun i => i = g) w v zs ∧ (g = g0 ∨ (p g ∧ g < w.heap.size)) := by
  rcases h with h | ⟨g, o, c, rfl, hb, h0, hnc, hcm, hc, ht⟩
  · exact ⟨g0, .inl h, .inl rfl⟩
  · have hlt : g < w.heap.size := lt_of_some (ht 0 h0).1
    exact ⟨g, .inr ⟨g, o, c, rfl, rfl, h0, hnc, hcm, hc, ht⟩, .inr ⟨hb, hlt⟩⟩
theorem OwnV.upd {S p : Nat → Prop} {w w' : World} {v : Value} {zs : List α} (h : OwnV f d p w v zs) (hu : UpdS S w w') (hS : ∀ i, i < w.heap.size → p i → ¬ S i) : OwnV f d p w' v zs := by
  rcases h with h | ⟨g, o, c, rfl, hb, h0, hnc, hcm, hc, ht⟩
  · exact .inl h
  · have hlt : g < w.heap.size := lt_of_some (ht 0 h0).1
    have hn := hS g hlt hb
    refine .inr ⟨g, o, c, rfl, hb, h0, hnc, hcm, fun j hj => ?_, fun j hj => ?_⟩
    · rw [hu.cell (p := ⟨g, o + j, none⟩) hlt hn]; exact hc j hj
    · rw [hu.cell (p := ⟨g, o + j, none⟩) hlt hn, hu.frozen (p := ⟨g, o + j, none⟩) hlt hn]; exact ht j hj
theorem OwnV.grow {p : Nat → Prop} {w w' : World} {v : Value} {zs : List α} (h : OwnV f d p w v zs) (hu : Grow w w') : OwnV f d p w' v zs := h.upd (S := fun _ => False) hu.s (fun _ _ _ h => h)
theorem OwnV.shape {p : Nat → Prop} {w : World} {v : Value} {zs : List α} (h : OwnV f d p w v zs) : ∃ a c, v = .slice a zs.length c := h.rd.shape

/-- 's[l:]' -/
theorem OwnV.drop {p : Nat → Prop} {w : World} {a : Option Addr} {n c : Nat} {zs : List α} (h : OwnV f d p w (.slice a n c) zs) (l : Nat) (hl : l ≤ zs.length) :
    OwnV f d p w (.slice (if c = l then a else a.map (·.add l)) (n - l) (c - l)) (zs.drop l) := by
  rcases h with ⟨rfl, a', hv⟩ | ⟨g, o, c', hv, hb, h0, hnc, hcm, hc, ht⟩
  · injection hv with e1 e2 e3
    subst e1 e2 e3
    have : l = 0 := by simpa using hl
    subst this
    exact .inl ⟨rfl, a, by simp⟩
  · injection hv with e1 e2 e3
    subst e1 e2 e3
    by_cases hcl : c = l
    · subst hcl
      have : zs.length = c := by omega
      exact .inl ⟨List.drop_eq_nil_of_le (by omega), some ⟨g, o, none⟩, by simp [this]⟩
    · rw [if_neg hcl]
      refine .inr ⟨g, o + l, c - l, by simp [Addr.add_lit], hb, by omega, by rw [List.length_drop]; omega, by omega, fun j hj => ?_, fun j hj => ?_⟩
      · rw [List.length_drop] at hj
        rw [Nat.add_assoc, hc (l + j) (by omega)]
        simp [List.getD, List.getElem?_drop]
      · rw [Nat.add_assoc]
        exact ht (l + j) (by omega)

/-- one element set -/
theorem OwnV.row {p : Nat → Prop} {w : World} {v : Value} {zs : List α} (h : OwnV f d p w v zs) {j : Nat} (hj : j < zs.length) :
    ∃ g o c, v = .slice (some ⟨g, o, none⟩) zs.length c ∧ p g ∧ g < w.heap.size ∧ zs.length ≤ c ∧ c ≤ maxLen ∧ w.cell? ⟨g, o + j, none⟩ = some (f (zs.getD j d)) ∧ w.frozen? ⟨g, o + j, none⟩ = false ∧
      ∀ y, OwnV f d p (w.setCell ⟨g, o + j, none⟩ (f y)) v (zs.set j y) := by
  rcases h with ⟨rfl, _⟩ | ⟨g, o, c, rfl, hb, h0, hnc, hcm, hc, ht⟩
  · exact absurd hj (Nat.not_lt_zero _)
  · refine ⟨g, o, c, rfl, hb, lt_of_some (ht 0 h0).1, hnc, hcm, hc j hj, (ht j (by omega)).2, fun y => .inr ⟨g, o, c, by rw [List.length_set], hb, h0, by rw [List.length_set]; exact hnc, hcm, fun i hi => ?_, fun i hi => ⟨?_, ?_⟩⟩⟩
    · rw [List.length_set] at hi
      by_cases e : i = j
      · subst e
        rw [World.cell?_setCell_same _ _ _ (hc i hi)]
        simp [List.getD, hi]
      · rw [World.cell?_setCell_other _ _ _ _ (by intro h; injection h with _ h2; omega), hc i hi]
        simp [List.getD, Ne.symm e]
    · obtain ⟨u, hu⟩ := Option.isSome_iff_exists.1 (ht i hi).1
      by_cases e : (⟨g, o + j, none⟩ : Addr) = ⟨g, o + i, none⟩
      · rw [e, World.cell?_setCell_same _ _ _ hu]; rfl
      · rw [World.cell?_setCell_other _ _ _ _ e, hu]; rfl
    · rw [World.frozen?_setCell]; exact (ht i hi).2

theorem updS_cells (g o : Nat) (vs : List Value) (w : World) : UpdS (fun i => i = g) w (w.setCells g o vs) :=
  ⟨World.os_setCells _ _ _ _, by
      induction vs generalizing o w with
      | nil => rfl
      | cons v vs ih => simp only [World.setCells]; rw [ih]; rfl, World.output_setCells _ _ _ _, by
      induction vs generalizing o w with
      | nil => exact Nat.le_refl _
      | cons v vs ih => simp only [World.setCells]; refine Nat.le_trans ?_ (ih _ _); simp [World.setCell], fun k hk hn => World.heap_setCells_other w g o vs hk (by omega)⟩

section
variable {P : Program}

/-- THE APPEND. -/
theorem run_appV {e : TypeId} {p : Nat → Prop} {w : World} {v x : Value} {zs ys : List α} (t tx ty : TypeId) (i : TypeInfo) (z : Value) (bytes : Nat)
    (ht : P.underlying t = some (.slice e)) (hi : P.info? e = some i) (hz : i.zero = some z) (hsize : i.size = 1) (hby : i.bytes = bytes) (hzs : z.cells.size = 1)
    (hown : OwnV f d p w v zs) (hs : Src P 1 tx x ys.length (ys.map f) w) (h63 : zs.length + ys.length ≤ maxLen) (hbytes : (zs.length + ys.length) * bytes ≤ 140737488355328) :
    ∃ v' w', (Builtin.append_ #[t, tx] ty #[v, x]).run P w = .ok v' w' ∧ OwnV f d (fun i => p i ∨ i = w.heap.size) w' v' (zs ++ ys) ∧ UpdS p w w' := by
  have hsmall : zs.length + ys.length ≤ 9223372036854775807 := by simp only [maxLen] at h63; omega
  have hlen : (zs ++ ys).length = zs.length + ys.length := List.length_append
  subst hby
  have hsi : Src P i.size tx x ys.length (ys.map f) w := by rw [hsize]; exact hs
  have hget : ∀ j, j < zs.length + ys.length → (zs.map f ++ ys.map f)[j]? = some (f ((zs ++ ys).getD j d)) := fun j hj => by
    rw [← List.map_append, List.getElem?_map, List.getElem?_eq_getElem (by rw [hlen]; exact hj)]
    simp [List.getD, List.getElem?_eq_getElem (show j < (zs ++ ys).length by rw [hlen]; exact hj)]
  -- a new row
  have grow : ∀ (bs : Option Addr) (sc : Nat), v = .slice bs zs.length sc → sc < zs.length + ys.length →
      (Builtin.firstCells i.size zs.length (.slice bs zs.length sc)).run P w.drew = .ok (zs.map f).toArray w.drew →
      ∃ v' w', (Builtin.append_ #[t, tx] ty #[v, x]).run P w = .ok v' w' ∧ OwnV f d (fun i => p i ∨ i = w.heap.size) w' v' (zs ++ ys) ∧ UpdS p w w' := by
    rintro bs sc rfl hg hold
    have hrun := run_append_grow_src (P := P) w t tx ty e i z ht hi hz bs zs.length sc (zs.map f) hold x ys.length (ys.map f) hsi hg (by omega) (growslice_fits hg hbytes)
    have hge := grownCap_ge w (zs.length + ys.length) sc e
    have hcm := grownCap_le_maxLen w (zs.length + ys.length) sc e h63
    refine ⟨_, _, hrun, .inr ⟨w.heap.size, 0, _, by rw [hlen], .inr rfl, by omega, by rw [hlen]; exact hge, hcm, fun j hj => ?_, fun j hj => ⟨?_, ?_⟩⟩, Grow.s (((Grow.refl w).drew).alloc _)⟩
    · rw [hlen] at hj
      rw [Nat.zero_add]
      refine (World.cell?_alloc_new w.drew _ _ j).trans ?_
      rw [Array.getElem?_append_left (by simp; omega), List.getElem?_toArray]
      exact hget j hj
    · rw [Nat.zero_add]
      have e1 := World.cell?_alloc_new w.drew ((zs.map f ++ ys.map f).toArray ++ Builtin.zeroCells z.cells (grownCap w (zs.length + ys.length) sc e - (zs.length + ys.length))) e j
      refine (congrArg Option.isSome e1).trans ?_
      rw [Array.getElem?_eq_getElem (by simp only [Array.size_append, List.size_toArray, size_zeroCells, hzs, List.length_append, List.length_map]; omega)]
      rfl
    · exact World.frozen?_alloc_new w.drew _ _ _
  rcases hown with ⟨rfl, a, rfl⟩ | ⟨g, o, c, rfl, hbg, h0, hnc, hcm, hc, hth⟩
  · by_cases hy : ys = []
    · subst hy
      refine ⟨_, _, run_append_nothing (P := P) w t tx ty e i ht hi a 0 0 (Nat.le_refl _) x (by simpa using hsi), .inl ⟨rfl, a, rfl⟩, UpdS.refl _ _⟩
    · have hpos : 0 < ys.length := List.length_pos_iff.2 hy
      refine grow a 0 rfl (by simpa using hpos) ?_
      cases a with
      | none => exact run_firstCells_none w.drew i.size 0 0 0
      | some a' => exact run_firstCells_some w.drew i.size 0 a' 0 0 [] (by simp) (by intro _ _ h'; simp at h')
  · by_cases hroom : zs.length + ys.length ≤ c
    · have hsome : ∀ j, j < (ys.map f).length → (w.cell? ⟨g, o + zs.length * i.size + j, none⟩).isSome = true := fun j hj => by
        have hj' : j < ys.length := by simpa using hj
        rw [hsize, Nat.mul_one, Nat.add_assoc]
        exact (hth _ (by omega)).1
      have hrun := run_append_room_src (P := P) w t tx ty e i ht hi g o zs.length c x ys.length (ys.map f) hsi hroom hsome
        (fun j hj => by
          have hj' : j < ys.length := by simpa using hj
          rw [hsize, Nat.mul_one, Nat.add_assoc]
          exact (hth _ (by omega)).2)
      refine ⟨_, _, hrun, .inr ⟨g, o, c, by rw [hlen], .inl hbg, h0, by rw [hlen]; exact hroom, hcm, fun j hj => ?_, fun j hj => ⟨?_, ?_⟩⟩, (updS_cells g _ _ w).mono (fun k hk => by rw [hk]; exact hbg)⟩
      · rw [hlen] at hj
        rw [hsize, Nat.mul_one]
        by_cases hj' : j < zs.length
        · rw [World.cell?_setCells_out g _ _ _ _ (fun _ _ => Or.inl (by show o + j < o + zs.length; omega)), hc j hj']
          simp [List.getD, List.getElem?_append_left hj']
        · have h1 : j - zs.length < (ys.map f).length := by simp; omega
          have := World.cell?_setCells_in g (ys.map f) (o + zs.length) w (fun j hj => by have := hsome j hj; rwa [hsize, Nat.mul_one] at this) (j - zs.length) h1
          rw [show o + zs.length + (j - zs.length) = o + j by omega] at this
          rw [this]
          simp [List.getD, List.getElem?_append_right (Nat.le_of_not_lt hj'), List.getElem?_eq_getElem (show j - zs.length < ys.length by omega)]
      · rw [hsize, Nat.mul_one]
        by_cases hin : zs.length ≤ j ∧ j < zs.length + ys.length
        · have h1 : j - zs.length < (ys.map f).length := by simp; omega
          have := World.cell?_setCells_in g (ys.map f) (o + zs.length) w (fun j hj => by have := hsome j hj; rwa [hsize, Nat.mul_one] at this) (j - zs.length) h1
          rw [show o + zs.length + (j - zs.length) = o + j by omega] at this
          rw [this]; rfl
        · rw [World.cell?_setCells_out g _ _ _ _ (fun _ _ => by show o + j < o + zs.length ∨ o + zs.length + (ys.map f).length ≤ o + j; simp; omega)]
          exact (hth j hj).1
      · rw [World.frozen?_setCells]
        exact (hth j hj).2
    · refine grow (some ⟨g, o, none⟩) c rfl (by omega) ?_
      refine run_firstCells_some w.drew i.size zs.length ⟨g, o, none⟩ zs.length c _ (by simp [hsize]) (fun j u hu => ?_)
      have hj : j < zs.length := by
        have := (List.getElem?_eq_some_iff.1 hu).1
        simpa using this
      rw [Addr.add_lit]
      refine (hc j hj).trans ?_
      rw [← hu]
      simp [List.getD, List.getElem?_eq_getElem hj]

/-- THE APPEND, for the walk. -/
theorem wpList_appV {w : World} {ops : Array Oper} {rest : List Oper} {o : Oper} {a : Act} {Q : Exit → Act → World → Prop} (hgd : o.guard = none) (s x : Operand) (t tx : TypeId)
    (ho : o.op = .call { callee := .builtin .append, args := #[s, x], argTypes := #[t, tx] })
    {e : TypeId} {p : Nat → Prop} {v xv : Value} {zs ys : List α} (i : TypeInfo) (z : Value) (bytes : Nat)
    (ht : P.underlying t = some (.slice e)) (hi : P.info? e = some i) (hz : i.zero = some z) (hsize : i.size = 1) (hby : i.bytes = bytes) (hzs : z.cells.size = 1)
    (hv : a.eval s = v) (hx : a.eval x = xv)
    (hown : OwnV f d p w v zs) (hs : Src P 1 tx xv ys.length (ys.map f) w) (h63 : zs.length + ys.length ≤ maxLen) (hbytes : (zs.length + ys.length) * bytes ≤ 140737488355328)
    (hK : ∀ v' w', OwnV f d (fun i => p i ∨ i = w.heap.size) w' v' (zs ++ ys) → UpdS p w w' → wpList P ops Q rest (a.put o.dst v') w') : wpList P ops Q (o :: rest) a w := by
  refine wpList_plain hgd fun K hK' => ?_
  obtain ⟨v', w', hrun, r', b'⟩ := run_appV (P := P) t tx o.type i z bytes ht hi hz hsize hby hzs hown hs h63 hbytes
  unfold Oper.wp
  simp [execOp, ho, resolve, invoke, builtin, hv, hx, hrun, Result.andThen]
  exact hK' _ _ (hK v' w' r' b')

/-- a new slice of noughts -/
theorem wpList_makeV {w : World} {ops : Array Oper} {rest : List Oper} {o : Oper} {a : Act} {Q : Exit → Act → World → Prop} (hgd : o.guard = none) (l c : Operand) (t : TypeId) (ho : o.op = .makeSlice t l c)
    (f : α → Value) (d : α) (e : TypeId) (i : TypeInfo) (ht : P.underlying t = some (.slice e)) (hi : P.info? e = some i) (hz : i.zero = some (f d)) (hzc : (f d).cells = #[f d]) (bytes : Nat) (hsize : i.size = 1) (hby : i.bytes = bytes)
    (kl kc : IntKind) (C : Int) (n : Nat) (hl : a.eval l = .int kl C) (hc : a.eval c = .int kc C) (hC : C = (n : Int)) (hn : n ≤ 100000000) (hb : bytes ≤ 1000000)
    (hK : ∀ v' w', OwnV f d (fun i => i = w.heap.size) w' v' (List.replicate n d) → Grow w w' → w.heap.size < w'.heap.size → wpList P ops Q rest (a.put o.dst v') w') : wpList P ops Q (o :: rest) a w := by
  subst hC
  refine wpList_plain hgd fun K hK' => ?_
  have hbb : (i.bytes : Int) * (n : Int) ≤ 1000000 * 100000000 := by
    rw [hby]
    exact Int.mul_le_mul (by omega) (by omega) (by omega) (by omega)
  have hrun := run_make (P := P) w t e i (f d) ht hi hz kl kc n n (by omega) (by omega) (by omega) (by omega)
  unfold Oper.wp
  simp [execOp, ho, hl, hc, hrun, Result.andThen]
  have hsz : (madeCells (f d).cells (n * i.size)).size = n := by rw [size_madeCells, hsize]; simp
  refine hK' _ _ (hK _ _ ?_ ((Grow.refl w).alloc _) (by simp))
  have hcell : ∀ j, j < n → (w.alloc (.cells (madeCells (f d).cells (n * i.size)) e)).cell? ⟨w.heap.size, j, none⟩ = some (f d) := fun j hj => by
    refine (World.cell?_alloc_new w _ _ j).trans ?_
    rw [Array.getElem?_eq_getElem (by rw [hsz]; exact hj)]
    simp [madeCells, hzc, Nat.mod_one]
  by_cases h0 : n = 0
  · subst h0
    exact .inl ⟨rfl, _, rfl⟩
  · refine .inr ⟨w.heap.size, 0, n, by simp, rfl, by omega, by simp, by simp only [maxLen]; omega, fun j hj => ?_, fun j hj => ⟨?_, ?_⟩⟩
    · rw [List.length_replicate] at hj
      rw [Nat.zero_add, hcell j hj]
      simp [List.getD, hj]
    · rw [Nat.zero_add, hcell j hj]; rfl
    · exact World.frozen?_alloc_new w _ _ _

/-- THE COPY, of as many: all goes over. -/
theorem run_copyV {w : World} (dT sT ty elem : TypeId) (hu : P.underlying dT = some (.slice elem)) (hsz : (P.info? elem).map (·.size) = some 1)
    {p q : Nat → Prop} {v x : Value} {zs ys : List α} (hown : OwnV f d p w v zs) (hrd : RdV f d q w x ys) (hl : zs.length = ys.length) (hf : ∀ x, (f x).oneCell' = true) :
    ∃ w', (Builtin.copy_ #[dT, sT] ty #[v, x]).run P w = .ok (goInt ys.length) w' ∧ OwnV f d p w' v ys ∧ UpdS p w w' := by
  obtain ⟨as, cs, rfl⟩ := hrd.shape
  by_cases h0 : ys.length = 0
  · have hy : ys = [] := List.eq_nil_of_length_eq_zero h0
    subst hy
    have hz : zs = [] := List.eq_nil_of_length_eq_zero (by rw [hl]; rfl)
    subst hz
    obtain ⟨ad, cd, rfl⟩ := hown.shape
    exact ⟨w, run_copy_none (P := P) w dT sT ty elem ad as _ _ _ _ hu hsz rfl, hown, UpdS.refl _ _⟩
  · obtain ⟨b, ob, rfl, hqb, hcell⟩ := hrd.addr (by omega)
    rcases hown with ⟨rfl, _⟩ | ⟨g, og, c, rfl, hb, hc0, hnc, hcm, hc, ht⟩
    · simp at hl; omega
    · have hget : ∀ j, j < ys.length → (ys.map f)[j]? = some (f (ys.getD j d)) := fun j hj => by
        rw [List.getElem?_map, List.getElem?_eq_getElem hj]
        simp [List.getD, List.getElem?_eq_getElem hj]
      have hrun := run_copy_cells (P := P) w dT sT ty elem g og zs.length c ⟨b, ob, none⟩ ys.length cs (ys.map f) hu hsz (by rw [List.length_map, hl]; exact (Nat.min_self _).symm)
        (fun j u hu' => by
          have hj : j < ys.length := by
            have := (List.getElem?_eq_some_iff.1 hu').1
            simpa using this
          rw [Addr.add_lit, hcell j hj, ← hget j hj]; exact hu')
        (fun j hj => (ht j (by simp at hj; omega)).1) (fun j hj => (ht j (by simp at hj; omega)).2)
        (fun u hu' => by obtain ⟨y, _, rfl⟩ := List.mem_map.1 hu'; exact hf y)
      rw [List.length_map] at hrun
      refine ⟨_, hrun, .inr ⟨g, og, c, by rw [hl], hb, hc0, by omega, hcm, fun j hj => ?_, fun j hj => ⟨?_, ?_⟩⟩, (updS_cells g _ _ w).mono (fun k hk => by rw [hk]; exact hb)⟩
      · rw [World.cell?_setCells_in g (ys.map f) og w (fun j hj => (ht j (by simp at hj; omega)).1) j (by simpa using hj)]
        simp [List.getD, List.getElem?_eq_getElem hj]
      · by_cases hin : j < ys.length
        · rw [World.cell?_setCells_in g (ys.map f) og w (fun j hj => (ht j (by simp at hj; omega)).1) j (by simpa using hin)]; rfl
        · rw [World.cell?_setCells_out g _ _ _ _ (fun _ _ => by show og + j < og ∨ og + (ys.map f).length ≤ og + j; simp; omega)]
          exact (ht j hj).1
      · rw [World.frozen?_setCells]
        exact (ht j hj).2

/-- a one-element slice laid for an append: where it lies -/
theorem Src.oneV {w : World} {tx e' : TypeId} (hk : P.underlying tx = some (.slice e')) (f : α → Value) (y : α) (hf : (f y).oneCell' = true) (e : TypeId) :
    Src P 1 tx (.slice (some ⟨w.heap.size, 0, none⟩) 1 1) [y].length ([y].map f) (w.alloc (.cells #[f y] e)) := by
  refine Src.ofSlice _ hk _ _ _ _ (by simp) (fun j u hu => ?_) (by intro u hu; simp at hu; rw [hu]; exact hf)
  have hj : j = 0 := by
    have := (List.getElem?_eq_some_iff.1 hu).1
    simp at this; omega
  subst hj
  rw [Addr.add_lit]
  refine (World.cell?_alloc_new w _ _ _).trans ?_
  simpa using hu
end
end
end Go.Proofs.YtdafamocnjfmjaaDoor
