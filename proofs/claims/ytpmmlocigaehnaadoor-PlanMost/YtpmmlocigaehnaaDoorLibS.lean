/-
  Own library: slices of values of k cells each (structs of one-cell fields), told by what they read as and by the blocks they lie in; slices of the call's own; appending, making, copying; variables of several cells. Conditions: each theorem's own.
-/
import Derived.Test.YtpmmlocigaehnaaDoorLib
import Derived.Test.YtpmmlocigaehnaaDoorSched
import Derived.Laws.MakeOwn
import Derived.Laws.IdiomCopy
import Derived.Laws.CopyOwn
namespace Go.Proofs.YtpmmlocigaehnaaDoor
open Go.RowKit
set_option linter.unusedVariables false

section
variable {α : Type} {f : α → List Value} {k : Nat}

theorem flat_length (hk : ∀ x, (f x).length = k) (zs : List α) : (zs.flatMap f).length = zs.length * k := by
  induction zs with
  | nil => simp
  | cons z zs ih => rw [List.flatMap_cons, List.length_append, ih, hk, List.length_cons, Nat.succ_mul, Nat.add_comm]

theorem flat_get (hk : ∀ x, (f x).length = k) (d : α) (zs : List α) (i j : Nat) (hi : i < zs.length) (hj : j < k) : (zs.flatMap f)[i * k + j]? = (f (zs.getD i d))[j]? := by
  induction zs generalizing i with
  | nil => exact absurd hi (Nat.not_lt_zero _)
  | cons z zs ih =>
    rw [List.flatMap_cons]
    cases i with
    | zero => rw [Nat.zero_mul, Nat.zero_add, List.getElem?_append_left (by rw [hk]; exact hj)]; rfl
    | succ i =>
      rw [List.getElem?_append_right (by rw [hk, Nat.succ_mul]; omega), hk, show (i + 1) * k + j - k = i * k + j by rw [Nat.succ_mul]; omega]
      exact ih i (by simpa using hi)

/-- which element a cell belongs to -/
theorem part_of {j n k : Nat} (h : j < n * k) : 0 < k ∧ j / k < n ∧ j % k < k ∧ j / k * k + j % k = j := by
  have hk : 0 < k := Nat.pos_of_ne_zero (fun e => by subst e; simp at h)
  refine ⟨hk, (Nat.div_lt_iff_lt_mul hk).2 h, Nat.mod_lt _ hk, ?_⟩
  rw [Nat.mul_comm]; exact Nat.div_add_mod j k

theorem flat_set (hk : ∀ x, (f x).length = k) (d : α) (zs : List α) (i j : Nat) (y : α) (u : Value) (hi : i < zs.length) (hj : j < k) (hy : f y = (f (zs.getD i d)).set j u) : (zs.set i y).flatMap f = (zs.flatMap f).set (i * k + j) u := by
  induction zs generalizing i with
  | nil => exact absurd hi (Nat.not_lt_zero _)
  | cons z zs ih =>
    cases i with
    | zero =>
      rw [Nat.zero_mul, Nat.zero_add, List.set_cons_zero, List.flatMap_cons, List.flatMap_cons, List.set_append_left _ _ (by rw [hk]; exact hj)]
      have hy' : f y = (f z).set j u := hy
      rw [hy']
    | succ i =>
      rw [List.set_cons_succ, List.flatMap_cons, List.flatMap_cons, List.set_append_right _ _ (by rw [hk, Nat.succ_mul]; omega), hk, show (i + 1) * k + j - k = i * k + j by rw [Nat.succ_mul]; omega]
      rw [ih i (by simpa using hi) hy]

/-- The value v is a slice that reads, in w, as the elements zs, each of the cells f z; its cells (if any) lie in blocks of p. -/
def RdS (f : α → List Value) (k : Nat) (p : Nat → Prop) (w : World) (v : Value) (zs : List α) : Prop :=
  ∃ a c, v = .slice a zs.length c ∧ zs.length ≤ c ∧ c ≤ maxLen ∧
    (0 < zs.length → ∃ b o, a = some ⟨b, o, none⟩ ∧ p b ∧ b < w.heap.size ∧ ∀ j, j < zs.length * k → w.cell? ⟨b, o + j, none⟩ = (zs.flatMap f)[j]?)

theorem RdS.mono {p q : Nat → Prop} {w : World} {v : Value} {zs : List α} (h : RdS f k p w v zs) (hp : ∀ i, i < w.heap.size → p i → q i) : RdS f k q w v zs := by
  obtain ⟨a, c, hv, h1, h2, h3⟩ := h
  exact ⟨a, c, hv, h1, h2, fun h0 => by obtain ⟨b, o, e, hb, hlt, hc⟩ := h3 h0; exact ⟨b, o, e, hp b hlt hb, hlt, hc⟩⟩
theorem RdS.nil (f : α → List Value) (k : Nat) (p : Nat → Prop) (w : World) (a : Option Addr) (c : Nat) (hc : c ≤ maxLen) : RdS f k p w (.slice a 0 c) [] :=
  ⟨a, c, rfl, Nat.zero_le _, hc, fun hi => absurd hi (Nat.not_lt_zero _)⟩
theorem RdS.upd {S p : Nat → Prop} {w w' : World} {v : Value} {zs : List α} (h : RdS f k p w v zs) (hu : UpdS S w w') (hS : ∀ i, i < w.heap.size → p i → ¬ S i) : RdS f k p w' v zs := by
  obtain ⟨a, c, hv, h1, h2, h3⟩ := h
  exact ⟨a, c, hv, h1, h2, fun h0 => by
    obtain ⟨b, o, e, hb, hlt, hc⟩ := h3 h0
    exact ⟨b, o, e, hb, Nat.lt_of_lt_of_le hlt hu.size, fun j hj => by rw [hu.cell (p := ⟨b, o + j, none⟩) hlt (hS b hlt hb)]; exact hc j hj⟩⟩
theorem RdS.grow {p : Nat → Prop} {w w' : World} {v : Value} {zs : List α} (h : RdS f k p w v zs) (hu : Grow w w') : RdS f k p w' v zs := h.upd (S := fun _ => False) hu.s (fun _ _ _ h => h)
theorem RdS.len {p : Nat → Prop} {w : World} {v : Value} {zs : List α} (h : RdS f k p w v zs) : zs.length ≤ maxLen := by
  obtain ⟨a, c, hv, h1, h2, h3⟩ := h; omega
theorem RdS.caps {p : Nat → Prop} {w : World} {a : Option Addr} {n c : Nat} {zs : List α} (h : RdS f k p w (.slice a n c) zs) : n = zs.length ∧ n ≤ c ∧ c ≤ maxLen := by
  obtain ⟨a', c', hv, h1, h2, h3⟩ := h
  injection hv with ea en ec
  subst ec
  exact ⟨en, by omega, h2⟩
theorem RdS.shape {p : Nat → Prop} {w : World} {v : Value} {zs : List α} (h : RdS f k p w v zs) : ∃ a c, v = .slice a zs.length c := by
  obtain ⟨a, c, hv, _⟩ := h
  exact ⟨a, c, hv⟩

/-- the address, and one element's cells -/
theorem RdS.at {p : Nat → Prop} {w : World} {a : Option Addr} {n c : Nat} {zs : List α} (h : RdS f k p w (.slice a n c) zs) (hk : ∀ x, (f x).length = k) (d : α) {i : Nat} (hi : i < zs.length) :
    ∃ b o, a = some ⟨b, o, none⟩ ∧ p b ∧ b < w.heap.size ∧ ∀ j, j < k → w.cell? ⟨b, o + i * k + j, none⟩ = (f (zs.getD i d))[j]? := by
  obtain ⟨a', c', hv, h1, h2, h3⟩ := h
  injection hv with ea en ec
  subst ea; subst ec
  obtain ⟨b, o, e, hb, hlt, hc⟩ := h3 (by omega)
  refine ⟨b, o, e, hb, hlt, fun j hj => ?_⟩
  rw [Nat.add_assoc, hc (i * k + j) ?_, flat_get hk d zs i j hi hj]
  have : (i + 1) * k ≤ zs.length * k := Nat.mul_le_mul_right k hi
  rw [Nat.succ_mul] at this
  omega

theorem RdS.src {P : Program} {p : Nat → Prop} {w : World} {v : Value} {zs : List α} (h : RdS f k p w v zs) (hk : ∀ x, (f x).length = k) (hf : ∀ x, ∀ u ∈ f x, u.oneCell' = true) {tx e' : TypeId} (ht : P.underlying tx = some (.slice e')) :
    Src P k tx v zs.length (zs.flatMap f) w := by
  obtain ⟨a, c, rfl, h1, h2, h3⟩ := h
  cases zs with
  | nil =>
    cases a with
    | none => exact Src.ofNil w ht c
    | some a => exact Src.ofSlice w ht a 0 c [] (by simp) (by simp) (by simp)
  | cons z zs =>
    obtain ⟨b, o, rfl, _, _, hc⟩ := h3 (by simp)
    refine Src.ofSlice w ht _ _ c _ (flat_length hk _) (fun j u hu => ?_) (by
      intro u hu
      obtain ⟨x, _, hx⟩ := List.mem_flatMap.1 hu
      exact hf x u hx)
    have hj : j < (z :: zs).length * k := by
      have := (List.getElem?_eq_some_iff.1 hu).1
      rwa [flat_length hk] at this
    rw [Addr.add_lit, hc j hj, hu]

theorem RdS.take {p : Nat → Prop} {w : World} {a : Option Addr} {n c : Nat} {zs : List α} (h : RdS f k p w (.slice a n c) zs) (hk : ∀ x, (f x).length = k) (m : Nat) (hm : m ≤ zs.length) : RdS f k p w (.slice a m c) (zs.take m) := by
  obtain ⟨a', c', hv, h1, h2, h3⟩ := h
  injection hv with ea en ec
  subst ea; subst ec
  have hl : (zs.take m).length = m := by rw [List.length_take]; omega
  refine ⟨a, c, by rw [hl], by omega, h2, fun h0 => ?_⟩
  rw [hl] at h0 ⊢
  obtain ⟨b, o, e, hb, hlt, hc⟩ := h3 (by omega)
  refine ⟨b, o, e, hb, hlt, fun j hj => ?_⟩
  have hj' : j < zs.length * k := Nat.lt_of_lt_of_le hj (Nat.mul_le_mul_right k hm)
  rw [hc j hj']
  obtain ⟨hk0, hq, hr, he⟩ := part_of hj
  obtain ⟨_, hq', _, _⟩ := part_of hj'
  cases zs with
  | nil => simp at hq'
  | cons z zs =>
    have e1 := flat_get hk z (z :: zs) (j / k) (j % k) hq' hr
    have e2 := flat_get hk z ((z :: zs).take m) (j / k) (j % k) (by rw [hl]; exact hq) hr
    rw [he] at e1 e2
    rw [e1, e2]
    simp [List.getD, hq]

/-- A slice of the call's own: of no capacity, or a row in a block of p whose cells (up to the capacity) are there and may be written. -/
def OwnS (f : α → List Value) (k : Nat) (p : Nat → Prop) (w : World) (v : Value) (zs : List α) : Prop :=
  (zs = [] ∧ ∃ a, v = .slice a 0 0) ∨
  ∃ g o c, v = .slice (some ⟨g, o, none⟩) zs.length c ∧ p g ∧ g < w.heap.size ∧ 0 < c ∧ zs.length ≤ c ∧ c ≤ maxLen ∧
    (∀ j, j < zs.length * k → w.cell? ⟨g, o + j, none⟩ = (zs.flatMap f)[j]?) ∧
    (∀ j, j < c * k → (w.cell? ⟨g, o + j, none⟩).isSome = true ∧ w.frozen? ⟨g, o + j, none⟩ = false)

theorem OwnS.nil (f : α → List Value) (k : Nat) (p : Nat → Prop) (w : World) (a : Option Addr) : OwnS f k p w (.slice a 0 0) [] := .inl ⟨rfl, a, rfl⟩
theorem OwnS.rd {p : Nat → Prop} {w : World} {v : Value} {zs : List α} (h : OwnS f k p w v zs) : RdS f k p w v zs := by
  rcases h with ⟨rfl, a, rfl⟩ | ⟨g, o, c, rfl, hb, hlt, h0, hnc, hcm, hc, ht⟩
  · exact RdS.nil _ _ _ _ _ _ (Nat.zero_le _)
  · exact ⟨_, c, rfl, hnc, hcm, fun _ => ⟨g, o, rfl, hb, hlt, hc⟩⟩
theorem OwnS.mono {p q : Nat → Prop} {w : World} {v : Value} {zs : List α} (h : OwnS f k p w v zs) (hp : ∀ i, i < w.heap.size → p i → q i) : OwnS f k q w v zs := by
  rcases h with h | ⟨g, o, c, rfl, hb, hlt, r⟩
  · exact .inl h
  · exact .inr ⟨g, o, c, rfl, hp g hlt hb, hlt, r⟩
/-- the block, by its number: where it is none of p it is of no capacity -/
theorem OwnS.pick {p : Nat → Prop} {w : World} {v : Value} {zs : List α} (h : OwnS f k p w v zs) (g0 : Nat) : ∃ g, OwnS f k (fun i => i = g) w v zs ∧ (g = g0 ∨ (p g ∧ g < w.heap.size)) := by
  rcases h with h | ⟨g, o, c, rfl, hb, hlt, r⟩
  · exact ⟨g0, .inl h, .inl rfl⟩
  · exact ⟨g, .inr ⟨g, o, c, rfl, rfl, hlt, r⟩, .inr ⟨hb, hlt⟩⟩
theorem OwnS.upd {S p : Nat → Prop} {w w' : World} {v : Value} {zs : List α} (h : OwnS f k p w v zs) (hu : UpdS S w w') (hS : ∀ i, i < w.heap.size → p i → ¬ S i) : OwnS f k p w' v zs := by
  rcases h with h | ⟨g, o, c, rfl, hb, hlt, h0, hnc, hcm, hc, ht⟩
  · exact .inl h
  · have hn := hS g hlt hb
    refine .inr ⟨g, o, c, rfl, hb, Nat.lt_of_lt_of_le hlt hu.size, h0, hnc, hcm, fun j hj => ?_, fun j hj => ?_⟩
    · rw [hu.cell (p := ⟨g, o + j, none⟩) hlt hn]; exact hc j hj
    · rw [hu.cell (p := ⟨g, o + j, none⟩) hlt hn, hu.frozen (p := ⟨g, o + j, none⟩) hlt hn]; exact ht j hj
theorem OwnS.grow {p : Nat → Prop} {w w' : World} {v : Value} {zs : List α} (h : OwnS f k p w v zs) (hu : Grow w w') : OwnS f k p w' v zs := h.upd (S := fun _ => False) hu.s (fun _ _ _ h => h)
theorem OwnS.shape {p : Nat → Prop} {w : World} {v : Value} {zs : List α} (h : OwnS f k p w v zs) : ∃ a c, v = .slice a zs.length c := h.rd.shape

/-- one cell of one element set -/
theorem OwnS.row {p : Nat → Prop} {w : World} {v : Value} {zs : List α} (h : OwnS f k p w v zs) (hk : ∀ x, (f x).length = k) (d : α) {i : Nat} (hi : i < zs.length) :
    ∃ g o c, v = .slice (some ⟨g, o, none⟩) zs.length c ∧ p g ∧ g < w.heap.size ∧ zs.length ≤ c ∧ c ≤ maxLen ∧ (∀ j, j < k → w.cell? ⟨g, o + i * k + j, none⟩ = (f (zs.getD i d))[j]?) ∧ (∀ j, j < k → w.frozen? ⟨g, o + i * k + j, none⟩ = false) ∧
      ∀ j y u, j < k → f y = (f (zs.getD i d)).set j u → OwnS f k p (w.setCell ⟨g, o + i * k + j, none⟩ u) v (zs.set i y) := by
  rcases h with ⟨rfl, _⟩ | ⟨g, o, c, rfl, hb, hlt, h0, hnc, hcm, hc, ht⟩
  · exact absurd hi (Nat.not_lt_zero _)
  · have hin : ∀ j, j < k → i * k + j < zs.length * k := fun j hj => by
      have : (i + 1) * k ≤ zs.length * k := Nat.mul_le_mul_right k hi
      rw [Nat.succ_mul] at this; omega
    have hle : zs.length * k ≤ c * k := Nat.mul_le_mul_right k hnc
    refine ⟨g, o, c, rfl, hb, hlt, hnc, hcm, fun j hj => ?_, fun j hj => ?_, fun j y u hj hy => .inr ⟨g, o, c, by rw [List.length_set], hb, by simpa using hlt, h0, by rw [List.length_set]; exact hnc, hcm, fun m hm => ?_, fun m hm => ⟨?_, ?_⟩⟩⟩
    · rw [Nat.add_assoc, hc _ (hin j hj), flat_get hk d zs i j hi hj]
    · rw [Nat.add_assoc]; exact (ht _ (Nat.lt_of_lt_of_le (hin j hj) hle)).2
    · rw [List.length_set] at hm
      rw [flat_set hk d zs i j y u hi hj hy]
      by_cases e : m = i * k + j
      · subst e
        have hs := (ht _ (Nat.lt_of_lt_of_le (hin j hj) hle)).1
        obtain ⟨u0, hu0⟩ := Option.isSome_iff_exists.1 hs
        rw [← Nat.add_assoc] at hu0 ⊢
        rw [World.cell?_setCell_same _ _ _ hu0, List.getElem?_set_self (by rw [flat_length hk]; exact hin j hj)]
      · rw [World.cell?_setCell_other _ _ _ _ (by intro h; injection h with _ h2; omega), hc m hm, List.getElem?_set_ne (Ne.symm e)]
    · obtain ⟨u0, hu0⟩ := Option.isSome_iff_exists.1 (ht m hm).1
      by_cases e : (⟨g, o + i * k + j, none⟩ : Addr) = ⟨g, o + m, none⟩
      · rw [e, World.cell?_setCell_same _ _ _ hu0]; rfl
      · rw [World.cell?_setCell_other _ _ _ _ e, hu0]; rfl
    · rw [World.frozen?_setCell]; exact (ht m hm).2

theorem updS_row (g o : Nat) (vs : List Value) (w : World) : UpdS (fun i => i = g) w (w.setCells g o vs) :=
  ⟨World.os_setCells _ _ _ _, by
      induction vs generalizing o w with
      | nil => rfl
      | cons v vs ih => simp only [World.setCells]; rw [ih]; rfl, World.output_setCells _ _ _ _, by
      induction vs generalizing o w with
      | nil => exact Nat.le_refl _
      | cons v vs ih => simp only [World.setCells]; refine Nat.le_trans ?_ (ih _ _); simp [World.setCell], fun k hk hn => World.heap_setCells_other w g o vs hk (by omega)⟩

section
variable {P : Program}

/-- THE APPEND. -/
theorem run_appS {e : TypeId} {p : Nat → Prop} {w : World} {v x : Value} {zs ys : List α} (hk : ∀ x, (f x).length = k) (hk0 : 0 < k) (t tx ty : TypeId) (i : TypeInfo) (z : Value) (bytes : Nat)
    (ht : P.underlying t = some (.slice e)) (hi : P.info? e = some i) (hz : i.zero = some z) (hsize : i.size = k) (hby : i.bytes = bytes) (hzs : z.cells.size = k)
    (hown : OwnS f k p w v zs) (hs : Src P k tx x ys.length (ys.flatMap f) w) (h63 : zs.length + ys.length ≤ maxLen) (hbytes : (zs.length + ys.length) * bytes ≤ 140737488355328) :
    ∃ v' w', (Builtin.append_ #[t, tx] ty #[v, x]).run P w = .ok v' w' ∧ OwnS f k (fun i => p i ∨ i = w.heap.size) w' v' (zs ++ ys) ∧ UpdS p w w' := by
  have hsmall : zs.length + ys.length ≤ 9223372036854775807 := by simp only [maxLen] at h63; omega
  have hlen : (zs ++ ys).length = zs.length + ys.length := List.length_append
  subst hby
  have hsi : Src P i.size tx x ys.length (ys.flatMap f) w := by rw [hsize]; exact hs
  have hfl : (zs ++ ys).flatMap f = zs.flatMap f ++ ys.flatMap f := List.flatMap_append
  have hfs : (zs.flatMap f ++ ys.flatMap f).length = (zs.length + ys.length) * k := by rw [← hfl, flat_length hk, hlen]
  -- a new row
  have grow : ∀ (bs : Option Addr) (sc : Nat), v = .slice bs zs.length sc → sc < zs.length + ys.length →
      (Builtin.firstCells i.size zs.length (.slice bs zs.length sc)).run P w.drew = .ok (zs.flatMap f).toArray w.drew →
      ∃ v' w', (Builtin.append_ #[t, tx] ty #[v, x]).run P w = .ok v' w' ∧ OwnS f k (fun i => p i ∨ i = w.heap.size) w' v' (zs ++ ys) ∧ UpdS p w w' := by
    rintro bs sc rfl hg hold
    have hrun := run_append_grow_src (P := P) w t tx ty e i z ht hi hz bs zs.length sc (zs.flatMap f) hold x ys.length (ys.flatMap f) hsi hg (by omega) (growslice_fits hg hbytes)
    have hge := grownCap_ge w (zs.length + ys.length) sc e
    have hcm := grownCap_le_maxLen w (zs.length + ys.length) sc e h63
    refine ⟨_, _, hrun, .inr ⟨w.heap.size, 0, _, by rw [hlen], .inr rfl, by simp, by omega, by rw [hlen]; exact hge, hcm, fun j hj => ?_, fun j hj => ⟨?_, ?_⟩⟩, Grow.s (((Grow.refl w).drew).alloc _)⟩
    · rw [hlen] at hj
      rw [Nat.zero_add, hfl]
      refine (World.cell?_alloc_new w.drew _ _ j).trans ?_
      rw [Array.getElem?_append_left (by rw [List.size_toArray, hfs]; exact hj), List.getElem?_toArray]
    · rw [Nat.zero_add]
      have e1 := World.cell?_alloc_new w.drew ((zs.flatMap f ++ ys.flatMap f).toArray ++ Builtin.zeroCells z.cells (grownCap w (zs.length + ys.length) sc e - (zs.length + ys.length))) e j
      refine (congrArg Option.isSome e1).trans ?_
      rw [Array.getElem?_eq_getElem (by
        rw [Array.size_append, List.size_toArray, hfs, size_zeroCells, hzs, ← Nat.add_mul, Nat.add_sub_cancel' hge]; exact hj)]
      rfl
    · exact World.frozen?_alloc_new w.drew _ _ _
  rcases hown with ⟨rfl, a, rfl⟩ | ⟨g, o, c, rfl, hbg, hlt, h0, hnc, hcm, hc, hth⟩
  · by_cases hy : ys = []
    · subst hy
      refine ⟨_, _, run_append_nothing (P := P) w t tx ty e i ht hi a 0 0 (Nat.le_refl _) x (by simpa using hsi), .inl ⟨rfl, a, rfl⟩, UpdS.refl _ _⟩
    · have hpos : 0 < ys.length := List.length_pos_iff.2 hy
      refine grow a 0 rfl (by simpa using hpos) ?_
      cases a with
      | none => exact run_firstCells_none w.drew i.size 0 0 0
      | some a' => exact run_firstCells_some w.drew i.size 0 a' 0 0 [] (by simp) (by intro _ _ h'; simp at h')
  · by_cases hroom : zs.length + ys.length ≤ c
    · have hlek : (zs.length + ys.length) * k ≤ c * k := Nat.mul_le_mul_right k hroom
      rw [Nat.add_mul] at hlek
      have hyl : (ys.flatMap f).length = ys.length * k := flat_length hk ys
      have hsome : ∀ j, j < (ys.flatMap f).length → (w.cell? ⟨g, o + zs.length * i.size + j, none⟩).isSome = true := fun j hj => by
        rw [hsize, Nat.add_assoc]
        exact (hth _ (by omega)).1
      have hrun := run_append_room_src (P := P) w t tx ty e i ht hi g o zs.length c x ys.length (ys.flatMap f) hsi hroom hsome
        (fun j hj => by
          rw [hsize, Nat.add_assoc]
          exact (hth _ (by omega)).2)
      have hu := (updS_row g (o + zs.length * i.size) (ys.flatMap f) w).mono (S' := p) (fun k hk => by rw [hk]; exact hbg)
      refine ⟨_, _, hrun, .inr ⟨g, o, c, by rw [hlen], .inl hbg, Nat.lt_of_lt_of_le hlt hu.size, h0, by rw [hlen]; exact hroom, hcm, fun j hj => ?_, fun j hj => ⟨?_, ?_⟩⟩, hu⟩
      · rw [hlen, Nat.add_mul] at hj
        rw [hsize, hfl]
        have hzl : (zs.flatMap f).length = zs.length * k := flat_length hk zs
        by_cases hj' : j < zs.length * k
        · rw [World.cell?_setCells_out g _ _ _ _ (fun _ _ => Or.inl (by show o + j < o + zs.length * k; omega)), hc j hj', List.getElem?_append_left (by omega)]
        · have := World.cell?_setCells_in g (ys.flatMap f) (o + zs.length * k) w (fun j hj => by have := hsome j hj; rwa [hsize] at this) (j - zs.length * k) (by omega)
          rw [show o + zs.length * k + (j - zs.length * k) = o + j by omega] at this
          rw [this, List.getElem?_append_right (by omega), hzl]
          exact (List.getElem?_eq_getElem _).symm
      · rw [hsize]
        by_cases hin : zs.length * k ≤ j ∧ j < zs.length * k + ys.length * k
        · have := World.cell?_setCells_in g (ys.flatMap f) (o + zs.length * k) w (fun j hj => by have := hsome j hj; rwa [hsize] at this) (j - zs.length * k) (by omega)
          rw [show o + zs.length * k + (j - zs.length * k) = o + j by omega] at this
          rw [this]; rfl
        · rw [World.cell?_setCells_out g _ _ _ _ (fun _ _ => by show o + j < o + zs.length * k ∨ o + zs.length * k + (ys.flatMap f).length ≤ o + j; omega)]
          exact (hth j hj).1
      · rw [World.frozen?_setCells]
        exact (hth j hj).2
    · refine grow (some ⟨g, o, none⟩) c rfl (by omega) ?_
      refine run_firstCells_some w.drew i.size zs.length ⟨g, o, none⟩ zs.length c _ (by rw [flat_length hk, hsize]) (fun j u hu => ?_)
      have hj : j < zs.length * k := by
        have := (List.getElem?_eq_some_iff.1 hu).1
        rwa [flat_length hk] at this
      rw [Addr.add_lit]
      exact (hc j hj).trans hu

/-- THE APPEND, for the walk. -/
theorem wpList_appS {w : World} {ops : Array Oper} {rest : List Oper} {o : Oper} {a : Act} {Q : Exit → Act → World → Prop} (hgd : o.guard = none) (s x : Operand) (t tx : TypeId)
    (ho : o.op = .call { callee := .builtin .append, args := #[s, x], argTypes := #[t, tx] }) (hk : ∀ x, (f x).length = k) (hk0 : 0 < k)
    {e : TypeId} {p : Nat → Prop} {v xv : Value} {zs ys : List α} (i : TypeInfo) (z : Value) (bytes : Nat)
    (ht : P.underlying t = some (.slice e)) (hi : P.info? e = some i) (hz : i.zero = some z) (hsize : i.size = k) (hby : i.bytes = bytes) (hzs : z.cells.size = k)
    (hv : a.eval s = v) (hx : a.eval x = xv)
    (hown : OwnS f k p w v zs) (hs : Src P k tx xv ys.length (ys.flatMap f) w) (h63 : zs.length + ys.length ≤ maxLen) (hbytes : (zs.length + ys.length) * bytes ≤ 140737488355328)
    (hK : ∀ v' w', OwnS f k (fun i => p i ∨ i = w.heap.size) w' v' (zs ++ ys) → UpdS p w w' → wpList P ops Q rest (a.put o.dst v') w') : wpList P ops Q (o :: rest) a w := by
  refine wpList_plain hgd fun K hK' => ?_
  obtain ⟨v', w', hrun, r', b'⟩ := run_appS (P := P) hk hk0 t tx o.type i z bytes ht hi hz hsize hby hzs hown hs h63 hbytes
  unfold Oper.wp
  simp [execOp, ho, resolve, invoke, builtin, hv, hx, hrun, Result.andThen]
  exact hK' _ _ (hK v' w' r' b')

/-- a new slice of noughts: what it reads as -/
theorem ownS_make (w : World) (e : TypeId) (zc : List Value) (n : Nat) (d : α) (hk : ∀ x, (f x).length = k) (hd : f d = zc) (hn : n ≤ maxLen) :
    OwnS f k (fun i => i = w.heap.size) (w.alloc (.cells (madeCells zc.toArray (n * k)) e)) (.slice (some ⟨w.heap.size, 0, none⟩) n n) (List.replicate n d) := by
  by_cases h0 : n = 0
  · subst h0
    exact .inl ⟨rfl, _, rfl⟩
  · have hzl : zc.length = k := by rw [← hd, hk]
    have hcell : ∀ j, j < n * k → (w.alloc (.cells (madeCells zc.toArray (n * k)) e)).cell? ⟨w.heap.size, j, none⟩ = zc[j % k]? := fun j hj => by
      refine (World.cell?_alloc_new w _ _ j).trans ?_
      obtain ⟨hk0, _, hr, _⟩ := part_of hj
      rw [Array.getElem?_eq_getElem (by rw [size_madeCells]; exact hj)]
      simp only [madeCells, Array.getElem_map, Array.getElem_range, List.size_toArray, hzl]
      rw [List.getElem?_eq_getElem (by omega)]
      simp [hzl, hr]
    have hlen : (List.replicate n d).length = n := List.length_replicate
    refine .inr ⟨w.heap.size, 0, n, by rw [hlen], rfl, by simp, by omega, by omega, hn, fun j hj => ?_, fun j hj => ⟨?_, ?_⟩⟩
    · rw [hlen] at hj
      obtain ⟨hk0, hq, hr, he⟩ := part_of hj
      have e1 := flat_get hk d (List.replicate n d) (j / k) (j % k) (by rw [hlen]; exact hq) hr
      rw [he] at e1
      rw [Nat.zero_add, hcell j hj, e1, ← hd]
      simp [List.getD, hq]
    · obtain ⟨hk0, hq, hr, he⟩ := part_of hj
      rw [Nat.zero_add, hcell j hj, List.getElem?_eq_getElem (by omega)]; rfl
    · exact World.frozen?_alloc_new w _ _ _

/-- THE COPY, of as many: all goes over. -/
theorem run_copyS {w : World} (dT sT ty elem : TypeId) (i : TypeInfo) (hk : ∀ x, (f x).length = k) (hu : P.underlying dT = some (.slice elem)) (hi : P.info? elem = some i) (hsz : i.size = k)
    {p q : Nat → Prop} {v x : Value} {zs ys : List α} (hown : OwnS f k p w v zs) (hrd : RdS f k q w x ys) (hl : zs.length = ys.length) (hf : ∀ x, ∀ u ∈ f x, u.oneCell' = true) :
    ∃ w', (Builtin.copy_ #[dT, sT] ty #[v, x]).run P w = .ok (goInt ys.length) w' ∧ OwnS f k p w' v ys ∧ UpdS p w w' := by
  obtain ⟨as, cs, rfl, hc1, hc2, hrd3⟩ := hrd
  by_cases h0 : ys.length = 0
  · have hy : ys = [] := List.eq_nil_of_length_eq_zero h0
    subst hy
    have hz : zs = [] := List.eq_nil_of_length_eq_zero (by rw [hl]; rfl)
    subst hz
    obtain ⟨ad, cd, rfl⟩ := hown.shape
    refine ⟨w, ?_, hown, UpdS.refl _ _⟩
    have hload : ∀ (x : Addr), (loadCells x 0).run P w = .ok #[] w := fun x => by simpa using run_loadCells_list (P := P) w x [] (by simp)
    cases ad <;> cases as <;> simp [Builtin.copy_, run_underlying hu, Builtin.lenOf, Builtin.firstCells, sizeOf, typeInfo, hi, storeCells, hload]
  · obtain ⟨b, ob, rfl, _, _, hcell⟩ := hrd3 (by omega)
    rcases hown with ⟨rfl, _⟩ | ⟨g, og, c, rfl, hb, hlt, hc0, hnc, hcm, hc, ht⟩
    · simp at hl; omega
    · have hyl : (ys.flatMap f).length = ys.length * k := flat_length hk ys
      have hle : ys.length * k ≤ c * k := Nat.mul_le_mul_right k (by omega)
      have hload := run_loadCells_list (P := P) w ⟨b, ob, none⟩ (ys.flatMap f) (fun j u hu' => by
        have hj : j < ys.length * k := by rw [← hyl]; exact (List.getElem?_eq_some_iff.1 hu').1
        rw [Addr.add_lit, hcell j hj, hu'])
      have hst := run_storeCells_cells (P := P) g og (ys.flatMap f) 0 w (fun j hj => by rw [Nat.add_zero]; exact (ht j (by omega)).1) (fun j hj => by rw [Nat.add_zero]; exact (ht j (by omega)).2)
        (fun u hu' => by obtain ⟨y, _, hy⟩ := List.mem_flatMap.1 hu'; exact hf y u hy)
      have hmin : Nat.min ys.length zs.length = ys.length := by rw [hl]; exact Nat.min_self _
      have hrun : (Builtin.copy_ #[dT, sT] ty #[.slice (some ⟨g, og, none⟩) zs.length c, .slice (some ⟨b, ob, none⟩) ys.length cs]).run P w = .ok (goInt ys.length) (w.setCells g og (ys.flatMap f)) := by
        rw [hyl] at hload
        rw [Nat.add_zero] at hst
        simp [Builtin.copy_, run_underlying hu, Builtin.lenOf, Builtin.firstCells, sizeOf, typeInfo, hi, hsz, hmin, hload, hst]
      have hus := (updS_row g og (ys.flatMap f) w).mono (S' := p) (fun k hk => by rw [hk]; exact hb)
      have hin : ∀ j, j < ys.length * k → (w.setCells g og (ys.flatMap f)).cell? ⟨g, og + j, none⟩ = (ys.flatMap f)[j]? := fun j hj => by
        rw [World.cell?_setCells_in g (ys.flatMap f) og w (fun j hj => (ht j (by omega)).1) j (by omega)]
        exact (List.getElem?_eq_getElem _).symm
      refine ⟨_, hrun, .inr ⟨g, og, c, by rw [hl], hb, Nat.lt_of_lt_of_le hlt hus.size, hc0, by omega, hcm, hin, fun j hj => ⟨?_, ?_⟩⟩, hus⟩
      · by_cases h : j < ys.length * k
        · rw [hin j h, List.getElem?_eq_getElem (by omega)]; rfl
        · rw [World.cell?_setCells_out g _ _ _ _ (fun _ _ => by show og + j < og ∨ og + (ys.flatMap f).length ≤ og + j; omega)]
          exact (ht j hj).1
      · rw [World.frozen?_setCells]
        exact (ht j hj).2

/-- elements laid in a new block: what they read as -/
theorem rdS_new (w : World) (e : TypeId) (zs : List α) (hk : ∀ x, (f x).length = k) (hm : zs.length ≤ maxLen) :
    RdS f k (fun i => i = w.heap.size) (w.alloc (.cells (zs.flatMap f).toArray e)) (.slice (some ⟨w.heap.size, 0, none⟩) zs.length zs.length) zs :=
  ⟨_, _, rfl, Nat.le_refl _, hm, fun _ => ⟨w.heap.size, 0, rfl, rfl, by simp, fun j hj => by
    rw [Nat.zero_add]
    refine (World.cell?_alloc_new w _ _ j).trans ?_
    rw [List.getElem?_toArray]⟩⟩
end
end

/-- a variable of several cells at block b -/
def VarAt (w : World) (b : Nat) (vs : List Value) : Prop := b < w.heap.size ∧ ∀ j, j < vs.length → w.cell? ⟨b, j, none⟩ = vs[j]? ∧ w.frozen? ⟨b, j, none⟩ = false
theorem VarAt.lt {w : World} {b : Nat} {vs : List Value} (h : VarAt w b vs) : b < w.heap.size := h.1
theorem VarAt.upd {S : Nat → Prop} {w w' : World} {b : Nat} {vs : List Value} (h : VarAt w b vs) (hu : UpdS S w w') (hb : ¬ S b) : VarAt w' b vs :=
  ⟨Nat.lt_of_lt_of_le h.1 hu.size, fun j hj => by
    rw [hu.cell (p := ⟨b, j, none⟩) h.1 hb, hu.frozen (p := ⟨b, j, none⟩) h.1 hb]; exact h.2 j hj⟩
theorem VarAt.grow {w w' : World} {b : Nat} {vs : List Value} (h : VarAt w b vs) (hu : Grow w w') : VarAt w' b vs := h.upd (S := fun _ => False) hu.s (fun f => f)
theorem VarAt.new (w : World) (vs : List Value) (t : TypeId) : VarAt (w.alloc (.cells vs.toArray t)) w.heap.size vs :=
  ⟨by simp, fun j hj => ⟨(World.cell?_alloc_new w _ _ j).trans (by rw [List.getElem?_toArray]), World.frozen?_alloc_new w _ _ _⟩⟩
theorem VarAt.set {w : World} {b : Nat} {vs : List Value} (h : VarAt w b vs) (j : Nat) (u : Value) : VarAt (w.setCell ⟨b, j, none⟩ u) b (vs.set j u) :=
  ⟨by simpa using h.1, fun m hm => by
    rw [List.length_set] at hm
    rw [World.frozen?_setCell]
    refine ⟨?_, (h.2 m hm).2⟩
    by_cases e : m = j
    · subst e
      have := (h.2 m hm).1
      rw [List.getElem?_eq_getElem hm] at this
      rw [World.cell?_setCell_same _ _ _ this, List.getElem?_set_self hm]
    · rw [World.cell?_setCell_other _ _ _ _ (by intro h; injection h with _ h2; omega), (h.2 m hm).1, List.getElem?_set_ne (Ne.symm e)]⟩
theorem upd_one (w : World) (b j : Nat) (u : Value) : UpdS (fun k => k = b) w (w.setCell ⟨b, j, none⟩ u) := UpdS.setCell (fun k => k = b) ⟨b, j, none⟩ u w rfl
theorem VarAt.three {w : World} {b : Nat} {x y z : Value} (h : VarAt w b [x, y, z]) : (w.cell? ⟨b, 0, none⟩ = some x ∧ w.cell? ⟨b, 1, none⟩ = some y ∧ w.cell? ⟨b, 2, none⟩ = some z) ∧ w.frozen? ⟨b, 0, none⟩ = false ∧ w.frozen? ⟨b, 1, none⟩ = false ∧ w.frozen? ⟨b, 2, none⟩ = false :=
  ⟨⟨(h.2 0 (by simp)).1, (h.2 1 (by simp)).1, (h.2 2 (by simp)).1⟩, (h.2 0 (by simp)).2, (h.2 1 (by simp)).2, (h.2 2 (by simp)).2⟩
theorem VarAt.four {w : World} {b : Nat} {x y z t : Value} (h : VarAt w b [x, y, z, t]) : (w.cell? ⟨b, 0, none⟩ = some x ∧ w.cell? ⟨b, 1, none⟩ = some y ∧ w.cell? ⟨b, 2, none⟩ = some z ∧ w.cell? ⟨b, 3, none⟩ = some t) ∧ w.frozen? ⟨b, 0, none⟩ = false ∧ w.frozen? ⟨b, 1, none⟩ = false ∧ w.frozen? ⟨b, 2, none⟩ = false ∧ w.frozen? ⟨b, 3, none⟩ = false :=
  ⟨⟨(h.2 0 (by simp)).1, (h.2 1 (by simp)).1, (h.2 2 (by simp)).1, (h.2 3 (by simp)).1⟩, (h.2 0 (by simp)).2, (h.2 1 (by simp)).2, (h.2 2 (by simp)).2, (h.2 3 (by simp)).2⟩
end Go.Proofs.YtpmmlocigaehnaaDoor
