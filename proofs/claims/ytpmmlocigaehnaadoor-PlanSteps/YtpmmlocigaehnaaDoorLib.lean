/-
  Own library of this seat: slices of integers told by what they read as, slices of the call's own, appending. Conditions: none beyond each theorem's own.
-/
import Derived.WalkKit
import Derived.Deep.Upon
import Derived.Laws.BytesArg
import Derived.Below
import Derived.Laws.Concat
namespace Go.Proofs.YtpmmlocigaehnaaDoor
open Go.RowKit
set_option linter.unusedVariables false

/-- The value v is a slice of integers of kind k that reads, in w, as zs; its cells (if any) lie below block B. -/
def Rd (k : IntKind) (B : Nat) (w : World) (v : Value) (zs : List Int) : Prop :=
  ∃ a c, v = .slice a zs.length c ∧ zs.length ≤ c ∧ c ≤ maxLen ∧
    ∀ i, i < zs.length → ∃ b o, a = some ⟨b, o, none⟩ ∧ b < B ∧ w.cell? ⟨b, o + i, none⟩ = some (.int k (zs.getD i 0))

/-- .. its cells lie in blocks of p. -/
def RdIn (k : IntKind) (p : Nat → Prop) (w : World) (v : Value) (zs : List Int) : Prop :=
  ∃ a c, v = .slice a zs.length c ∧ zs.length ≤ c ∧ c ≤ maxLen ∧
    ∀ i, i < zs.length → ∃ b o, a = some ⟨b, o, none⟩ ∧ p b ∧ w.cell? ⟨b, o + i, none⟩ = some (.int k (zs.getD i 0))
theorem RdIn.rd {k : IntKind} {p : Nat → Prop} {w : World} {v : Value} {zs : List Int} (h : RdIn k p w v zs) : Rd k w.heap.size w v zs := by
  obtain ⟨a, c, hv, h1, h2, h3⟩ := h
  exact ⟨a, c, hv, h1, h2, fun i hi => by obtain ⟨b, o, e, hb, hc⟩ := h3 i hi; exact ⟨b, o, e, World.block_lt_of_cell? _ _ hc, hc⟩⟩
theorem RdIn.mono {k : IntKind} {p q : Nat → Prop} {w : World} {v : Value} {zs : List Int} (h : RdIn k p w v zs) (hp : ∀ i, p i → q i) : RdIn k q w v zs := by
  obtain ⟨a, c, hv, h1, h2, h3⟩ := h
  exact ⟨a, c, hv, h1, h2, fun i hi => by obtain ⟨b, o, e, hb, hc⟩ := h3 i hi; exact ⟨b, o, e, hp b hb, hc⟩⟩
theorem RdIn.nil (k : IntKind) (p : Nat → Prop) (w : World) (a : Option Addr) (c : Nat) (hc : c ≤ maxLen) : RdIn k p w (.slice a 0 c) [] :=
  ⟨a, c, rfl, Nat.zero_le _, hc, fun i hi => absurd hi (Nat.not_lt_zero _)⟩
theorem RdIn.below {k : IntKind} {p : Nat → Prop} {B : Nat} {w w' : World} {v : Value} {zs : List Int} (h : RdIn k p w v zs) (hb : Below B w w') (hp : ∀ i, p i → i < B) : RdIn k p w' v zs := by
  obtain ⟨a, c, hv, h1, h2, h3⟩ := h
  exact ⟨a, c, hv, h1, h2, fun i hi => by
    obtain ⟨b, o, e, hlt, hc⟩ := h3 i hi
    exact ⟨b, o, e, hlt, by rw [hb.cell (p := ⟨b, o + i, none⟩) (hp b hlt)]; exact hc⟩⟩

theorem Rd.mono {k : IntKind} {B B' : Nat} {w : World} {v : Value} {zs : List Int} (h : Rd k B w v zs) (hB : B ≤ B') : Rd k B' w v zs := by
  obtain ⟨a, c, hv, h1, h2, h3⟩ := h
  exact ⟨a, c, hv, h1, h2, fun i hi => by obtain ⟨b, o, e, hb, hc⟩ := h3 i hi; exact ⟨b, o, e, by omega, hc⟩⟩

theorem Rd.below {k : IntKind} {B : Nat} {w w' : World} {v : Value} {zs : List Int} (h : Rd k B w v zs) (hb : Below B w w') : Rd k B w' v zs := by
  obtain ⟨a, c, hv, h1, h2, h3⟩ := h
  exact ⟨a, c, hv, h1, h2, fun i hi => by
    obtain ⟨b, o, e, hlt, hc⟩ := h3 i hi
    exact ⟨b, o, e, hlt, by rw [hb.cell (p := ⟨b, o + i, none⟩) hlt]; exact hc⟩⟩

theorem Rd.size {k : IntKind} {B : Nat} {w : World} {v : Value} {zs : List Int} (h : Rd k B w v zs) : Rd k w.heap.size w v zs := by
  obtain ⟨a, c, hv, h1, h2, h3⟩ := h
  exact ⟨a, c, hv, h1, h2, fun _ hi => by obtain ⟨b, o, e, _, hc⟩ := h3 _ hi; exact ⟨b, o, e, World.block_lt_of_cell? _ _ hc, hc⟩⟩

theorem Rd.len {k : IntKind} {B : Nat} {w : World} {v : Value} {zs : List Int} (h : Rd k B w v zs) : zs.length ≤ maxLen := by
  obtain ⟨a, c, hv, h1, h2, h3⟩ := h; omega

theorem Rd.nil (k : IntKind) (B : Nat) (w : World) (a : Option Addr) (c : Nat) (hc : c ≤ maxLen) : Rd k B w (.slice a 0 c) [] :=
  ⟨a, c, rfl, Nat.zero_le _, hc, fun i hi => absurd hi (Nat.not_lt_zero _)⟩

theorem Rd.caps {k : IntKind} {B : Nat} {w : World} {a : Option Addr} {n c : Nat} {zs : List Int} (h : Rd k B w (.slice a n c) zs) : n = zs.length ∧ n ≤ c ∧ c ≤ maxLen := by
  obtain ⟨a', c', hv, h1, h2, h3⟩ := h
  injection hv with ea en ec
  subst ec
  exact ⟨en, by omega, h2⟩

theorem Rd.drew {k : IntKind} {B : Nat} {w : World} {v : Value} {zs : List Int} (h : Rd k B w v zs) : Rd k B w.drew v zs := h.below (Below.refl _ _).drew

/-- the address, once for all elements -/
theorem Rd.addr {k : IntKind} {B : Nat} {w : World} {a : Option Addr} {n c : Nat} {zs : List Int} (h : Rd k B w (.slice a n c) zs) (hn : 0 < n) :
    n = zs.length ∧ n ≤ c ∧ c ≤ maxLen ∧ ∃ b o, a = some ⟨b, o, none⟩ ∧ b < B ∧ ∀ i, i < n → w.cell? ⟨b, o + i, none⟩ = some (.int k (zs.getD i 0)) := by
  obtain ⟨a', c', hv, h1, h2, h3⟩ := h
  injection hv with ea en ec
  subst ea; subst ec
  obtain ⟨b, o, e, hb, _⟩ := h3 0 (by omega)
  refine ⟨en, by omega, h2, b, o, e, hb, fun i hi => ?_⟩
  obtain ⟨b', o', e', _, hc'⟩ := h3 i (by omega)
  rw [e] at e'
  injection e' with e'
  injection e' with eb eo
  subst eb; subst eo
  exact hc'

theorem Rd.src {P : Program} {k : IntKind} {B : Nat} {w : World} {v : Value} {zs : List Int} (h : Rd k B w v zs) {tx e' : TypeId} (hk : P.underlying tx = some (.slice e')) :
    Src P 1 tx v zs.length (zs.map (Value.int k)) w := by
  obtain ⟨a, c, rfl, h1, h2, h3⟩ := h
  cases zs with
  | nil =>
    cases a with
    | none => exact Src.ofNil w hk c
    | some a => exact Src.ofSlice w hk a 0 c [] (by simp) (by simp) (by simp)
  | cons z zs =>
    obtain ⟨b, o, rfl, _, _⟩ := h3 0 (by simp)
    refine Src.ofSlice w hk _ _ c _ (by simp) (fun j u hu => ?_) (by simp [Value.oneCell'])
    have hj : j < (z :: zs).length := by
      have := (List.getElem?_eq_some_iff.1 hu).1
      simpa using this
    obtain ⟨b', o', e, _, hc⟩ := h3 j hj
    injection e with e
    injection e with eb eo
    subst eb; subst eo
    rw [Addr.add_lit, hc]
    rw [List.getElem?_map, List.getElem?_eq_getElem hj] at hu
    rw [← hu]
    simp only [List.getD, List.getElem?_eq_getElem hj, Option.getD_some, Option.map_some]

theorem Rd.take {k : IntKind} {B : Nat} {w : World} {a : Option Addr} {n c : Nat} {zs : List Int} (h : Rd k B w (.slice a n c) zs) (m : Nat) (hm : m ≤ zs.length) : Rd k B w (.slice a m c) (zs.take m) := by
  obtain ⟨a', c', hv, h1, h2, h3⟩ := h
  injection hv with ea en ec
  subst ea; subst ec
  have hl : (zs.take m).length = m := by rw [List.length_take]; omega
  refine ⟨a, c, by rw [hl], by omega, h2, fun i hi => ?_⟩
  obtain ⟨b, o, e, hb, hc⟩ := h3 i (by omega)
  refine ⟨b, o, e, hb, ?_⟩
  rw [hc]
  simp [List.getD, show i < m by omega]

/-- what 's[l:]' reads as -/
theorem Rd.drop {k : IntKind} {B : Nat} {w : World} {a : Option Addr} {n c : Nat} {zs : List Int} (h : Rd k B w (.slice a n c) zs) (l : Nat) (hl : l ≤ zs.length) :
    Rd k B w (.slice (if c = l then a else a.map (·.add l)) (n - l) (c - l)) (zs.drop l) := by
  obtain ⟨a', c', hv, h1, h2, h3⟩ := h
  injection hv with ea en ec
  subst ea; subst ec
  refine ⟨_, _, by rw [List.length_drop, en], by rw [List.length_drop]; omega, by omega, fun i hi => ?_⟩
  rw [List.length_drop] at hi
  obtain ⟨b, o, e, hb, hc⟩ := h3 (l + i) (by omega)
  refine ⟨b, o + l, ?_, hb, ?_⟩
  · rw [if_neg (by omega), e]
    simp [Addr.add_lit]
  · rw [Nat.add_assoc, hc]
    simp [List.getD, List.getElem?_drop]

theorem RdIn.take {k : IntKind} {p : Nat → Prop} {w : World} {a : Option Addr} {n c : Nat} {zs : List Int} (h : RdIn k p w (.slice a n c) zs) (m : Nat) (hm : m ≤ zs.length) : RdIn k p w (.slice a m c) (zs.take m) := by
  obtain ⟨a', c', hv, h1, h2, h3⟩ := h
  injection hv with ea en ec
  subst ea; subst ec
  have hl : (zs.take m).length = m := by rw [List.length_take]; omega
  refine ⟨a, c, by rw [hl], by omega, h2, fun i hi => ?_⟩
  obtain ⟨b, o, e, hb, hc⟩ := h3 i (by omega)
  refine ⟨b, o, e, hb, ?_⟩
  rw [hc]
  simp [List.getD, show i < m by omega]

/-- what 's[l:]' reads as -/
theorem RdIn.drop {k : IntKind} {p : Nat → Prop} {w : World} {a : Option Addr} {n c : Nat} {zs : List Int} (h : RdIn k p w (.slice a n c) zs) (l : Nat) (hl : l ≤ zs.length) :
    RdIn k p w (.slice (if c = l then a else a.map (·.add l)) (n - l) (c - l)) (zs.drop l) := by
  obtain ⟨a', c', hv, h1, h2, h3⟩ := h
  injection hv with ea en ec
  subst ea; subst ec
  refine ⟨_, _, by rw [List.length_drop, en], by rw [List.length_drop]; omega, by omega, fun i hi => ?_⟩
  rw [List.length_drop] at hi
  obtain ⟨b, o, e, hb, hc⟩ := h3 (l + i) (by omega)
  refine ⟨b, o + l, ?_, hb, ?_⟩
  · rw [if_neg (by omega), e]
    simp [Addr.add_lit]
  · rw [Nat.add_assoc, hc]
    simp [List.getD, List.getElem?_drop]

/-- A slice of the call's own: of no capacity, or a row of block B or above whose cells (up to the capacity) are there and may be written. -/
def Own (k : IntKind) (B : Nat) (w : World) (v : Value) (zs : List Int) : Prop :=
  (zs = [] ∧ ∃ a, v = .slice a 0 0) ∨
  ∃ g o c, v = .slice (some ⟨g, o, none⟩) zs.length c ∧ B ≤ g ∧ zs.length ≤ c ∧ c ≤ maxLen ∧
    (∀ j, j < zs.length → w.cell? ⟨g, o + j, none⟩ = some (.int k (zs.getD j 0))) ∧
    (∀ j, j < c → (w.cell? ⟨g, o + j, none⟩).isSome = true ∧ w.frozen? ⟨g, o + j, none⟩ = false)

theorem Own.rd {k : IntKind} {B : Nat} {w : World} {v : Value} {zs : List Int} (h : Own k B w v zs) : Rd k w.heap.size w v zs := by
  rcases h with ⟨rfl, a, rfl⟩ | ⟨g, o, c, rfl, hb, hnc, hcm, hc, ht⟩
  · exact Rd.nil _ _ _ _ _ (Nat.zero_le _)
  · exact ⟨_, c, rfl, hnc, hcm, fun i hi => ⟨g, o, rfl, World.block_lt_of_cell? _ _ (hc i hi), hc i hi⟩⟩

theorem Own.rdIn {k : IntKind} {B : Nat} {w : World} {v : Value} {zs : List Int} (h : Own k B w v zs) : RdIn k (fun i => B ≤ i ∧ i < w.heap.size) w v zs := by
  rcases h with ⟨rfl, a, rfl⟩ | ⟨g, o, c, rfl, hb, hnc, hcm, hc, ht⟩
  · exact RdIn.nil _ _ _ _ _ (Nat.zero_le _)
  · exact ⟨_, c, rfl, hnc, hcm, fun i hi => ⟨g, o, rfl, ⟨hb, World.block_lt_of_cell? _ _ (hc i hi)⟩, hc i hi⟩⟩

theorem Own.below {k : IntKind} {B B' : Nat} {w w' : World} {v : Value} {zs : List Int} (h : Own k B w v zs) (hb : Below B' w w') (hB : w.heap.size ≤ B') : Own k B w' v zs := by
  rcases h with h | ⟨g, o, c, rfl, hbg, hnc, hcm, hc, ht⟩
  · exact .inl h
  · have hlt : ∀ j, j < c → g < B' := fun j hj => by
      obtain ⟨u, hu⟩ := Option.isSome_iff_exists.1 (ht j hj).1
      have := World.block_lt_of_cell? _ _ hu
      simp only at this
      omega
    refine .inr ⟨g, o, c, rfl, hbg, hnc, hcm, fun j hj => ?_, fun j hj => ?_⟩
    · rw [hb.cell (p := ⟨g, o + j, none⟩) (hlt j (by omega))]; exact hc j hj
    · rw [hb.cell (p := ⟨g, o + j, none⟩) (hlt j hj), hb.frozen (p := ⟨g, o + j, none⟩) (hlt j hj)]; exact ht j hj

theorem Own.alloc {k : IntKind} {B : Nat} {w : World} {v : Value} {zs : List Int} (h : Own k B w v zs) (o : Obj) : Own k B (w.alloc o) v zs :=
  h.below ((Below.refl w.heap.size w).alloc (Nat.le_refl _) o) (Nat.le_refl _)

theorem Own.base {k : IntKind} {B B' : Nat} {w : World} {v : Value} {zs : List Int} (h : Own k B w v zs) (hB : B' ≤ B) : Own k B' w v zs := by
  rcases h with h | ⟨g, o, c, rfl, hbg, rest⟩
  · exact .inl h
  · exact .inr ⟨g, o, c, rfl, by omega, rest⟩

theorem Own.shape {k : IntKind} {B : Nat} {w : World} {v : Value} {zs : List Int} (h : Own k B w v zs) : ∃ a c, v = .slice a zs.length c := by
  obtain ⟨a, c, hv, _⟩ := h.rd
  exact ⟨a, c, hv⟩

theorem Own.nil (k : IntKind) (B : Nat) (w : World) (a : Option Addr) : Own k B w (.slice a 0 0) [] := .inl ⟨rfl, a, rfl⟩

theorem below_cells {B g : Nat} {w : World} (hg : B ≤ g) (o : Nat) (vs : List Value) : Below B w (w.setCells g o vs) :=
  ⟨World.os_setCells _ _ _ _, by
      clear hg
      induction vs generalizing o w with
      | nil => rfl
      | cons v vs ih => simp only [World.setCells]; rw [ih]; rfl, World.output_setCells _ _ _ _, by
      clear hg
      induction vs generalizing o w with
      | nil => exact Nat.le_refl _
      | cons v vs ih => simp only [World.setCells]; refine Nat.le_trans ?_ (ih _); simp [World.setCell], fun k hk => by
      by_cases h : k < w.heap.size
      · exact World.heap_setCells_other w g o vs h (by omega)
      · have e1 : ∀ (vs : List Value) (o : Nat) (w : World), (w.setCells g o vs).heap.size = w.heap.size := by
          intro vs
          induction vs with
          | nil => intro o w; rfl
          | cons v vs ih => intro o w; simp only [World.setCells]; rw [ih]; simp [World.setCell]
        rw [Array.getElem?_eq_none (by rw [e1]; omega), Array.getElem?_eq_none (by omega)]⟩

section
variable {P : Program}

/-- THE APPEND. -/
theorem run_app {k : IntKind} {e : TypeId} {B : Nat} {w : World} {v x : Value} {zs ys : List Int} (t tx ty : TypeId) (i : TypeInfo) (z : Value) (bytes : Nat)
    (ht : P.underlying t = some (.slice e)) (hi : P.info? e = some i) (hz : i.zero = some z) (hsize : i.size = 1) (hby : i.bytes = bytes) (hzs : z.cells.size = 1)
    (hown : Own k B w v zs) (hs : Src P 1 tx x ys.length (ys.map (Value.int k)) w) (h63 : zs.length + ys.length ≤ maxLen) (hbytes : (zs.length + ys.length) * bytes ≤ 140737488355328) (hB : B ≤ w.heap.size) :
    ∃ v' w', (Builtin.append_ #[t, tx] ty #[v, x]).run P w = .ok v' w' ∧ Own k B w' v' (zs ++ ys) ∧ Below B w w' := by
  have hsmall : zs.length + ys.length ≤ 9223372036854775807 := by simp only [maxLen] at h63; omega
  have hlen : (zs ++ ys).length = zs.length + ys.length := List.length_append
  subst hby
  have hsi : Src P i.size tx x ys.length (ys.map (Value.int k)) w := by rw [hsize]; exact hs
  have hget : ∀ j, j < zs.length + ys.length → (zs.map (Value.int k) ++ ys.map (Value.int k))[j]? = some (.int k ((zs ++ ys).getD j 0)) := fun j hj => by
    rw [← List.map_append, List.getElem?_map, List.getElem?_eq_getElem (by rw [hlen]; exact hj)]
    simp [List.getD, List.getElem?_eq_getElem (show j < (zs ++ ys).length by rw [hlen]; exact hj)]
  -- a new row
  have grow : ∀ (bs : Option Addr) (sc : Nat), v = .slice bs zs.length sc → sc < zs.length + ys.length →
      (Builtin.firstCells i.size zs.length (.slice bs zs.length sc)).run P w.drew = .ok (zs.map (Value.int k)).toArray w.drew →
      ∃ v' w', (Builtin.append_ #[t, tx] ty #[v, x]).run P w = .ok v' w' ∧ Own k B w' v' (zs ++ ys) ∧ Below B w w' := by
    rintro bs sc rfl hg hold
    have hrun := run_append_grow_src (P := P) w t tx ty e i z ht hi hz bs zs.length sc (zs.map (Value.int k)) hold x ys.length (ys.map (Value.int k)) hsi hg (by omega) (growslice_fits hg hbytes)
    have hge := grownCap_ge w (zs.length + ys.length) sc e
    have hcm := grownCap_le_maxLen w (zs.length + ys.length) sc e h63
    refine ⟨_, _, hrun, .inr ⟨w.heap.size, 0, _, by rw [hlen], hB, by rw [hlen]; exact hge, hcm, fun j hj => ?_, fun j hj => ⟨?_, ?_⟩⟩, (Below.refl B w).drew.alloc hB _⟩
    · rw [hlen] at hj
      rw [Nat.zero_add]
      refine (World.cell?_alloc_new w.drew _ _ j).trans ?_
      rw [Array.getElem?_append_left (by simp; omega), List.getElem?_toArray]
      exact hget j hj
    · rw [Nat.zero_add]
      have e1 := World.cell?_alloc_new w.drew ((zs.map (Value.int k) ++ ys.map (Value.int k)).toArray ++ Builtin.zeroCells z.cells (grownCap w (zs.length + ys.length) sc e - (zs.length + ys.length))) e j
      refine (congrArg Option.isSome e1).trans ?_
      rw [Array.getElem?_eq_getElem (by simp only [Array.size_append, List.size_toArray, size_zeroCells, hzs, List.length_append, List.length_map]; omega)]
      rfl
    · exact World.frozen?_alloc_new w.drew _ _ _
  rcases hown with ⟨rfl, a, rfl⟩ | ⟨g, o, c, rfl, hbg, hnc, hcm, hc, hth⟩
  · by_cases hy : ys = []
    · subst hy
      refine ⟨_, _, run_append_nothing (P := P) w t tx ty e i ht hi a 0 0 (Nat.le_refl _) x (by simpa using hsi), .inl ⟨rfl, a, rfl⟩, Below.refl _ _⟩
    · have hpos : 0 < ys.length := List.length_pos_iff.2 hy
      refine grow a 0 rfl (by simpa using hpos) ?_
      cases a with
      | none => exact run_firstCells_none w.drew i.size 0 0 0
      | some a' => exact run_firstCells_some w.drew i.size 0 a' 0 0 [] (by simp) (by intro _ _ h'; simp at h')
  · by_cases hroom : zs.length + ys.length ≤ c
    · have hsome : ∀ j, j < (ys.map (Value.int k)).length → (w.cell? ⟨g, o + zs.length * i.size + j, none⟩).isSome = true := fun j hj => by
        have hj' : j < ys.length := by simpa using hj
        rw [hsize, Nat.mul_one, Nat.add_assoc]
        exact (hth _ (by omega)).1
      have hrun := run_append_room_src (P := P) w t tx ty e i ht hi g o zs.length c x ys.length (ys.map (Value.int k)) hsi hroom hsome
        (fun j hj => by
          have hj' : j < ys.length := by simpa using hj
          rw [hsize, Nat.mul_one, Nat.add_assoc]
          exact (hth _ (by omega)).2)
      refine ⟨_, _, hrun, .inr ⟨g, o, c, by rw [hlen], hbg, by rw [hlen]; exact hroom, hcm, fun j hj => ?_, fun j hj => ⟨?_, ?_⟩⟩, below_cells hbg _ _⟩
      · rw [hlen] at hj
        rw [hsize, Nat.mul_one]
        by_cases hj' : j < zs.length
        · rw [World.cell?_setCells_out g _ _ _ _ (fun _ _ => Or.inl (by show o + j < o + zs.length; omega)), hc j hj']
          simp [List.getD, List.getElem?_append_left hj']
        · have h1 : j - zs.length < (ys.map (Value.int k)).length := by simp; omega
          have := World.cell?_setCells_in g (ys.map (Value.int k)) (o + zs.length) w (fun j hj => by have := hsome j hj; rwa [hsize, Nat.mul_one] at this) (j - zs.length) h1
          rw [show o + zs.length + (j - zs.length) = o + j by omega] at this
          rw [this]
          simp [List.getD, List.getElem?_append_right (Nat.le_of_not_lt hj'), List.getElem?_eq_getElem (show j - zs.length < ys.length by omega)]
      · rw [hsize, Nat.mul_one]
        by_cases hin : zs.length ≤ j ∧ j < zs.length + ys.length
        · have h1 : j - zs.length < (ys.map (Value.int k)).length := by simp; omega
          have := World.cell?_setCells_in g (ys.map (Value.int k)) (o + zs.length) w (fun j hj => by have := hsome j hj; rwa [hsize, Nat.mul_one] at this) (j - zs.length) h1
          rw [show o + zs.length + (j - zs.length) = o + j by omega] at this
          rw [this]; rfl
        · rw [World.cell?_setCells_out g _ _ _ _ (fun _ _ => by show o + j < o + zs.length ∨ o + zs.length + (ys.map (Value.int k)).length ≤ o + j; simp; omega)]
          exact (hth j hj).1
      · rw [World.frozen?_setCells]
        exact (hth j hj).2
    · refine grow (some ⟨g, o, none⟩) c rfl (by omega) ?_
      refine run_firstCells_some w.drew i.size zs.length ⟨g, o, none⟩ zs.length c _ (by simp [hsize]) (fun j u hu => ?_)
      have hj : j < zs.length := by
        have := (List.getElem?_eq_some_iff.1 hu).1
        simpa using this
      rw [Addr.add_lit]
      refine (hc j hj).trans ?_
      rw [← hu]
      simp [List.getD, List.getElem?_eq_getElem hj]

/-- THE APPEND, for the walk. -/
theorem wpList_app {w : World} {ops : Array Oper} {rest : List Oper} {o : Oper} {a : Act} {Q : Exit → Act → World → Prop} (hgd : o.guard = none) (s x : Operand) (t tx : TypeId)
    (ho : o.op = .call { callee := .builtin .append, args := #[s, x], argTypes := #[t, tx] })
    {k : IntKind} {e : TypeId} {B : Nat} {v xv : Value} {zs ys : List Int} (i : TypeInfo) (z : Value) (bytes : Nat)
    (ht : P.underlying t = some (.slice e)) (hi : P.info? e = some i) (hz : i.zero = some z) (hsize : i.size = 1) (hby : i.bytes = bytes) (hzs : z.cells.size = 1)
    (hv : a.eval s = v) (hx : a.eval x = xv)
    (hown : Own k B w v zs) (hs : Src P 1 tx xv ys.length (ys.map (Value.int k)) w) (h63 : zs.length + ys.length ≤ maxLen) (hbytes : (zs.length + ys.length) * bytes ≤ 140737488355328) (hB : B ≤ w.heap.size)
    (hK : ∀ v' w', Own k B w' v' (zs ++ ys) → Below B w w' → wpList P ops Q rest (a.put o.dst v') w') : wpList P ops Q (o :: rest) a w := by
  refine wpList_plain hgd fun K hK' => ?_
  obtain ⟨v', w', hrun, r', b'⟩ := run_app (P := P) t tx o.type i z bytes ht hi hz hsize hby hzs hown hs h63 hbytes hB
  unfold Oper.wp
  simp [execOp, ho, resolve, invoke, builtin, hv, hx, hrun, Result.andThen]
  exact hK' _ _ (hK v' w' r' b')

/-- a one-element slice laid for an append: where it lies -/
theorem Src.one {w : World} {tx e' : TypeId} (hk : P.underlying tx = some (.slice e')) (k : IntKind) (n : Int) (e : TypeId) :
    Src P 1 tx (.slice (some ⟨w.heap.size, 0, none⟩) 1 1) [n].length ([n].map (Value.int k)) (w.alloc (.cells #[.int k n] e)) := by
  refine Src.ofSlice _ hk _ _ _ _ (by simp) (fun j u hu => ?_) (by simp [Value.oneCell'])
  have hj : j = 0 := by
    have := (List.getElem?_eq_some_iff.1 hu).1
    simp at this; omega
  subst hj
  rw [Addr.add_lit]
  refine (World.cell?_alloc_new w _ _ _).trans ?_
  simpa using hu

theorem Rd.string {B : Nat} {w : World} {v : Value} {zs : List Int} (h : Rd .u8 B w v zs) (src dst e : TypeId) (hs : P.underlying src = some (.slice e)) (he : P.underlying e = some (.int .u8)) (hd : P.underlying dst = some .string) :
    (convert src dst v).run P w = .ok (.string (strOfNums zs)) w := by
  obtain ⟨a, c, rfl, h1, h2, h3⟩ := h
  cases zs with
  | nil =>
    rw [run_convert_bytes_string w src dst e a _ c hs he hd]
    cases a with
    | none => simp [Conv.bytesToString]; rfl
    | some a =>
      rw [run_bytesToString w a _ c [] (by simp [loadCells, loadCellsFrom])]
      rfl
  | cons z zs =>
    obtain ⟨b, o, rfl, _, _⟩ := h3 0 (by simp)
    refine run_convert_bytes_arg w src e hs he b o _ c (z :: zs) rfl (fun i hi => ?_) dst hd
    obtain ⟨b', o', e', _, hc⟩ := h3 i hi
    injection e' with e'
    injection e' with eb eo
    subst eb; subst eo
    exact hc
end

theorem strOfNums_append (a b : List Int) : strOfNums a ++ strOfNums b = strOfNums (a ++ b) := by
  unfold strOfNums
  rw [ByteArray.mk_append_mk, List.map_append]

theorem str_add {P : Program} (a b : List Int) (w : World) (h : a.length + b.length ≤ 1000000) : (Op.stringOp .add (strOfNums a) (strOfNums b)).run P w = .ok (.string (strOfNums (a ++ b))) w := by
  have := run_string_add_sum (P := P) (w := w) (strOfNums a) (strOfNums b) (by rw [strOfNums_size, strOfNums_size]; omega)
  rw [strOfNums_append] at this
  exact this

/-- the bytes of a number, the lowest one first -/
def le : Nat → Int → List Int
  | 0, _ => []
  | k + 1, n => n % 256 :: le k (n / 256)

theorem le_length (k : Nat) (n : Int) : (le k n).length = k := by
  induction k generalizing n with
  | zero => rfl
  | succ k ih => simp [le, ih]

theorem le_snoc (k : Nat) (n : Int) : le (k + 1) n = le k n ++ [n / 256 ^ k % 256] := by
  induction k generalizing n with
  | zero => simp [le]
  | succ k ih =>
    rw [le, ih, le]
    simp only [List.cons_append]
    rw [Int.ediv_ediv_of_nonneg (by decide), ← Int.pow_succ']

theorem ediv_pow (n : Int) (j : Nat) : n / 256 ^ j / 256 = n / 256 ^ (j + 1) := by
  rw [Int.ediv_ediv_of_nonneg (Int.pow_nonneg (by decide)), ← Int.pow_succ]

/-- the bytes of an int: those of its distance round 2^64 -/
def leI (n : Int) : List Int := le 8 (n % 18446744073709551616)
def leAll (l : List Int) : List Int := (l.map leI).flatten
theorem leI_small (n : Int) (h0 : 0 ≤ n) (h1 : n < 18446744073709551616) : leI n = le 8 n := by
  unfold leI
  rw [Int.emod_eq_of_lt h0 h1]
theorem leI_length (n : Int) : (leI n).length = 8 := le_length _ _
theorem leAll_length (l : List Int) : (leAll l).length = 8 * l.length := by
  induction l with
  | nil => rfl
  | cons a l ih => simp only [leAll, List.map_cons, List.flatten_cons, List.length_append, leI_length, List.length_cons] at *; omega
theorem leAll_append (a b : List Int) : leAll (a ++ b) = leAll a ++ leAll b := by simp [leAll]
theorem leAll_take_succ (l : List Int) (j : Nat) (h : j < l.length) : leAll (l.take (j + 1)) = leAll (l.take j) ++ leI (l.getD j 0) := by
  rw [List.take_succ_eq_append_getElem h, leAll_append]
  simp [leAll, List.getD, List.getElem?_eq_getElem h]
end Go.Proofs.YtpmmlocigaehnaaDoor
