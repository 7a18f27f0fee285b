/-
  An arena as it lies in memory: its row of partitions, each apart from the others; what is counted of each, together. Conditions: each theorem's own.
-/
import Derived.Test.YtgpigllimoafaaaPrtV
namespace Go.Proofs.Ytgpigllimoafaaa
open Go.RowKit
set_option linter.unusedVariables false
set_option linter.unusedSimpArgs false

/-- a partition: where it lies, its frames, its hand -/
structure PS where
  P : Nat
  b : Nat
  L : List FS
  h : Nat
def PS.zero : PS := ⟨0, 0, [], 0⟩
def PS.v (s : PS) : Value := .pointer (some ⟨s.P, 0, none⟩)
theorem PS.v_one (s : PS) : s.v.oneCell' = true := rfl
/-- the blocks that it lies in -/
def PS.has (s : PS) (i : Nat) : Prop := i = s.P ∨ i = s.b
def PS.len (s : PS) : Int := (s.L.length : Int)
def PS.There (w : World) (s : PS) : Prop := PtO w s.P s.b 0 s.L s.h ∧ PtOk s.L s.h
theorem PS.There.upd {S : Nat → Prop} {w w' : World} {s : PS} (k : s.There w) (hu : UpdS S w w') (hS : ∀ i, s.has i → ¬ S i) : s.There w' :=
  ⟨k.1.upd hu (hS _ (.inl rfl)) (hS _ (.inr rfl)), k.2⟩
theorem PS.There.grow {w w' : World} {s : PS} (k : s.There w) (hu : Grow w w') : s.There w' := k.upd (S := fun _ => False) hu.s (fun _ _ f => f)
theorem PS.There.lt {w : World} {s : PS} (k : s.There w) {i : Nat} (hi : s.has i) : i < w.heap.size := by
  rcases hi with rfl | rfl
  · exact k.1.lt
  · exact k.1.2.2.1
theorem PS.There.pos {w : World} {s : PS} (k : s.There w) : 1 ≤ s.L.length ∧ s.L.length ≤ 64 := ⟨by have := k.2.2.1; omega, k.2.2.2⟩

/-- partitions, from the block B on, each apart from the others -/
def RowP (B : Nat) (w : World) (M : List PS) : Prop :=
  (∀ i, i < M.length → (M.getD i PS.zero).There w) ∧ (∀ i, i < M.length → ∀ x, (M.getD i PS.zero).has x → B ≤ x) ∧
    ∀ i j, i < M.length → j < M.length → i ≠ j → ∀ x, (M.getD i PS.zero).has x → ¬ (M.getD j PS.zero).has x
/-- a block that no partition lies in -/
def NoP (M : List PS) (x : Nat) : Prop := ∀ i, i < M.length → ¬ (M.getD i PS.zero).has x
theorem RowP.nil (B : Nat) (w : World) : RowP B w [] := ⟨fun i hi => absurd hi (Nat.not_lt_zero _), fun i hi => absurd hi (Nat.not_lt_zero _), fun i _ hi => absurd hi (Nat.not_lt_zero _)⟩
theorem RowP.upd {S : Nat → Prop} {B : Nat} {w w' : World} {M : List PS} (k : RowP B w M) (hu : UpdS S w w') (hS : ∀ x, S x → NoP M x ∨ w.heap.size ≤ x) : RowP B w' M :=
  ⟨fun i hi => (k.1 i hi).upd hu (fun x hx hs => by
    rcases hS x hs with h | h
    · exact h i hi hx
    · have := (k.1 i hi).lt hx; omega), k.2⟩
theorem RowP.grow {B : Nat} {w w' : World} {M : List PS} (k : RowP B w M) (hu : Grow w w') : RowP B w' M := k.upd (S := fun _ => False) hu.s (fun _ f => f.elim)
theorem getD_app {α : Type} {d : α} (l : List α) (x : α) (i : Nat) : (l ++ [x]).getD i d = if i < l.length then l.getD i d else if i = l.length then x else d := by
  simp only [List.getD, List.getElem?_append]
  by_cases h : i < l.length
  · rw [if_pos h, if_pos h]
  · rw [if_neg h, if_neg h]
    by_cases e : i = l.length
    · subst e; simp
    · rw [if_neg e]
      have : 1 ≤ i - l.length := by omega
      rw [List.getElem?_eq_none (by simpa using this)]; rfl
/-- one more behind the others -/
theorem RowP.add {B : Nat} {w : World} {M : List PS} {s : PS} (k : RowP B w M) (hs : s.There w) (hB : ∀ x, s.has x → B ≤ x ∧ NoP M x) : RowP B w (M ++ [s]) := by
  refine ⟨fun i hi => ?_, fun i hi x hx => ?_, fun i j hi hj hij x hx hx2 => ?_⟩
  · rw [List.length_append, List.length_singleton] at hi
    rw [getD_app]
    by_cases h : i < M.length
    · rw [if_pos h]; exact k.1 i h
    · rw [if_neg h, if_pos (by omega)]; exact hs
  · rw [List.length_append, List.length_singleton] at hi
    rw [getD_app] at hx
    by_cases h : i < M.length
    · rw [if_pos h] at hx; exact k.2.1 i h x hx
    · rw [if_neg h, if_pos (by omega)] at hx; exact (hB x hx).1
  · rw [List.length_append, List.length_singleton] at hi hj
    rw [getD_app] at hx hx2
    by_cases h : i < M.length
    · rw [if_pos h] at hx
      by_cases h2 : j < M.length
      · rw [if_pos h2] at hx2; exact k.2.2 i j h h2 hij x hx hx2
      · rw [if_neg h2, if_pos (by omega)] at hx2; exact (hB x hx2).2 i h hx
    · rw [if_neg h, if_pos (by omega)] at hx
      have h2 : j < M.length := by omega
      rw [if_pos h2] at hx2; exact (hB x hx).2 j h2 hx2
/-- one of them turned -/
theorem RowP.turn {B : Nat} {w w' : World} {M : List PS} (k : RowP B w M) {i : Nat} (hi : i < M.length) {s : PS} (hs : s.There w') (hP : s.P = (M.getD i PS.zero).P ∧ s.b = (M.getD i PS.zero).b) (hu : UpdS (M.getD i PS.zero).has w w') : RowP B w' (M.set i s) := by
  have hh : ∀ x, s.has x ↔ (M.getD i PS.zero).has x := fun x => by unfold PS.has; rw [hP.1, hP.2]
  refine ⟨fun j hj => ?_, fun j hj x hx => ?_, fun a c ha hc hac x hx hx2 => ?_⟩
  · rw [List.length_set] at hj
    rw [getD_set hj]
    by_cases e : i = j
    · rw [if_pos e]; exact hs
    · rw [if_neg e]; exact (k.1 j hj).upd hu (fun x hx hx2 => k.2.2 j i hj hi (fun h => e h.symm) x hx hx2)
  · rw [List.length_set] at hj
    rw [getD_set hj] at hx
    by_cases e : i = j
    · rw [if_pos e] at hx; exact k.2.1 i hi x ((hh x).1 hx)
    · rw [if_neg e] at hx; exact k.2.1 j hj x hx
  · rw [List.length_set] at ha hc
    rw [getD_set ha] at hx
    rw [getD_set hc] at hx2
    have hx' : (M.getD a PS.zero).has x := by
      by_cases e : i = a
      · rw [if_pos e] at hx; subst e; exact (hh x).1 hx
      · rw [if_neg e] at hx; exact hx
    have hx2' : (M.getD c PS.zero).has x := by
      by_cases e : i = c
      · rw [if_pos e] at hx2; subst e; exact (hh x).1 hx2
      · rw [if_neg e] at hx2; exact hx2
    exact k.2.2 a c ha hc hac x hx' hx2'

/-- an arena at A, from the block B on: its row of partitions -/
def ArAt (B : Nat) (w : World) (A : Nat) (M : List PS) : Prop :=
  ∃ v, VarAt w A [v] ∧ RdV PS.v PS.zero (fun i => B ≤ i ∧ NoP M i) w v M ∧ B ≤ A ∧ NoP M A ∧ RowP B w M ∧ 0 < M.length ∧ M.length ≤ 16
theorem ArAt.lt {B A : Nat} {w : World} {M : List PS} (k : ArAt B w A M) : A < w.heap.size := by
  obtain ⟨v, h, -⟩ := k; exact h.lt
theorem ArAt.size {B A : Nat} {w : World} {M : List PS} (k : ArAt B w A M) : 0 < M.length ∧ M.length ≤ 16 := by
  obtain ⟨v, -, -, -, -, -, h⟩ := k; exact h
theorem ArAt.row {B A : Nat} {w : World} {M : List PS} (k : ArAt B w A M) : RowP B w M := by
  obtain ⟨v, -, -, -, -, h, -⟩ := k; exact h
/-- what turns lies below B, or is new -/
theorem ArAt.upd {S : Nat → Prop} {B A : Nat} {w w' : World} {M : List PS} (k : ArAt B w A M) (hu : UpdS S w w') (hS : ∀ x, S x → x < B ∨ w.heap.size ≤ x) : ArAt B w' A M := by
  obtain ⟨v, h1, h2, h3, h4, h5, h6⟩ := k
  refine ⟨v, h1.upd hu (fun hs => ?_), h2.upd hu (fun i hi hp hs => ?_), h3, h4, h5.upd hu (fun x hs => ?_), h6⟩
  · have := h1.lt
    rcases hS _ hs with h | h <;> omega
  · rcases hS _ hs with h | h
    · have := hp.1; omega
    · omega
  · rcases hS _ hs with h | h
    · exact .inl (fun i hi hx => by have := h5.2.1 i hi x hx; omega)
    · exact .inr h
theorem ArAt.grow {B A : Nat} {w w' : World} {M : List PS} (k : ArAt B w A M) (hu : Grow w w') : ArAt B w' A M := k.upd (S := fun _ => False) hu.s (fun _ f => f.elim)
theorem noP_set {M : List PS} {i x : Nat} {s : PS} (hi : i < M.length) (hP : s.P = (M.getD i PS.zero).P ∧ s.b = (M.getD i PS.zero).b) (h : NoP M x) : NoP (M.set i s) x := fun j hj hx => by
  rw [List.length_set] at hj
  rw [getD_set hj] at hx
  by_cases e : i = j
  · rw [if_pos e] at hx
    unfold PS.has at hx
    rw [hP.1, hP.2] at hx
    exact h i hi hx
  · rw [if_neg e] at hx; exact h j hj hx
/-- one of its partitions turned -/
theorem ArAt.turn {B A : Nat} {w w' : World} {M : List PS} (k : ArAt B w A M) {i : Nat} (hi : i < M.length) {s : PS} (hs : s.There w') (hP : s.P = (M.getD i PS.zero).P ∧ s.b = (M.getD i PS.zero).b) (hu : UpdS (M.getD i PS.zero).has w w') : ArAt B w' A (M.set i s) := by
  obtain ⟨v, h1, h2, h3, h4, h5, h6⟩ := k
  have h2' := h2.upd hu (fun x hx hp hs => hp.2 i hi hs)
  refine ⟨v, h1.upd hu (fun hs => h4 i hi hs), ?_, h3, noP_set hi hP h4, h5.turn hi hs hP hu, by rw [List.length_set]; exact h6⟩
  obtain ⟨a, c, hv, g1, g2, g3⟩ := h2'
  refine ⟨a, c, by rw [List.length_set]; exact hv, by rw [List.length_set]; exact g1, g2, fun j hj => ?_⟩
  rw [List.length_set] at hj
  obtain ⟨bb, o, e, hb, hc⟩ := g3 j hj
  refine ⟨bb, o, e, ⟨hb.1, noP_set hi hP hb.2⟩, ?_⟩
  rw [hc, getD_set hj]
  by_cases e : i = j
  · rw [if_pos e]; subst e; unfold PS.v; rw [hP.1]
  · rw [if_neg e]
/-- its row's cells -/
theorem ArAt.cells {B A : Nat} {w : World} {M : List PS} (k : ArAt B w A M) : ∃ C o c, M.length ≤ c ∧ c ≤ maxLen ∧ ∀ w', Grow w w' → (w'.cell? ⟨A, 0, none⟩ = some (.slice (some ⟨C, o, none⟩) M.length c) ∧ ∀ j, j < M.length → w'.cell? ⟨C, o + j, none⟩ = some (.pointer (some ⟨(M.getD j PS.zero).P, 0, none⟩))) := by
  obtain ⟨v, h1, h2, -, -, -, h6, -⟩ := k
  obtain ⟨a, c, rfl⟩ := h2.shape
  obtain ⟨-, hc1, hc2⟩ := h2.caps
  obtain ⟨C, o, rfl, -, -⟩ := h2.addr h6
  refine ⟨C, o, c, hc1, hc2, fun w' g => ⟨((h1.grow g).2 0 (by simp)).1, fun j hj => ?_⟩⟩
  obtain ⟨C', o', e, -, hcell⟩ := (h2.grow g).addr h6
  injection e with e
  injection e with e1 e2
  subst e1 e2
  exact hcell j hj

/-- what is counted of each of the first n, together -/
def cntM (c : PS → Int) (M : List PS) (n : Nat) : Int := ((M.take n).map c).sum
theorem cntM_zero (c : PS → Int) (M : List PS) : cntM c M 0 = 0 := rfl
theorem sum_one (l : List Int) (x : Int) : (l ++ [x]).sum = l.sum + x := by
  induction l with
  | nil => simp
  | cons a l ih => rw [List.cons_append, List.sum_cons, List.sum_cons, ih]; omega
theorem cntM_succ {c : PS → Int} {M : List PS} {n : Nat} (hn : n < M.length) : cntM c M (n + 1) = cntM c M n + c (M.getD n PS.zero) := by
  unfold cntM
  rw [take_snoc M PS.zero n hn, List.map_append, List.map_singleton, sum_one]
theorem cntM_bd {c : PS → Int} {M : List PS} (hc : ∀ i, i < M.length → 0 ≤ c (M.getD i PS.zero) ∧ c (M.getD i PS.zero) ≤ 64) {n : Nat} (hn : n ≤ M.length) : 0 ≤ cntM c M n ∧ cntM c M n ≤ 64 * n := by
  induction n with
  | zero => exact ⟨Int.le_refl _, by rw [cntM_zero]; omega⟩
  | succ n ih =>
    have h1 := ih (by omega)
    have h2 := hc n (by omega)
    rw [cntM_succ (by omega)]
    omega
/-- the frames ahead of a partition: the quotas alone -/
def sm (q : List Int) (n : Nat) : Int := (q.take n).sum
theorem sm_zero (q : List Int) : sm q 0 = 0 := rfl
theorem sm_succ {q : List Int} {n : Nat} (hn : n < q.length) : sm q (n + 1) = sm q n + q.getD n 0 := by
  unfold sm
  rw [take_snoc q 0 n hn, sum_one]
theorem cntM_sm (M : List PS) (n : Nat) : cntM PS.len M n = sm (M.map PS.len) n := by
  unfold cntM sm
  rw [List.map_take]
theorem sm_mono {q : List Int} (hq : ∀ i, i < q.length → 0 ≤ q.getD i 0) {m n : Nat} (hmn : m ≤ n) (hn : n ≤ q.length) : sm q m ≤ sm q n := by
  induction n with
  | zero => have : m = 0 := by omega
            subst this; exact Int.le_refl _
  | succ n ih =>
    by_cases e : m = n + 1
    · subst e; exact Int.le_refl _
    · have h1 := ih (by omega) (by omega)
      have h2 := hq n (by omega)
      rw [sm_succ (by omega)]
      omega
theorem getD_map0 {M : List PS} {i : Nat} (hi : i < M.length) : (M.map PS.len).getD i 0 = (M.getD i PS.zero).len := by
  simp [List.getD, hi]
theorem map_len_set {M : List PS} {i : Nat} (hi : i < M.length) {s : PS} (hs : s.L.length = (M.getD i PS.zero).L.length) : (M.set i s).map PS.len = M.map PS.len := by
  refine ext_at (d := 0) (by simp) (fun j hj => ?_)
  simp only [List.length_map, List.length_set] at hj
  rw [getD_map0 (by rw [List.length_set]; exact hj), getD_map0 hj, getD_set hj]
  by_cases e : i = j
  · rw [if_pos e]; subst e; unfold PS.len; rw [hs]
  · rw [if_neg e]

/-- used frames among the first j -/
def useN (L : List FS) (j : Nat) : Nat := (L.take j).countP FS.u
theorem useN_zero (L : List FS) : useN L 0 = 0 := rfl
theorem useN_succ {L : List FS} {j : Nat} (hj : j < L.length) : useN L (j + 1) = useN L j + (if (L.getD j FS.empty).u = true then 1 else 0) := by
  unfold useN
  rw [take_snoc L FS.empty j hj, List.countP_append]
  simp only [List.countP_cons, List.countP_nil, Nat.zero_add]
theorem useN_le (L : List FS) (j : Nat) : useN L j ≤ j := by
  unfold useN
  exact Nat.le_trans List.countP_le_length (by simp; omega)
def PS.used (s : PS) : Int := (useN s.L s.L.length : Int)
def PS.full (s : PS) : Int := if emptyL s.L = true then 0 else 1
theorem PS.used_bd {w : World} {s : PS} (k : s.There w) : 0 ≤ s.used ∧ s.used ≤ 64 := by
  have h1 := useN_le s.L s.L.length
  have h2 := k.pos
  unfold PS.used; omega
theorem PS.full_bd (s : PS) : 0 ≤ s.full ∧ s.full ≤ 64 := by
  unfold PS.full; split <;> omega
theorem PS.len_bd {w : World} {s : PS} (k : s.There w) : 0 ≤ s.len ∧ s.len ≤ 64 := by
  have h2 := k.pos
  unfold PS.len; omega
end Go.Proofs.Ytgpigllimoafaaa
