/-
  Openers: what a slice of slices of integers, and a slice of arrays of two integers, read as. Conditions: each theorem's own.
-/
import Derived.Test.YtpmmlocigaehnaaDoorLib
import Derived.ProofKit
import Derived.OpenShut
import Derived.Deep.Slices
namespace Go.Proofs.YtpmmlocigaehnaaDoor
open Go.RowKit Go.ChangeShapes Go.WideShapes
set_option linter.unusedVariables false

/-- A slice of slices of integers. -/
def Rds (k : IntKind) (w : World) (a : Option Addr) (len cap : Nat) (ss : List (List Int)) : Prop :=
  ss.length = len ∧ len ≤ cap ∧ cap ≤ maxLen ∧ ∀ i, i < len → ∃ b o u, a = some ⟨b, o, none⟩ ∧ b < w.heap.size ∧ w.cell? ⟨b, o + i, none⟩ = some u ∧ Rd k w.heap.size w u (ss.getD i []) ∧ ∀ n ∈ ss.getD i [], (Lit.int k n).wf = true

/-- A slice of arrays of two integers. -/
def Prs (k : IntKind) (w : World) (a : Option Addr) (len cap : Nat) (ps : List (Int × Int)) : Prop :=
  ps.length = len ∧ len ≤ cap ∧ cap ≤ maxLen ∧ ∀ i, i < len → ∃ b o, a = some ⟨b, o, none⟩ ∧ b < w.heap.size ∧ w.cell? ⟨b, o + i * 2, none⟩ = some (.int k (ps.getD i (0, 0)).1) ∧ w.cell? ⟨b, o + (i * 2 + 1), none⟩ = some (.int k (ps.getD i (0, 0)).2) ∧
    (Lit.int k (ps.getD i (0, 0)).1).wf = true ∧ (Lit.int k (ps.getD i (0, 0)).2).wf = true

section
variable {H : Type} {enc : TypeId × Value → H} {P : Program} {w : World} {base : Nat} {spare : Nat → Bool} {held : Bool}

theorem open_row {t e : TypeId} {k : IntKind} {fuel : Nat} {v : Value} {x : DataW H × List MemPlace} (ht : P.underlying t = some (.slice e)) (he : P.underlying e = some (.int k)) (hc : P.cellsOf e = 1)
    (h : DataW.trod enc P w base spare held fuel t [v] = some x) : ∃ zs, Rd k w.heap.size w v zs ∧ ∀ n ∈ zs, (Lit.int k n).wf = true := by
  rcases open_ints ht he hc h with ⟨hcs, _⟩ | ⟨a, l, c, zs, hcs, _, hl, hm, hz, _, hcell, hwz⟩
  · simp at hcs
    subst hcs
    exact ⟨[], Rd.nil _ _ _ _ _ (Nat.zero_le _), fun n hn => by cases hn⟩
  · simp at hcs
    subst hcs
    have hlz : l ≤ zs.length := by rw [hz]; split <;> omega
    have hlen : (zs.take l).length = l := by rw [List.length_take]; omega
    refine ⟨zs.take l, ⟨_, c, by rw [hlen], by omega, hm, fun i hi => ?_⟩, fun n hn => hwz n (List.mem_of_mem_take hn)⟩
    obtain ⟨b, off, spot⟩ := a
    have hspot : spot = none := by simpa [Addr.add] using World.cell?_spot (hcell 0 (by omega))
    subst hspot
    have hc := hcell i (by omega)
    rw [Addr.add_lit] at hc
    refine ⟨b, off, rfl, World.block_lt_of_cell? _ _ hc, ?_⟩
    rw [hc]
    simp [List.getD, show i < l by omega]

theorem open_rows {t e q : TypeId} {k : IntKind} {fuel : Nat} {a : Option Addr} {len cap : Nat} {x : DataW H × List MemPlace} (ht : P.underlying t = some (.slice e)) (he : P.underlying e = some (.slice q)) (hq : P.underlying q = some (.int k)) (ce : P.cellsOf e = 1) (cq : P.cellsOf q = 1)
    (h : DataW.trod enc P w base spare held fuel t [.slice a len cap] = some x) : ∃ ss, Rds k w a len cap ss := by
  rcases Deep.open_slice1 ht ce h with ⟨hcs, _⟩ | ⟨a', len', cap', m, n, V, D, Pl, hcs, _, hl, hm, hmm, _, hx⟩
  · simp at hcs
    obtain ⟨rfl, rfl, rfl⟩ := hcs
    exact ⟨[], rfl, Nat.le_refl _, Nat.zero_le _, fun i hi => absurd hi (Nat.not_lt_zero _)⟩
  · simp at hcs
    obtain ⟨rfl, rfl, rfl⟩ := hcs
    have hlm : len ≤ m := by rw [hmm]; split <;> omega
    obtain ⟨f, hf⟩ := Deep.choose_lt (α := List Int) (n := len) (p := fun i zs => Rd k w.heap.size w (V i) zs ∧ ∀ n ∈ zs, (Lit.int k n).wf = true) (fun i hi => open_row he hq cq (hx i (by omega)).2)
    refine ⟨(List.range len).map f, by simp, hl, hm, fun i hi => ?_⟩
    obtain ⟨b, off, spot⟩ := a'
    have hspot : spot = none := by simpa [Addr.add] using World.cell?_spot (hx 0 (by omega)).1
    subst hspot
    have hc := (hx i (by omega)).1
    rw [Addr.add_lit] at hc
    have e1 : ((List.range len).map f).getD i [] = f i := by simp [List.getD, hi]
    rw [e1]
    exact ⟨b, off, V i, rfl, World.block_lt_of_cell? _ _ hc, hc, (hf i hi).1, (hf i hi).2⟩

theorem open_pairs {t e q : TypeId} {k : IntKind} {fuel : Nat} {a : Option Addr} {len cap : Nat} {x : DataW H × List MemPlace} (ht : P.underlying t = some (.slice e)) (he : P.underlying e = some (.array 2 q)) (hq : P.underlying q = some (.int k)) (ce : P.cellsOf e = 2) (cq : P.cellsOf q = 1)
    (h : DataW.trod enc P w base spare held fuel t [.slice a len cap] = some x) : ∃ ps, Prs k w a len cap ps := by
  rcases Deep.open_slice ht h with ⟨hcs, _⟩ | ⟨a', len', cap', m, n, D, Pl, hcs, _, hl, hm, hmm, _, hx⟩
  · simp at hcs
    obtain ⟨rfl, rfl, rfl⟩ := hcs
    exact ⟨[], rfl, Nat.le_refl _, Nat.zero_le _, fun i hi => absurd hi (Nat.not_lt_zero _)⟩
  · simp at hcs
    obtain ⟨rfl, rfl, rfl⟩ := hcs
    have hlm : len ≤ m := by rw [hmm]; split <;> omega
    rw [ce] at hx
    have one : ∀ i, i < len → ∃ zz : Int × Int, w.cell? (a'.add (i * 2)) = some (.int k zz.1) ∧ w.cell? ((a'.add (i * 2)).add 1) = some (.int k zz.2) ∧ (Lit.int k zz.1).wf = true ∧ (Lit.int k zz.2).wf = true := fun i hi => by
      obtain ⟨cs', h1, h2⟩ := hx i (by omega)
      obtain ⟨hb, hlen, hcell⟩ := World.cells?_some h1
      obtain ⟨xs, m', _, _, _, hxl, hxs⟩ := DataW.trod_array he h2
      match cs', hlen with
      | [c0, c1], _ =>
        have t0 := hxs 0 (by omega)
        have t1 := hxs 1 (by omega)
        rw [cq] at t0 t1
        rw [List.getElem?_eq_getElem (by omega)] at t0 t1
        simp at t0 t1
        obtain ⟨z0, e0, _, w0⟩ := DataW.trod_int hq t0
        obtain ⟨z1, e1, _, w1⟩ := DataW.trod_int hq t1
        simp at e0 e1
        subst e0; subst e1
        have g0 := hcell 0 (by omega)
        have g1 := hcell 1 (by omega)
        refine ⟨(z0, z1), ?_, ?_, w0, w1⟩
        · simpa [Addr.add] using g0
        · simpa using g1
    obtain ⟨f, hf⟩ := Deep.choose_lt (α := Int × Int) one
    refine ⟨(List.range len).map f, by simp, hl, hm, fun i hi => ?_⟩
    obtain ⟨b, off, spot⟩ := a'
    have hspot : spot = none := by simpa [Addr.add] using World.cell?_spot (hf 0 (by omega)).1
    subst hspot
    obtain ⟨c1, c2, w1, w2⟩ := hf i hi
    rw [Addr.add_lit] at c1 c2
    rw [Addr.add_lit] at c2
    have e1 : ((List.range len).map f).getD i (0, 0) = f i := by simp [List.getD, hi]
    rw [e1]
    exact ⟨b, off, rfl, World.block_lt_of_cell? _ _ c1, c1, by rw [← Nat.add_assoc]; exact c2, w1, w2⟩
end
end Go.Proofs.YtpmmlocigaehnaaDoor
