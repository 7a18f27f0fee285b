/-
  Openers: what a struct of integers, a slice of structs, read as. Conditions: each theorem's own.
-/
import Derived.Test.YtdafamocnjfmjaaDoorLibS
import Derived.ProofKit
import Derived.OpenShut
import Derived.Deep.Slices
namespace Go.Proofs.YtdafamocnjfmjaaDoor
open Go.RowKit Go.ChangeShapes Go.WideShapes
set_option linter.unusedVariables false

section
variable {H : Type} {enc : TypeId × Value → H} {P : Program} {w : World} {base : Nat} {spare : Nat → Bool} {held : Bool}

/-- one field of a struct -/
theorem open_field {t : TypeId} {fs : Array Field} {fuel : Nat} {cs : List Value} {x : DataW H × List MemPlace} (ht : P.underlying t = some (.struct fs)) (h : DataW.trod enc P w base spare held fuel t cs = some x)
    (i off : Nat) (e : TypeId) (hf : (fs[i]?).map (fun f => (f.offset, f.type)) = some (off, e)) : ∃ fuel' x', DataW.trod enc P w base spare held fuel' e ((cs.drop off).take (P.cellsOf e)) = some x' := by
  obtain ⟨xs, n, _, _, hl, hxl, hx⟩ := DataW.trod_struct ht h
  cases hi : fs[i]? with
  | none => rw [hi] at hf; cases hf
  | some f =>
    rw [hi] at hf
    simp only [Option.map_some, Option.some.injEq, Prod.mk.injEq] at hf
    obtain ⟨h1, h2⟩ := hf
    have ht' := hx i f hi
    rw [h1, h2] at ht'
    have hlt : i < xs.length := by
      have := (Array.getElem?_eq_some_iff.1 hi).1
      omega
    rw [List.getElem?_eq_getElem hlt] at ht'
    exact ⟨_, _, ht'⟩
/-- .. an integer -/
theorem open_field_int {t e : TypeId} {k : IntKind} {fs : Array Field} {fuel : Nat} {cs : List Value} {x : DataW H × List MemPlace} (ht : P.underlying t = some (.struct fs)) (h : DataW.trod enc P w base spare held fuel t cs = some x)
    (i off : Nat) (hf : (fs[i]?).map (fun f => (f.offset, f.type)) = some (off, e)) (he : P.underlying e = some (.int k)) (ce : P.cellsOf e = 1) : ∃ z : Int, cs[off]? = some (.int k z) ∧ (Lit.int k z).wf = true := by
  obtain ⟨fuel', x', h'⟩ := open_field ht h i off e hf
  rw [ce] at h'
  obtain ⟨z, e0, _, wz⟩ := DataW.trod_int he h'
  refine ⟨z, ?_, wz⟩
  cases hc : cs[off]? with
  | none =>
    have : cs.length ≤ off := List.getElem?_eq_none_iff.1 hc
    rw [List.drop_eq_nil_of_le this] at e0
    simp at e0
  | some u =>
    obtain ⟨hlt, hu⟩ := List.getElem?_eq_some_iff.1 hc
    have ec : (cs.drop off).take 1 = [cs[off]] := by rw [List.drop_eq_getElem_cons hlt]; rfl
    rw [ec] at e0
    injection e0 with e0
    rw [← hu, e0]
/-- .. one cell of whatever kind -/
theorem open_field_one {t e : TypeId} {fs : Array Field} {fuel : Nat} {cs : List Value} {x : DataW H × List MemPlace} (ht : P.underlying t = some (.struct fs)) (h : DataW.trod enc P w base spare held fuel t cs = some x)
    (i off : Nat) (hf : (fs[i]?).map (fun f => (f.offset, f.type)) = some (off, e)) (ce : P.cellsOf e = 1) {u : Value} (hu : cs[off]? = some u) : ∃ fuel' x', DataW.trod enc P w base spare held fuel' e [u] = some x' := by
  obtain ⟨fuel', x', h'⟩ := open_field ht h i off e hf
  rw [ce] at h'
  obtain ⟨hlt, hu⟩ := List.getElem?_eq_some_iff.1 hu
  have ec : (cs.drop off).take 1 = [cs[off]] := by rw [List.drop_eq_getElem_cons hlt]; rfl
  rw [ec, hu] at h'
  exact ⟨_, _, h'⟩
theorem trod_struct_len {t : TypeId} {fs : Array Field} {fuel : Nat} {cs : List Value} {x : DataW H × List MemPlace} (ht : P.underlying t = some (.struct fs)) (h : DataW.trod enc P w base spare held fuel t cs = some x) : cs.length = P.cellsOf t := by
  obtain ⟨xs, n, _, _, hl, hxl, hx⟩ := DataW.trod_struct ht h
  exact hl

/-- A slice of structs, each of which reads as one of α. -/
theorem open_sliceS {α : Type} {f : α → List Value} {k : Nat} {R : α → Prop} (d : α) (hk : ∀ x, (f x).length = k) (hk0 : 0 < k) {t e : TypeId} {fuel : Nat} {a : Option Addr} {len cap : Nat} {x : DataW H × List MemPlace} (ht : P.underlying t = some (.slice e)) (ce : P.cellsOf e = k)
    (one : ∀ fuel cs x, DataW.trod enc P w base spare held fuel e cs = some x → ∃ z, cs = f z ∧ R z)
    (h : DataW.trod enc P w base spare held fuel t [.slice a len cap] = some x) : ∃ zs, RdS f k (fun i => i < w.heap.size) w (.slice a len cap) zs ∧ ∀ z ∈ zs, R z := by
  rcases Deep.open_slice ht h with ⟨hcs, _⟩ | ⟨a', len', cap', m, n, D, Pl, hcs, _, hl, hm, hmm, _, hx⟩
  · simp at hcs
    obtain ⟨rfl, rfl, rfl⟩ := hcs
    exact ⟨[], RdS.nil _ _ _ _ _ _ (Nat.zero_le _), fun c hc => by cases hc⟩
  · simp at hcs
    obtain ⟨rfl, rfl, rfl⟩ := hcs
    have hlm : len ≤ m := by rw [hmm]; split <;> omega
    rw [ce] at hx
    obtain ⟨b, off, spot⟩ := a'
    have each : ∀ i, i < len → ∃ z : α, (∀ j, j < k → w.cell? ((Addr.add ⟨b, off, spot⟩ (i * k)).add j) = (f z)[j]?) ∧ R z := fun i hi => by
      obtain ⟨cs', h1, h2⟩ := hx i (by omega)
      obtain ⟨hb, hlen, hcell⟩ := World.cells?_some h1
      obtain ⟨z, hz, hr⟩ := one _ _ _ h2
      refine ⟨z, fun j hj => ?_, hr⟩
      rw [← hz]
      exact hcell j hj
    have inh : Inhabited α := ⟨d⟩
    obtain ⟨g, hg⟩ := Deep.choose_lt (α := α) each
    have hlen : ((List.range len).map g).length = len := by simp
    refine ⟨(List.range len).map g, ⟨some ⟨b, off, spot⟩, cap, by rw [hlen], by omega, hm, fun h0 => ?_⟩, fun c hc => ?_⟩
    · rw [hlen] at h0 ⊢
      have hspot : spot = none := by
        have h1 := (hg 0 h0).1 0 hk0
        rw [List.getElem?_eq_getElem (by rw [hk]; exact hk0)] at h1
        simpa [Addr.add] using World.cell?_spot h1
      subst hspot
      refine ⟨b, off, rfl, ?_, ?_, fun j hj => ?_⟩
      · have h1 := (hg 0 h0).1 0 hk0
        rw [List.getElem?_eq_getElem (by rw [hk]; exact hk0)] at h1
        simp only [Addr.add_lit] at h1
        exact World.block_lt_of_cell? _ _ h1
      · have h1 := (hg 0 h0).1 0 hk0
        rw [List.getElem?_eq_getElem (by rw [hk]; exact hk0)] at h1
        simp only [Addr.add_lit] at h1
        exact World.block_lt_of_cell? _ _ h1
      · obtain ⟨_, hq, hr, he⟩ := part_of hj
        have e1 := flat_get hk d ((List.range len).map g) (j / k) (j % k) (by rw [hlen]; exact hq) hr
        rw [he] at e1
        rw [e1]
        have hj' := (hg (j / k) hq).1 (j % k) hr
        simp only [Addr.add_lit] at hj'
        rw [Nat.add_assoc, he] at hj'
        rw [hj']
        simp [List.getD, hq]
    · simp only [List.mem_map, List.mem_range] at hc
      obtain ⟨i, hi, rfl⟩ := hc
      exact (hg i hi).2
end
end Go.Proofs.YtdafamocnjfmjaaDoor
