/-
  What is done to a table, as a slice of structs: how it reads. Conditions: each theorem's own.
-/
import Derived.Test.YtoobohbghobfhaaOpenS
import Derived.Test.YtoobohbghobfhaaOpenV
import Derived.Test.YtoobohbghobfhaaOpen
namespace Go.Proofs.Ytoobohbghobfhaa
open Go.RowKit Go.ChangeShapes Go.WideShapes
set_option linter.unusedVariables false
set_option linter.unusedSimpArgs false

/-- something that is done, by its cells -/
structure OC where
  d : Int
  i : Int
  v : Int
  s : Int
  n : Int
def OC.cs (o : OC) : List Value := [.int .i64 o.d, .int .i64 o.i, .int .i64 o.v, .int .i64 o.s, .int .i64 o.n]
def OC.zero : OC := ⟨0, 0, 0, 0, 0⟩
theorem OC.cs_length (o : OC) : o.cs.length = 5 := rfl
/-- what it reads as -/
def OC.Ok (o : OC) : Prop := (Lit.int .i64 o.d).wf = true ∧ (Lit.int .i64 o.i).wf = true ∧ (Lit.int .i64 o.v).wf = true ∧ (Lit.int .i64 o.s).wf = true ∧ (Lit.int .i64 o.n).wf = true

theorem list5c {α : Type} {l : List α} (h : l.length = 5) : ∃ a b c d e, l = [a, b, c, d, e] := by
  match l, h with
  | [a, b, c, d, e], _ => exact ⟨a, b, c, d, e, rfl⟩

section
variable {H : Type} {enc : TypeId × Value → H} {P : Program} {w : World} {base : Nat} {spare : Nat → Bool} {held : Bool}
theorem open_OC1 {t q : TypeId} {fs : Array Field} {fuel : Nat} {cs : List Value} {x : DataW H × List MemPlace} (ht : P.underlying t = some (.struct fs)) (hfs : fs.toList.map (fun f => (f.offset, f.type)) = [(0, q), (1, q), (2, q), (3, q), (4, q)])
    (hq : P.underlying q = some (.int .i64)) (cq : P.cellsOf q = 1) (ct : P.cellsOf t = 5)
    (h : DataW.trod enc P w base spare held fuel t cs = some x) : ∃ z : OC, cs = z.cs ∧ z.Ok := by
  have hf : ∀ i : Nat, (fs[i]?).map (fun f : Field => (f.offset, f.type)) = ([(0, q), (1, q), (2, q), (3, q), (4, q)] : List (Nat × TypeId))[i]? := fun i => by
    rw [← hfs, List.getElem?_map, Array.getElem?_toList]
  obtain ⟨v0, v1, v2, v3, v4, rfl⟩ := list5c ((trod_struct_len ht h).trans ct)
  obtain ⟨z0, e0, w0⟩ := open_field_int ht h 0 0 (hf 0) hq cq
  obtain ⟨z1, e1, w1⟩ := open_field_int ht h 1 1 (hf 1) hq cq
  obtain ⟨z2, e2, w2⟩ := open_field_int ht h 2 2 (hf 2) hq cq
  obtain ⟨z3, e3, w3⟩ := open_field_int ht h 3 3 (hf 3) hq cq
  obtain ⟨z4, e4, w4⟩ := open_field_int ht h 4 4 (hf 4) hq cq
  simp at e0 e1 e2 e3 e4
  subst e0 e1 e2 e3 e4
  exact ⟨⟨z0, z1, z2, z3, z4⟩, rfl, w0, w1, w2, w3, w4⟩
theorem open_OC {u t q : TypeId} {fs : Array Field} {fuel : Nat} {a : Option Addr} {len cap : Nat} {x : DataW H × List MemPlace} (hu : P.underlying u = some (.slice t)) (ht : P.underlying t = some (.struct fs)) (hfs : fs.toList.map (fun f => (f.offset, f.type)) = [(0, q), (1, q), (2, q), (3, q), (4, q)])
    (hq : P.underlying q = some (.int .i64)) (cq : P.cellsOf q = 1) (ct : P.cellsOf t = 5)
    (h : DataW.trod enc P w base spare held fuel u [.slice a len cap] = some x) : ∃ zs, RdS OC.cs 5 (fun i => i < w.heap.size) w (.slice a len cap) zs ∧ ∀ z ∈ zs, OC.Ok z :=
  open_sliceS (f := OC.cs) OC.zero OC.cs_length (by omega) hu ct (fun _ _ _ h' => open_OC1 ht hfs hq cq ct h') h
end

/-- one of them, in a later world: its cells, what it reads as -/
theorem oc_at {w : World} {ao : Option Addr} {n co : Nat} {os : List OC} (h : RdS OC.cs 5 (fun i => i < w.heap.size) w (.slice ao n co) os) (hok : ∀ z ∈ os, OC.Ok z) {j : Nat} (hj : j < os.length) :
    ∃ bo oo z, ao = some ⟨bo, oo, none⟩ ∧ bo < w.heap.size ∧ OC.Ok z ∧ ∀ w', Grow w w' → w'.cell? ⟨bo, oo + j * 5, none⟩ = some (.int .i64 z.d) ∧ w'.cell? ⟨bo, oo + j * 5 + 1, none⟩ = some (.int .i64 z.i) ∧ w'.cell? ⟨bo, oo + j * 5 + 2, none⟩ = some (.int .i64 z.v) ∧ w'.cell? ⟨bo, oo + j * 5 + 3, none⟩ = some (.int .i64 z.s) ∧ w'.cell? ⟨bo, oo + j * 5 + 4, none⟩ = some (.int .i64 z.n) := by
  obtain ⟨bo, oo, e, _, hlt, hc⟩ := h.at OC.cs_length OC.zero hj
  refine ⟨bo, oo, _, e, hlt, hok (os.getD j OC.zero) ?_, fun w' g => ?_⟩
  · simp only [List.getD, List.getElem?_eq_getElem hj, Option.getD_some]
    exact List.getElem_mem hj
  · have hh : ∀ i, i < 5 → w'.cell? ⟨bo, oo + j * 5 + i, none⟩ = (OC.cs (os.getD j OC.zero))[i]? := fun i hi => by rw [Below.cell (p := ⟨bo, oo + j * 5 + i, none⟩) g hlt]; exact hc i hi
    exact ⟨hh 0 (by omega), hh 1 (by omega), hh 2 (by omega), hh 3 (by omega), hh 4 (by omega)⟩
end Go.Proofs.Ytoobohbghobfhaa
