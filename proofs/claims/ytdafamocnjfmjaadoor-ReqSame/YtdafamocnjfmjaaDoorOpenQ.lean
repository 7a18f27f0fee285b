/-
  What a request, a capability read as, by value. Conditions: each theorem's own.
-/
import Derived.Test.YtdafamocnjfmjaaDoorOpenS
import Derived.Test.YtdafamocnjfmjaaDoorOpen
import Derived.Test.YtdafamocnjfmjaaDoorReqMath
namespace Go.Proofs.YtdafamocnjfmjaaDoor
open Go.RowKit Go.ChangeShapes Go.WideShapes
set_option linter.unusedVariables false
set_option linter.unusedSimpArgs false

theorem list2q {α : Type} {l : List α} (h : l.length = 2) : ∃ a b, l = [a, b] := by
  match l, h with
  | [a, b], _ => exact ⟨a, b, rfl⟩
theorem list5q {α : Type} {l : List α} (h : l.length = 5) : ∃ a b c d e, l = [a, b, c, d, e] := by
  match l, h with
  | [a, b, c, d, e], _ => exact ⟨a, b, c, d, e, rfl⟩
theorem oct_wf {zs : List Int} (h : ∀ n ∈ zs, (Lit.int .u8 n).wf = true) : Oct zs := fun x hx => by
  have := bounds_u8 (h x hx)
  omega

section
variable {H : Type} {enc : TypeId × Value → H} {P : Program} {w : World} {base : Nat} {spare : Nat → Bool} {held : Bool}
/-- a capability by value -/
theorem open_cap {t q : TypeId} {fs : Array Field} {r : Reach} {b0 : Nat} {v : Value} {d : DataW H} {pl : List MemPlace} (ht : P.underlying t = some (.struct fs)) (hfs : fs.toList.map (fun f => (f.offset, f.type)) = [(0, q), (1, q)])
    (hq : P.underlying q = some (.int .i64)) (cq : P.cellsOf q = 1) (ct : P.cellsOf t = 2)
    (hv : Value.okWide P w r b0 t v) (h : DataW.Trod enc P w base spare held t v d pl) : ∃ s g, v = .agg #[.int .i64 s, .int .i64 g] ∧ (Lit.int .i64 s).wf = true ∧ (Lit.int .i64 g).wf = true := by
  obtain ⟨l, rfl, hsz⟩ := okWide_struct ht hv
  obtain ⟨fuel, hf0⟩ := h
  have hf1 : DataW.trod enc P w base spare held fuel t l.toList = some (d, pl) := hf0
  have hf : ∀ i : Nat, (fs[i]?).map (fun f : Field => (f.offset, f.type)) = ([(0, q), (1, q)] : List (Nat × TypeId))[i]? := fun i => by
    rw [← hfs, List.getElem?_map, Array.getElem?_toList]
  obtain ⟨v0, v1, hl⟩ := list2q ((trod_struct_len ht hf1).trans ct)
  rw [hl] at hf1
  obtain ⟨z0, e0, w0⟩ := open_field_int ht hf1 0 0 (hf 0) hq cq
  obtain ⟨z1, e1, w1⟩ := open_field_int ht hf1 1 1 (hf 1) hq cq
  simp at e0 e1
  subst e0 e1
  refine ⟨z0, z1, ?_, w0, w1⟩
  cases l
  simp at hl
  rw [hl]
/-- a request by value -/
theorem open_req {t s e q : TypeId} {fs : Array Field} {r : Reach} {b0 : Nat} {v : Value} {d : DataW H} {pl : List MemPlace} (ht : P.underlying t = some (.struct fs)) (hfs : fs.toList.map (fun f => (f.offset, f.type)) = [(0, q), (1, q), (2, q), (3, q), (4, s)])
    (hs : P.underlying s = some (.slice e)) (he : P.underlying e = some (.int .u8)) (hq : P.underlying q = some (.int .i64)) (cq : P.cellsOf q = 1) (ce : P.cellsOf e = 1) (csl : P.cellsOf s = 1) (ct : P.cellsOf t = 5)
    (hv : Value.okWide P w r b0 t v) (h : DataW.Trod enc P w base spare held t v d pl) : ∃ (x : Rq) (a : Option Addr) (n c : Nat), v = .agg #[.int .i64 x.o, .int .i64 x.p, .int .i64 x.f, .int .i64 x.l, .slice a n c] ∧ (Lit.int .i64 x.o).wf = true ∧ (Lit.int .i64 x.p).wf = true ∧ (Lit.int .i64 x.f).wf = true ∧ (Lit.int .i64 x.l).wf = true ∧ Rd .u8 w.heap.size w (.slice a n c) x.z ∧ Oct x.z := by
  obtain ⟨l, rfl, hsz⟩ := okWide_struct ht hv
  obtain ⟨fuel, hf0⟩ := h
  have hf1 : DataW.trod enc P w base spare held fuel t l.toList = some (d, pl) := hf0
  have hf : ∀ i : Nat, (fs[i]?).map (fun f : Field => (f.offset, f.type)) = ([(0, q), (1, q), (2, q), (3, q), (4, s)] : List (Nat × TypeId))[i]? := fun i => by
    rw [← hfs, List.getElem?_map, Array.getElem?_toList]
  obtain ⟨v0, v1, v2, v3, v4, hl⟩ := list5q ((trod_struct_len ht hf1).trans ct)
  rw [hl] at hf1
  obtain ⟨z0, e0, w0⟩ := open_field_int ht hf1 0 0 (hf 0) hq cq
  obtain ⟨z1, e1, w1⟩ := open_field_int ht hf1 1 1 (hf 1) hq cq
  obtain ⟨z2, e2, w2⟩ := open_field_int ht hf1 2 2 (hf 2) hq cq
  obtain ⟨z3, e3, w3⟩ := open_field_int ht hf1 3 3 (hf 3) hq cq
  obtain ⟨fuel4, x4, h4⟩ := open_field_one ht hf1 4 4 (hf 4) csl (u := v4) rfl
  simp at e0 e1 e2 e3
  subst e0 e1 e2 e3
  have hsl : ∃ a len cap, v4 = .slice a len cap := by
    rcases Deep.open_slice hs h4 with ⟨hcs, _⟩ | ⟨a', len', cap', m, n, D, Pl, hcs, _⟩
    · simp at hcs; exact ⟨_, _, _, hcs⟩
    · simp at hcs; exact ⟨_, _, _, hcs⟩
  obtain ⟨a, len, cap, rfl⟩ := hsl
  obtain ⟨zs, hr, hok⟩ := open_row hs he ce h4
  refine ⟨⟨z0, z1, z2, z3, zs⟩, a, len, cap, ?_, w0, w1, w2, w3, hr, oct_wf hok⟩
  cases l
  simp at hl
  rw [hl]
end
end Go.Proofs.YtdafamocnjfmjaaDoor
