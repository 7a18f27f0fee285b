/-
  What is done, as a slice of structs: how it reads; the making of a variable in a region that draws its order. Conditions: each theorem's own.
-/
import Derived.Test.YtpkoiogdkaklfaaOpenS
import Derived.Test.YtpkoiogdkaklfaaOpenV
import Derived.Test.YtpkoiogdkaklfaaOpen
import Derived.Test.YtpkoiogdkaklfaaCelMath
namespace Go.Proofs.Ytpkoiogdkaklfaa
open Go.RowKit Go.ChangeShapes Go.WideShapes
set_option linter.unusedVariables false
set_option linter.unusedSimpArgs false

/-- something that is done, by its cells -/
structure OV where
  d : Int
  a : Int
  t : Int
  bv : Value
  kv : Value
def OV.cs (o : OV) : List Value := [.int .i64 o.d, .int .i64 o.a, .int .i64 o.t, o.bv, o.kv]
def OV.zero : OV := ⟨0, 0, 0, .slice none 0 0, .slice none 0 0⟩
theorem OV.cs_length (o : OV) : o.cs.length = 5 := rfl
/-- what it reads as -/
def OV.Ok (w : World) (o : OV) : Prop := ((Lit.int .i64 o.d).wf = true ∧ (Lit.int .i64 o.a).wf = true ∧ (Lit.int .i64 o.t).wf = true) ∧ (∃ bs, RdV (Value.int .u8) 0 (fun i => i < w.heap.size) w o.bv bs ∧ Oct bs) ∧ ∃ ks, RdV Value.bool false (fun i => i < w.heap.size) w o.kv ks

theorem list5 {α : Type} {l : List α} (h : l.length = 5) : ∃ a b c d e, l = [a, b, c, d, e] := by
  match l, h with
  | [a, b, c, d, e], _ => exact ⟨a, b, c, d, e, rfl⟩

section
variable {H : Type} {enc : TypeId × Value → H} {P : Program} {w : World} {base : Nat} {spare : Nat → Bool} {held : Bool}
theorem slice_of {s e : TypeId} {fuel : Nat} {v : Value} {x : DataW H × List MemPlace} (hs : P.underlying s = some (.slice e)) (h : DataW.trod enc P w base spare held fuel s [v] = some x) : ∃ a len cap, v = .slice a len cap := by
  rcases Deep.open_slice hs h with ⟨hcs, _⟩ | ⟨a', len', cap', m, n, D, Pl, hcs, _⟩
  · simp at hcs; exact ⟨_, _, _, hcs⟩
  · simp at hcs; exact ⟨_, _, _, hcs⟩

theorem open_O {t q s r eu eb : TypeId} {fs : Array Field} {fuel : Nat} {cs : List Value} {x : DataW H × List MemPlace} (ht : P.underlying t = some (.struct fs)) (hfs : fs.toList.map (fun f => (f.offset, f.type)) = [(0, q), (1, q), (2, q), (3, s), (4, r)])
    (hq : P.underlying q = some (.int .i64)) (cq : P.cellsOf q = 1) (hs : P.underlying s = some (.slice eu)) (heu : P.underlying eu = some (.int .u8)) (ceu : P.cellsOf eu = 1) (hr : P.underlying r = some (.slice eb)) (heb : P.underlying eb = some .bool) (ceb : P.cellsOf eb = 1) (cs1 : P.cellsOf s = 1) (cr1 : P.cellsOf r = 1) (ct : P.cellsOf t = 5)
    (h : DataW.trod enc P w base spare held fuel t cs = some x) : ∃ z : OV, cs = z.cs ∧ z.Ok w := by
  have hf : ∀ i : Nat, (fs[i]?).map (fun f : Field => (f.offset, f.type)) = ([(0, q), (1, q), (2, q), (3, s), (4, r)] : List (Nat × TypeId))[i]? := fun i => by
    rw [← hfs, List.getElem?_map, Array.getElem?_toList]
  obtain ⟨v0, v1, v2, v3, v4, rfl⟩ := list5 ((trod_struct_len ht h).trans ct)
  obtain ⟨z0, e0, w0⟩ := open_field_int ht h 0 0 (hf 0) hq cq
  obtain ⟨z1, e1, w1⟩ := open_field_int ht h 1 1 (hf 1) hq cq
  obtain ⟨z2, e2, w2⟩ := open_field_int ht h 2 2 (hf 2) hq cq
  obtain ⟨f3, x3, h3⟩ := open_field_one ht h 3 3 (hf 3) cs1 (u := v3) rfl
  obtain ⟨f4, x4, h4⟩ := open_field_one ht h 4 4 (hf 4) cr1 (u := v4) rfl
  simp at e0 e1 e2
  subst e0 e1 e2
  obtain ⟨a4, l4, c4, rfl⟩ := slice_of hr h4
  obtain ⟨bs, hb, hbo⟩ := open_row hs heu ceu h3
  obtain ⟨ks, hk⟩ := open_bools hr heb ceb h4
  exact ⟨⟨z0, z1, z2, v3, _⟩, rfl, ⟨w0, w1, w2⟩, ⟨bs, hb.v, fun n hn => by have := bounds_u8 (hbo n hn); omega⟩, ks, hk⟩
theorem open_Os {u t q s r eu eb : TypeId} {fs : Array Field} {fuel : Nat} {a : Option Addr} {len cap : Nat} {x : DataW H × List MemPlace} (hu : P.underlying u = some (.slice t)) (ht : P.underlying t = some (.struct fs)) (hfs : fs.toList.map (fun f => (f.offset, f.type)) = [(0, q), (1, q), (2, q), (3, s), (4, r)])
    (hq : P.underlying q = some (.int .i64)) (cq : P.cellsOf q = 1) (hs : P.underlying s = some (.slice eu)) (heu : P.underlying eu = some (.int .u8)) (ceu : P.cellsOf eu = 1) (hr : P.underlying r = some (.slice eb)) (heb : P.underlying eb = some .bool) (ceb : P.cellsOf eb = 1) (cs1 : P.cellsOf s = 1) (cr1 : P.cellsOf r = 1) (ct : P.cellsOf t = 5)
    (h : DataW.trod enc P w base spare held fuel u [.slice a len cap] = some x) : ∃ zs, RdS OV.cs 5 (fun i => i < w.heap.size) w (.slice a len cap) zs ∧ ∀ z ∈ zs, OV.Ok w z :=
  open_sliceS (f := OV.cs) OV.zero OV.cs_length (by omega) hu ct (fun _ _ _ h' => open_O ht hfs hq cq hs heu ceu hr heb ceb cs1 cr1 ct h') h
end

theorem exec_allocV {P : Program} {w : World} {ev : Operand → Value} {d : Option Tmp} {t ty : TypeId} {p : String} {af : Array Edge} {g : Option (Nat × Bool)} (cs : Array Value) (hz : ∀ w, (zeroValue t).run P w = .ok (.agg cs) w) :
    (execOp ev ⟨d, .alloc t, ty, p, af, g⟩).run P w = .ok (.value (.pointer (some ⟨w.heap.size, 0, none⟩))) (w.alloc (.cells cs t)) := by
  have hrun : (Instr.alloc t true (.tuple #[])).run P w = .ok (.pointer (some ⟨w.heap.size, 0, none⟩)) (w.alloc (.cells cs t)) := by
    simp [Instr.alloc, hz, newVar, newRow, Value.cells, Result.andThen]
  simp [execOp, hrun, Result.andThen]
theorem zeroD (w : World) : (zeroValue 31).run Try.prog w = .ok (.agg #[.slice none 0 0, .slice none 0 0, .slice none 0 0]) w := by kernel_rfl

/-- one of them, in a later world: its cells, what it reads as -/
theorem os_at {w : World} {ao : Option Addr} {n co : Nat} {os : List OV} (h : RdS OV.cs 5 (fun i => i < w.heap.size) w (.slice ao n co) os) (hok : ∀ z ∈ os, OV.Ok w z) {j : Nat} (hj : j < os.length) :
    ∃ bo oo z, ao = some ⟨bo, oo, none⟩ ∧ OV.Ok w z ∧ os.getD j OV.zero = z ∧ ∀ w', Grow w w' → w'.cell? ⟨bo, oo + j * 5, none⟩ = some (.int .i64 z.d) ∧ w'.cell? ⟨bo, oo + j * 5 + 1, none⟩ = some (.int .i64 z.a) ∧ w'.cell? ⟨bo, oo + j * 5 + 2, none⟩ = some (.int .i64 z.t) ∧ w'.cell? ⟨bo, oo + j * 5 + 3, none⟩ = some z.bv ∧ w'.cell? ⟨bo, oo + j * 5 + 4, none⟩ = some z.kv := by
  obtain ⟨bo, oo, e, _, hlt, hc⟩ := h.at OV.cs_length OV.zero hj
  refine ⟨bo, oo, _, e, hok _ ?_, rfl, fun w' g => ?_⟩
  · simp only [List.getD, List.getElem?_eq_getElem hj, Option.getD_some]
    exact List.getElem_mem hj
  · have hh : ∀ i, i < 5 → w'.cell? ⟨bo, oo + j * 5 + i, none⟩ = (OV.cs (os.getD j OV.zero))[i]? := fun i hi => by rw [Below.cell (p := ⟨bo, oo + j * 5 + i, none⟩) g hlt]; exact hc i hi
    exact ⟨hh 0 (by omega), hh 1 (by omega), hh 2 (by omega), hh 3 (by omega), hh 4 (by omega)⟩
end Go.Proofs.Ytpkoiogdkaklfaa
