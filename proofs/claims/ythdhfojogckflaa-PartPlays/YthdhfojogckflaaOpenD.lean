/-
  What is done to a partition, as a slice of structs: how it reads. Conditions: each theorem's own.
-/
import Derived.Test.YthdhfojogckflaaCelA
import Derived.Test.YthdhfojogckflaaClkG
import Derived.Test.YthdhfojogckflaaOpenV
import Derived.Test.YthdhfojogckflaaOpen
namespace Go.Proofs.Ythdhfojogckflaa
open Go.RowKit Go.ChangeShapes Go.WideShapes
set_option linter.unusedVariables false
set_option linter.unusedSimpArgs false

/-- something that is done, by its cells -/
structure OD where
  d : Int
  i : Int
  pg : Int
  off : Int
  n : Int
  bv : Value
def OD.cs (o : OD) : List Value := [.int .i64 o.d, .int .i64 o.i, .int .i64 o.pg, .int .i64 o.off, .int .i64 o.n, o.bv]
def OD.zero : OD := ⟨0, 0, 0, 0, 0, .slice none 0 0⟩
theorem OD.cs_length (o : OD) : o.cs.length = 6 := rfl
/-- what it reads as -/
def OD.Ok (w : World) (o : OD) : Prop := ((Lit.int .i64 o.d).wf = true ∧ (Lit.int .i64 o.i).wf = true ∧ (Lit.int .i64 o.pg).wf = true ∧ (Lit.int .i64 o.off).wf = true ∧ (Lit.int .i64 o.n).wf = true) ∧ ∃ bs, RdV (Value.int .u8) 0 (fun i => i < w.heap.size) w o.bv bs ∧ Oct bs

theorem list6o {α : Type} {l : List α} (h : l.length = 6) : ∃ a b c d e f, l = [a, b, c, d, e, f] := by
  match l, h with
  | [a, b, c, d, e, f], _ => exact ⟨a, b, c, d, e, f, rfl⟩

section
variable {H : Type} {enc : TypeId × Value → H} {P : Program} {w : World} {base : Nat} {spare : Nat → Bool} {held : Bool}
theorem slice_ofo {s e : TypeId} {fuel : Nat} {v : Value} {x : DataW H × List MemPlace} (hs : P.underlying s = some (.slice e)) (h : DataW.trod enc P w base spare held fuel s [v] = some x) : ∃ a len cap, v = .slice a len cap := by
  rcases Deep.open_slice hs h with ⟨hcs, _⟩ | ⟨a', len', cap', m, n, D, Pl, hcs, _⟩
  · simp at hcs; exact ⟨_, _, _, hcs⟩
  · simp at hcs; exact ⟨_, _, _, hcs⟩

theorem open_OD1 {t q s eu : TypeId} {fs : Array Field} {fuel : Nat} {cs : List Value} {x : DataW H × List MemPlace} (ht : P.underlying t = some (.struct fs)) (hfs : fs.toList.map (fun f => (f.offset, f.type)) = [(0, q), (1, q), (2, q), (3, q), (4, q), (5, s)])
    (hq : P.underlying q = some (.int .i64)) (cq : P.cellsOf q = 1) (hs : P.underlying s = some (.slice eu)) (heu : P.underlying eu = some (.int .u8)) (ceu : P.cellsOf eu = 1) (cs1 : P.cellsOf s = 1) (ct : P.cellsOf t = 6)
    (h : DataW.trod enc P w base spare held fuel t cs = some x) : ∃ z : OD, cs = z.cs ∧ z.Ok w := by
  have hf : ∀ i : Nat, (fs[i]?).map (fun f : Field => (f.offset, f.type)) = ([(0, q), (1, q), (2, q), (3, q), (4, q), (5, s)] : List (Nat × TypeId))[i]? := fun i => by
    rw [← hfs, List.getElem?_map, Array.getElem?_toList]
  obtain ⟨v0, v1, v2, v3, v4, v5, rfl⟩ := list6o ((trod_struct_len ht h).trans ct)
  obtain ⟨z0, e0, w0⟩ := open_field_int ht h 0 0 (hf 0) hq cq
  obtain ⟨z1, e1, w1⟩ := open_field_int ht h 1 1 (hf 1) hq cq
  obtain ⟨z2, e2, w2⟩ := open_field_int ht h 2 2 (hf 2) hq cq
  obtain ⟨z3, e3, w3⟩ := open_field_int ht h 3 3 (hf 3) hq cq
  obtain ⟨z4, e4, w4⟩ := open_field_int ht h 4 4 (hf 4) hq cq
  obtain ⟨f5, x5, h5⟩ := open_field_one ht h 5 5 (hf 5) cs1 (u := v5) rfl
  simp at e0 e1 e2 e3 e4
  subst e0 e1 e2 e3 e4
  obtain ⟨a5, l5, c5, rfl⟩ := slice_ofo hs h5
  obtain ⟨bs, hb, hbo⟩ := open_row hs heu ceu h5
  exact ⟨⟨z0, z1, z2, z3, z4, _⟩, rfl, ⟨w0, w1, w2, w3, w4⟩, bs, hb.v, fun n hn => by have := bounds_u8 (hbo n hn); omega⟩
theorem open_OD {u t q s eu : TypeId} {fs : Array Field} {fuel : Nat} {a : Option Addr} {len cap : Nat} {x : DataW H × List MemPlace} (hu : P.underlying u = some (.slice t)) (ht : P.underlying t = some (.struct fs)) (hfs : fs.toList.map (fun f => (f.offset, f.type)) = [(0, q), (1, q), (2, q), (3, q), (4, q), (5, s)])
    (hq : P.underlying q = some (.int .i64)) (cq : P.cellsOf q = 1) (hs : P.underlying s = some (.slice eu)) (heu : P.underlying eu = some (.int .u8)) (ceu : P.cellsOf eu = 1) (cs1 : P.cellsOf s = 1) (ct : P.cellsOf t = 6)
    (h : DataW.trod enc P w base spare held fuel u [.slice a len cap] = some x) : ∃ zs, RdS OD.cs 6 (fun i => i < w.heap.size) w (.slice a len cap) zs ∧ ∀ z ∈ zs, OD.Ok w z :=
  open_sliceS (f := OD.cs) OD.zero OD.cs_length (by omega) hu ct (fun _ _ _ h' => open_OD1 ht hfs hq cq hs heu ceu cs1 ct h') h
end

/-- one of them, in a later world: its cells, what it reads as -/
theorem od_at {w : World} {ao : Option Addr} {n co : Nat} {os : List OD} (h : RdS OD.cs 6 (fun i => i < w.heap.size) w (.slice ao n co) os) (hok : ∀ z ∈ os, OD.Ok w z) {j : Nat} (hj : j < os.length) :
    ∃ bo oo z, ao = some ⟨bo, oo, none⟩ ∧ bo < w.heap.size ∧ OD.Ok w z ∧ os.getD j OD.zero = z ∧ ∀ w', Grow w w' → w'.cell? ⟨bo, oo + j * 6, none⟩ = some (.int .i64 z.d) ∧ w'.cell? ⟨bo, oo + j * 6 + 1, none⟩ = some (.int .i64 z.i) ∧ w'.cell? ⟨bo, oo + j * 6 + 2, none⟩ = some (.int .i64 z.pg) ∧ w'.cell? ⟨bo, oo + j * 6 + 3, none⟩ = some (.int .i64 z.off) ∧ w'.cell? ⟨bo, oo + j * 6 + 4, none⟩ = some (.int .i64 z.n) ∧ w'.cell? ⟨bo, oo + j * 6 + 5, none⟩ = some z.bv := by
  obtain ⟨bo, oo, e, _, hlt, hc⟩ := h.at OD.cs_length OD.zero hj
  refine ⟨bo, oo, _, e, hlt, hok _ ?_, rfl, fun w' g => ?_⟩
  · simp only [List.getD, List.getElem?_eq_getElem hj, Option.getD_some]
    exact List.getElem_mem hj
  · have hh : ∀ i, i < 6 → w'.cell? ⟨bo, oo + j * 6 + i, none⟩ = (OD.cs (os.getD j OD.zero))[i]? := fun i hi => by rw [Below.cell (p := ⟨bo, oo + j * 6 + i, none⟩) g hlt]; exact hc i hi
    exact ⟨hh 0 (by omega), hh 1 (by omega), hh 2 (by omega), hh 3 (by omega), hh 4 (by omega), hh 5 (by omega)⟩

end Go.Proofs.Ythdhfojogckflaa
