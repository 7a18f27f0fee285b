/-
  What is done with a frame, as a slice of structs: how it reads; the document's Do, whatever is done. Conditions: each theorem's own.
-/
import Derived.Test.YtcmehefaceaioaaFraQG
import Derived.Test.YtcmehefaceaioaaFraQP
import Derived.Test.YtcmehefaceaioaaFraE
import Derived.Test.YtcmehefaceaioaaOpenS
import Derived.Test.YtcmehefaceaioaaOpenV
import Derived.Test.YtcmehefaceaioaaOpen
namespace Go.Proofs.Ytcmehefaceaioaa
open Go.RowKit Go.ChangeShapes Go.WideShapes
set_option linter.unusedVariables false
set_option linter.unusedSimpArgs false

/-- something that is done, by its cells -/
structure DV where
  d : Int
  pg : Int
  off : Int
  n : Int
  bv : Value
def DV.cs (o : DV) : List Value := [.int .i64 o.d, .int .i64 o.pg, .int .i64 o.off, .int .i64 o.n, o.bv]
def DV.zero : DV := ⟨0, 0, 0, 0, .slice none 0 0⟩
theorem DV.cs_length (o : DV) : o.cs.length = 5 := rfl
/-- what it reads as -/
def DV.Ok (w : World) (o : DV) : Prop := ((Lit.int .i64 o.d).wf = true ∧ (Lit.int .i64 o.pg).wf = true ∧ (Lit.int .i64 o.off).wf = true ∧ (Lit.int .i64 o.n).wf = true) ∧ ∃ bs, RdV (Value.int .u8) 0 (fun i => i < w.heap.size) w o.bv bs ∧ Oct bs

theorem list5d {α : Type} {l : List α} (h : l.length = 5) : ∃ a b c d e, l = [a, b, c, d, e] := by
  match l, h with
  | [a, b, c, d, e], _ => exact ⟨a, b, c, d, e, rfl⟩

section
variable {H : Type} {enc : TypeId × Value → H} {P : Program} {w : World} {base : Nat} {spare : Nat → Bool} {held : Bool}
theorem slice_ofd {s e : TypeId} {fuel : Nat} {v : Value} {x : DataW H × List MemPlace} (hs : P.underlying s = some (.slice e)) (h : DataW.trod enc P w base spare held fuel s [v] = some x) : ∃ a len cap, v = .slice a len cap := by
  rcases Deep.open_slice hs h with ⟨hcs, _⟩ | ⟨a', len', cap', m, n, D, Pl, hcs, _⟩
  · simp at hcs; exact ⟨_, _, _, hcs⟩
  · simp at hcs; exact ⟨_, _, _, hcs⟩

theorem open_D {t q s eu : TypeId} {fs : Array Field} {fuel : Nat} {cs : List Value} {x : DataW H × List MemPlace} (ht : P.underlying t = some (.struct fs)) (hfs : fs.toList.map (fun f => (f.offset, f.type)) = [(0, q), (1, q), (2, q), (3, q), (4, s)])
    (hq : P.underlying q = some (.int .i64)) (cq : P.cellsOf q = 1) (hs : P.underlying s = some (.slice eu)) (heu : P.underlying eu = some (.int .u8)) (ceu : P.cellsOf eu = 1) (cs1 : P.cellsOf s = 1) (ct : P.cellsOf t = 5)
    (h : DataW.trod enc P w base spare held fuel t cs = some x) : ∃ z : DV, cs = z.cs ∧ z.Ok w := by
  have hf : ∀ i : Nat, (fs[i]?).map (fun f : Field => (f.offset, f.type)) = ([(0, q), (1, q), (2, q), (3, q), (4, s)] : List (Nat × TypeId))[i]? := fun i => by
    rw [← hfs, List.getElem?_map, Array.getElem?_toList]
  obtain ⟨v0, v1, v2, v3, v4, rfl⟩ := list5d ((trod_struct_len ht h).trans ct)
  obtain ⟨z0, e0, w0⟩ := open_field_int ht h 0 0 (hf 0) hq cq
  obtain ⟨z1, e1, w1⟩ := open_field_int ht h 1 1 (hf 1) hq cq
  obtain ⟨z2, e2, w2⟩ := open_field_int ht h 2 2 (hf 2) hq cq
  obtain ⟨z3, e3, w3⟩ := open_field_int ht h 3 3 (hf 3) hq cq
  obtain ⟨f4, x4, h4⟩ := open_field_one ht h 4 4 (hf 4) cs1 (u := v4) rfl
  simp at e0 e1 e2 e3
  subst e0 e1 e2 e3
  obtain ⟨a4, l4, c4, rfl⟩ := slice_ofd hs h4
  obtain ⟨bs, hb, hbo⟩ := open_row hs heu ceu h4
  exact ⟨⟨z0, z1, z2, z3, _⟩, rfl, ⟨w0, w1, w2, w3⟩, bs, hb.v, fun n hn => by have := bounds_u8 (hbo n hn); omega⟩
theorem open_Ds {u t q s eu : TypeId} {fs : Array Field} {fuel : Nat} {a : Option Addr} {len cap : Nat} {x : DataW H × List MemPlace} (hu : P.underlying u = some (.slice t)) (ht : P.underlying t = some (.struct fs)) (hfs : fs.toList.map (fun f => (f.offset, f.type)) = [(0, q), (1, q), (2, q), (3, q), (4, s)])
    (hq : P.underlying q = some (.int .i64)) (cq : P.cellsOf q = 1) (hs : P.underlying s = some (.slice eu)) (heu : P.underlying eu = some (.int .u8)) (ceu : P.cellsOf eu = 1) (cs1 : P.cellsOf s = 1) (ct : P.cellsOf t = 5)
    (h : DataW.trod enc P w base spare held fuel u [.slice a len cap] = some x) : ∃ zs, RdS DV.cs 5 (fun i => i < w.heap.size) w (.slice a len cap) zs ∧ ∀ z ∈ zs, DV.Ok w z :=
  open_sliceS (f := DV.cs) DV.zero DV.cs_length (by omega) hu ct (fun _ _ _ h' => open_D ht hfs hq cq hs heu ceu cs1 ct h') h
end

/-- one of them, in a later world: its cells, what it reads as -/
theorem ds_at {w : World} {ao : Option Addr} {n co : Nat} {os : List DV} (h : RdS DV.cs 5 (fun i => i < w.heap.size) w (.slice ao n co) os) (hok : ∀ z ∈ os, DV.Ok w z) {j : Nat} (hj : j < os.length) :
    ∃ bo oo z, ao = some ⟨bo, oo, none⟩ ∧ bo < w.heap.size ∧ DV.Ok w z ∧ os.getD j DV.zero = z ∧ ∀ w', Grow w w' → w'.cell? ⟨bo, oo + j * 5, none⟩ = some (.int .i64 z.d) ∧ w'.cell? ⟨bo, oo + j * 5 + 1, none⟩ = some (.int .i64 z.pg) ∧ w'.cell? ⟨bo, oo + j * 5 + 2, none⟩ = some (.int .i64 z.off) ∧ w'.cell? ⟨bo, oo + j * 5 + 3, none⟩ = some (.int .i64 z.n) ∧ w'.cell? ⟨bo, oo + j * 5 + 4, none⟩ = some z.bv := by
  obtain ⟨bo, oo, e, _, hlt, hc⟩ := h.at DV.cs_length DV.zero hj
  refine ⟨bo, oo, _, e, hlt, hok _ ?_, rfl, fun w' g => ?_⟩
  · simp only [List.getD, List.getElem?_eq_getElem hj, Option.getD_some]
    exact List.getElem_mem hj
  · have hh : ∀ i, i < 5 → w'.cell? ⟨bo, oo + j * 5 + i, none⟩ = (DV.cs (os.getD j DV.zero))[i]? := fun i hi => by rw [Below.cell (p := ⟨bo, oo + j * 5 + i, none⟩) g hlt]; exact hc i hi
    exact ⟨hh 0 (by omega), hh 1 (by omega), hh 2 (by omega), hh 3 (by omega), hh 4 (by omega)⟩

theorem rdo_any (s : FS) (hs : s.Ok) (dd pg off n : Int) (hdd : (Lit.int .i64 dd).wf = true) (hof : (Lit.int .i64 off).wf = true) (hnw : (Lit.int .i64 n).wf = true) (bv : Value) (ys : List Int) (w : World) (hy : RdV (Value.int .u8) 0 (fun i => i < w.heap.size) w bv ys) (hyo : Oct ys) : Calls Try.prog 10 #[s.v, .agg #[.int .i64 dd, .int .i64 pg, .int .i64 off, .int .i64 n, bv]] w fun e w' => e = .returned (.tuple #[(doS (around dd 10) s pg off n ys).1.v, .string (strOfNums (doS (around dd 10) s pg off n ys).2.1), .int .i64 (doS (around dd 10) s pg off n ys).2.2]) ∧ Grow w w' := by
  by_cases hn5 : Int.tmod n 5 = 4
  · rcases ten (around_bd dd 10 (by omega)) with hk | hk | hk | hk | hk | hk | hk | hk | hk | hk
    · exact rdo_0f s hs dd pg off n hdd hof hnw bv ys w hy hyo hn5 hk
    · exact rdo_1f s hs dd pg off n hdd hof hnw bv ys w hy hyo hn5 hk
    · exact rdo_2 s hs dd pg off n hdd hof hnw bv ys w hy hyo hk
    · exact rdo_3 s hs dd pg off n hdd hof hnw bv ys w hy hyo hk
    · exact rdo_4 s hs dd pg off n hdd hof hnw bv ys w hy hyo hk
    · exact rdo_5 s hs dd pg off n hdd hof hnw bv ys w hy hyo hk
    · exact rdo_6 s hs dd pg off n hdd hof hnw bv ys w hy hyo hk
    · exact rdo_7 s hs dd pg off n hdd hof hnw bv ys w hy hyo hk
    · exact rdo_8 s hs dd pg off n hdd hof hnw bv ys w hy hyo hk
    · exact rdo_9 s hs dd pg off n hdd hof hnw bv ys w hy hyo hk
  · rcases ten (around_bd dd 10 (by omega)) with hk | hk | hk | hk | hk | hk | hk | hk | hk | hk
    · exact rdo_0 s hs dd pg off n hdd hof hnw bv ys w hy hyo hn5 hk
    · exact rdo_1 s hs dd pg off n hdd hof hnw bv ys w hy hyo hn5 hk
    · exact rdo_2 s hs dd pg off n hdd hof hnw bv ys w hy hyo hk
    · exact rdo_3 s hs dd pg off n hdd hof hnw bv ys w hy hyo hk
    · exact rdo_4 s hs dd pg off n hdd hof hnw bv ys w hy hyo hk
    · exact rdo_5 s hs dd pg off n hdd hof hnw bv ys w hy hyo hk
    · exact rdo_6 s hs dd pg off n hdd hof hnw bv ys w hy hyo hk
    · exact rdo_7 s hs dd pg off n hdd hof hnw bv ys w hy hyo hk
    · exact rdo_8 s hs dd pg off n hdd hof hnw bv ys w hy hyo hk
    · exact rdo_9 s hs dd pg off n hdd hof hnw bv ys w hy hyo hk
end Go.Proofs.Ytcmehefaceaioaa
