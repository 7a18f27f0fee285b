/-
  An argument that is a slice of flags: what it reads as. Conditions: each theorem's own.
-/
import Derived.Test.YtabhbeknpchpkaaClkMath
import Derived.Test.YtabhbeknpchpkaaOpenS
import Derived.Test.YtabhbeknpchpkaaOpen
namespace Go.Proofs.Ytabhbeknpchpkaa
open Go.RowKit Go.ChangeShapes Go.WideShapes
set_option linter.unusedVariables false
set_option linter.unusedSimpArgs false

theorem list4f {α : Type} {l : List α} (h : l.length = 4) : ∃ a b c d, l = [a, b, c, d] := by
  match l, h with
  | [a, b, c, d], _ => exact ⟨a, b, c, d, rfl⟩

section
variable {H : Type} {enc : TypeId × Value → H} {P : Program} {w : World} {base : Nat} {spare : Nat → Bool} {held : Bool}
theorem open_Fl {t bt q : TypeId} {fs : Array Field} {fuel : Nat} {cs : List Value} {x : DataW H × List MemPlace} (ht : P.underlying t = some (.struct fs)) (hfs : fs.toList.map (fun f => (f.offset, f.type)) = [(0, bt), (1, bt), (2, bt), (3, q)])
    (hb : P.underlying bt = some .bool) (cb : P.cellsOf bt = 1) (hq : P.underlying q = some (.int .i64)) (cq : P.cellsOf q = 1) (ct : P.cellsOf t = 4)
    (h : DataW.trod enc P w base spare held fuel t cs = some x) : ∃ z : Fl, cs = z.cs ∧ (Lit.int .i64 z.p).wf = true := by
  have hf : ∀ i : Nat, (fs[i]?).map (fun f : Field => (f.offset, f.type)) = ([(0, bt), (1, bt), (2, bt), (3, q)] : List (Nat × TypeId))[i]? := fun i => by
    rw [← hfs, List.getElem?_map, Array.getElem?_toList]
  obtain ⟨v0, v1, v2, v3, rfl⟩ := list4f ((trod_struct_len ht h).trans ct)
  obtain ⟨f0, x0, h0⟩ := open_field_one ht h 0 0 (hf 0) cb (u := v0) rfl
  obtain ⟨f1, x1, h1⟩ := open_field_one ht h 1 1 (hf 1) cb (u := v1) rfl
  obtain ⟨f2, x2, h2⟩ := open_field_one ht h 2 2 (hf 2) cb (u := v2) rfl
  obtain ⟨z3, e3, w3⟩ := open_field_int ht h 3 3 (hf 3) hq cq
  obtain ⟨z0, e0, _⟩ := DataW.trod_bool hb h0
  obtain ⟨z1, e1, _⟩ := DataW.trod_bool hb h1
  obtain ⟨z2, e2, _⟩ := DataW.trod_bool hb h2
  simp at e0 e1 e2 e3
  subst e0 e1 e2 e3
  exact ⟨⟨z0, z1, z2, z3⟩, rfl, w3⟩
theorem open_Fls {u t bt q : TypeId} {fs : Array Field} {fuel : Nat} {a : Option Addr} {len cap : Nat} {x : DataW H × List MemPlace} (hu : P.underlying u = some (.slice t)) (ht : P.underlying t = some (.struct fs)) (hfs : fs.toList.map (fun f => (f.offset, f.type)) = [(0, bt), (1, bt), (2, bt), (3, q)])
    (hb : P.underlying bt = some .bool) (cb : P.cellsOf bt = 1) (hq : P.underlying q = some (.int .i64)) (cq : P.cellsOf q = 1) (ct : P.cellsOf t = 4)
    (h : DataW.trod enc P w base spare held fuel u [.slice a len cap] = some x) : ∃ zs, RdS Fl.cs 4 (fun i => i < w.heap.size) w (.slice a len cap) zs ∧ ∀ z ∈ zs, (Lit.int .i64 z.p).wf = true :=
  open_sliceS (f := Fl.cs) Fl.zero Fl.cs_length (by omega) hu ct (fun _ _ _ h' => open_Fl ht hfs hb cb hq cq ct h') h
/-- how long it may be: by its bytes -/
theorem sized_len16 {t e : TypeId} {a : Option Addr} {len cap : Nat} {d : DataW H} {p : List MemPlace} (ht : P.underlying t = some (.slice e)) (hb : P.bytesOf e = 16)
    (h : DataW.Trod enc P w base spare held t (.slice a len cap) d p) (hs : ∀ elems sp, d = .slice elems sp → (elems.length + sp.length) * P.bytesOf e ≤ reachBytes) : len * 16 ≤ 140737488355328 := by
  obtain ⟨fuel, hf⟩ := h
  have hf' : DataW.trod enc P w base spare held fuel t [.slice a len cap] = some (d, p) := hf
  rcases Deep.open_slice ht hf' with ⟨hcs, _⟩ | ⟨a', len', cap', m, n, D, Pl, hcs, _, hl, hm, hmm, hx, _⟩
  · simp at hcs
    rw [hcs.2.1]; omega
  · simp at hcs
    obtain ⟨rfl, rfl, rfl⟩ := hcs
    injection hx with hd _
    have := hs _ _ hd
    rw [hb, List.length_map, List.length_range] at this
    have hr : reachBytes ≤ 140737488355328 := by decide
    exact Nat.le_trans (Nat.mul_le_mul_right 16 (Nat.le_add_right _ _)) (Nat.le_trans this hr)
end
end Go.Proofs.Ytabhbeknpchpkaa
