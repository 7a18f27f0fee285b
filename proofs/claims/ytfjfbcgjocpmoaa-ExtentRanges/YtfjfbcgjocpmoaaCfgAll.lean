/-
  Slices of configurations; openers of a configuration. Conditions: each theorem's own.
-/
import Derived.Test.YtfjfbcgjocpmoaaCfgFew
import Derived.Test.YtfjfbcgjocpmoaaOpenS
namespace Go.Proofs.Ytfjfbcgjocpmoaa
open Go.RowKit Go.ChangeShapes Go.WideShapes
set_option linter.unusedVariables false
set_option linter.unusedSimpArgs false

/-- a configuration, its list by its value -/
structure Cg where
  fr : Int
  dp : Int
  se : Int
  v : Value
def Cg.zero : Cg := ⟨0, 0, 0, .slice none 0 0⟩
def Cg.cs (c : Cg) : List Value := [.int .i64 c.fr, .int .i64 c.dp, .int .i64 c.se, c.v]
theorem Cg.cs_length (c : Cg) : c.cs.length = 4 := rfl
abbrev RdG (p : Nat → Prop) (w : World) (v : Value) (cs : List Cg) : Prop := RdS Cg.cs 4 p w v cs
/-- a configuration's cells from a place on -/
def GIn (w : World) (b o : Nat) (c : Cg) : Prop := w.cell? ⟨b, o, none⟩ = some (.int .i64 c.fr) ∧ w.cell? ⟨b, o + 1, none⟩ = some (.int .i64 c.dp) ∧ w.cell? ⟨b, o + 2, none⟩ = some (.int .i64 c.se) ∧ w.cell? ⟨b, o + 3, none⟩ = some c.v
theorem rdG_at {p : Nat → Prop} {w : World} {a : Option Addr} {n c : Nat} {gs : List Cg} (h : RdG p w (.slice a n c) gs) {i : Nat} (hi : i < gs.length) : ∃ b o, a = some ⟨b, o, none⟩ ∧ p b ∧ b < w.heap.size ∧ GIn w b (o + i * 4) (gs.getD i Cg.zero) := by
  obtain ⟨b, o, e, hb, hlt, hc⟩ := RdS.at h Cg.cs_length Cg.zero hi
  exact ⟨b, o, e, hb, hlt, hc 0 (by omega), hc 1 (by omega), hc 2 (by omega), hc 3 (by omega)⟩
/-- its list reads as parts -/
def HasPs (w : World) (c : Cg) (ps : List Pt) : Prop := RdP (fun _ => True) w c.v ps
theorem HasPs.grow {w w' : World} {c : Cg} {ps : List Pt} (h : HasPs w c ps) (g : Grow w w') : HasPs w' c ps := RdS.grow h g
theorem hasPs_of {p : Nat → Prop} {w : World} {c : Cg} {ps : List Pt} (h : RdP p w c.v ps) : HasPs w c ps := RdS.mono h (fun _ _ _ => trivial)
theorem getG_mem {gs : List Cg} {i : Nat} (h : i < gs.length) : gs.getD i Cg.zero ∈ gs := by
  have : gs.getD i Cg.zero = gs[i] := by simp [List.getD, List.getElem?_eq_getElem h]
  rw [this]; exact List.getElem_mem h

section
variable {H : Type} {enc : TypeId × Value → H} {P : Program} {w : World} {base : Nat} {spare : Nat → Bool} {held : Bool}
theorem list3 {α : Type} {l : List α} (h : l.length = 3) : ∃ x y z, l = [x, y, z] := by
  match l, h with
  | [x, y, z], _ => exact ⟨x, y, z, rfl⟩
theorem list4 {α : Type} {l : List α} (h : l.length = 4) : ∃ x y z t, l = [x, y, z, t] := by
  match l, h with
  | [x, y, z, t], _ => exact ⟨x, y, z, t, rfl⟩
theorem open_part {t e : TypeId} {fs : Array Field} {fuel : Nat} {cs : List Value} {x : DataW H × List MemPlace} (ht : P.underlying t = some (.struct fs)) (hfs : fs.toList.map (fun f => (f.offset, f.type)) = [(0, e), (1, e), (2, e)])
    (he : P.underlying e = some (.int .i64)) (ce : P.cellsOf e = 1) (ct : P.cellsOf t = 3) (h : DataW.trod enc P w base spare held fuel t cs = some x) : ∃ p : Pt, cs = p.cs ∧ p.Ok := by
  have hf : ∀ i : Nat, (fs[i]?).map (fun f : Field => (f.offset, f.type)) = ([(0, e), (1, e), (2, e)] : List (Nat × TypeId))[i]? := fun i => by
    rw [← hfs, List.getElem?_map, Array.getElem?_toList]
  obtain ⟨v0, v1, v2, rfl⟩ := list3 ((trod_struct_len ht h).trans ct)
  obtain ⟨z0, e0, w0⟩ := open_field_int ht h 0 0 (hf 0) he ce
  obtain ⟨z1, e1, w1⟩ := open_field_int ht h 1 1 (hf 1) he ce
  obtain ⟨z2, e2, w2⟩ := open_field_int ht h 2 2 (hf 2) he ce
  simp at e0 e1 e2
  subst e0 e1 e2
  exact ⟨⟨z0, z1, z2⟩, rfl, w64_of w0, w64_of w1, w64_of w2⟩
theorem open_parts {t e q : TypeId} {fs : Array Field} {fuel : Nat} {a : Option Addr} {len cap : Nat} {x : DataW H × List MemPlace} (ht : P.underlying t = some (.slice e)) (he : P.underlying e = some (.struct fs)) (hfs : fs.toList.map (fun f => (f.offset, f.type)) = [(0, q), (1, q), (2, q)])
    (hq : P.underlying q = some (.int .i64)) (cq : P.cellsOf q = 1) (ce : P.cellsOf e = 3)
    (h : DataW.trod enc P w base spare held fuel t [.slice a len cap] = some x) : ∃ ps, RdP (fun i => i < w.heap.size) w (.slice a len cap) ps ∧ ∀ p ∈ ps, Pt.Ok p :=
  open_sliceS (f := Pt.cs) Pt.zero Pt.cs_length (by omega) ht ce (fun _ _ _ h' => open_part he hfs hq cq ce h') h
/-- a configuration by value -/
theorem open_config {t s e q : TypeId} {fs gs : Array Field} {r : Reach} {b0 : Nat} {v : Value} {d : DataW H} {pl : List MemPlace} (ht : P.underlying t = some (.struct fs)) (hfs : fs.toList.map (fun f => (f.offset, f.type)) = [(0, q), (1, q), (2, q), (3, s)])
    (hs : P.underlying s = some (.slice e)) (he : P.underlying e = some (.struct gs)) (hgs : gs.toList.map (fun f => (f.offset, f.type)) = [(0, q), (1, q), (2, q)])
    (hq : P.underlying q = some (.int .i64)) (cq : P.cellsOf q = 1) (ce : P.cellsOf e = 3) (csl : P.cellsOf s = 1) (ct : P.cellsOf t = 4)
    (hv : Value.okWide P w r b0 t v) (h : DataW.Trod enc P w base spare held t v d pl) : ∃ fr dp se u ps, v = .agg #[.int .i64 fr, .int .i64 dp, .int .i64 se, u] ∧ W64 fr ∧ W64 dp ∧ W64 se ∧ RdP (fun i => i < w.heap.size) w u ps ∧ ∀ p ∈ ps, Pt.Ok p := by
  obtain ⟨l, rfl, hsz⟩ := okWide_struct ht hv
  obtain ⟨fuel, hf0⟩ := h
  have hf1 : DataW.trod enc P w base spare held fuel t l.toList = some (d, pl) := hf0
  have hf : ∀ i : Nat, (fs[i]?).map (fun f : Field => (f.offset, f.type)) = ([(0, q), (1, q), (2, q), (3, s)] : List (Nat × TypeId))[i]? := fun i => by
    rw [← hfs, List.getElem?_map, Array.getElem?_toList]
  obtain ⟨v0, v1, v2, v3, hl⟩ := list4 ((trod_struct_len ht hf1).trans ct)
  rw [hl] at hf1
  obtain ⟨z0, e0, w0⟩ := open_field_int ht hf1 0 0 (hf 0) hq cq
  obtain ⟨z1, e1, w1⟩ := open_field_int ht hf1 1 1 (hf 1) hq cq
  obtain ⟨z2, e2, w2⟩ := open_field_int ht hf1 2 2 (hf 2) hq cq
  obtain ⟨fuel3, x3, h3⟩ := open_field_one ht hf1 3 3 (hf 3) csl (u := v3) rfl
  simp at e0 e1 e2
  subst e0 e1 e2
  have hsl : ∃ a len cap, v3 = .slice a len cap := by
    rcases Deep.open_slice hs h3 with ⟨hcs, _⟩ | ⟨a', len', cap', m, n, D, Pl, hcs, _⟩
    · simp at hcs; exact ⟨_, _, _, hcs⟩
    · simp at hcs; exact ⟨_, _, _, hcs⟩
  obtain ⟨a, len, cap, rfl⟩ := hsl
  obtain ⟨ps, hr, hok⟩ := open_parts hs he hgs hq cq ce h3
  refine ⟨z0, z1, z2, _, ps, ?_, w64_of w0, w64_of w1, w64_of w2, hr, hok⟩
  cases l
  simp at hl
  rw [hl]
end

theorem rdG_new2 (w : World) {f0 d0 s0 f1 d1 s1 : Int} {a0 a1 : Option Addr} {n0 c0 n1 c1 : Nat} : RdG (fun i => i = w.heap.size) (w.alloc (.cells #[.int .i64 f0, .int .i64 d0, .int .i64 s0, .slice a0 n0 c0, .int .i64 f1, .int .i64 d1, .int .i64 s1, .slice a1 n1 c1] 24)) (.slice (some ⟨w.heap.size, 0, none⟩) 2 2) [⟨f0, d0, s0, .slice a0 n0 c0⟩, ⟨f1, d1, s1, .slice a1 n1 c1⟩] :=
  rdS_new (f := Cg.cs) (k := 4) w 24 [⟨f0, d0, s0, .slice a0 n0 c0⟩, ⟨f1, d1, s1, .slice a1 n1 c1⟩] Cg.cs_length (by simp [maxLen])

theorem rdG_new4 (w : World) {f0 d0 s0 f1 d1 s1 f2 d2 s2 f3 d3 s3 : Int} {a0 a1 a2 a3 : Option Addr} {n0 c0 n1 c1 n2 c2 n3 c3 : Nat} : RdG (fun i => i = w.heap.size) (w.alloc (.cells #[.int .i64 f0, .int .i64 d0, .int .i64 s0, .slice a0 n0 c0, .int .i64 f1, .int .i64 d1, .int .i64 s1, .slice a1 n1 c1, .int .i64 f2, .int .i64 d2, .int .i64 s2, .slice a2 n2 c2, .int .i64 f3, .int .i64 d3, .int .i64 s3, .slice a3 n3 c3] 24)) (.slice (some ⟨w.heap.size, 0, none⟩) 4 4) [⟨f0, d0, s0, .slice a0 n0 c0⟩, ⟨f1, d1, s1, .slice a1 n1 c1⟩, ⟨f2, d2, s2, .slice a2 n2 c2⟩, ⟨f3, d3, s3, .slice a3 n3 c3⟩] :=
  rdS_new (f := Cg.cs) (k := 4) w 24 [⟨f0, d0, s0, .slice a0 n0 c0⟩, ⟨f1, d1, s1, .slice a1 n1 c1⟩, ⟨f2, d2, s2, .slice a2 n2 c2⟩, ⟨f3, d3, s3, .slice a3 n3 c3⟩] Cg.cs_length (by simp [maxLen])

theorem rdG_new5 (w : World) {f0 d0 s0 f1 d1 s1 f2 d2 s2 f3 d3 s3 f4 d4 s4 : Int} {a0 a1 a2 a3 a4 : Option Addr} {n0 c0 n1 c1 n2 c2 n3 c3 n4 c4 : Nat} : RdG (fun i => i = w.heap.size) (w.alloc (.cells #[.int .i64 f0, .int .i64 d0, .int .i64 s0, .slice a0 n0 c0, .int .i64 f1, .int .i64 d1, .int .i64 s1, .slice a1 n1 c1, .int .i64 f2, .int .i64 d2, .int .i64 s2, .slice a2 n2 c2, .int .i64 f3, .int .i64 d3, .int .i64 s3, .slice a3 n3 c3, .int .i64 f4, .int .i64 d4, .int .i64 s4, .slice a4 n4 c4] 24)) (.slice (some ⟨w.heap.size, 0, none⟩) 5 5) [⟨f0, d0, s0, .slice a0 n0 c0⟩, ⟨f1, d1, s1, .slice a1 n1 c1⟩, ⟨f2, d2, s2, .slice a2 n2 c2⟩, ⟨f3, d3, s3, .slice a3 n3 c3⟩, ⟨f4, d4, s4, .slice a4 n4 c4⟩] :=
  rdS_new (f := Cg.cs) (k := 4) w 24 [⟨f0, d0, s0, .slice a0 n0 c0⟩, ⟨f1, d1, s1, .slice a1 n1 c1⟩, ⟨f2, d2, s2, .slice a2 n2 c2⟩, ⟨f3, d3, s3, .slice a3 n3 c3⟩, ⟨f4, d4, s4, .slice a4 n4 c4⟩] Cg.cs_length (by simp [maxLen])

end Go.Proofs.Ytfjfbcgjocpmoaa
