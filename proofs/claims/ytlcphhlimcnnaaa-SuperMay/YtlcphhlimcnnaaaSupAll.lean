/-
  Slices of superblocks. Conditions: each theorem's own.
-/
import Derived.Test.YtlcphhlimcnnaaaSup
namespace Go.Proofs.Ytlcphhlimcnnaaa
open Go.RowKit
set_option linter.unusedVariables false
set_option linter.unusedSimpArgs false

/-- a superblock, its list by its value -/
structure Sg where
  ep : Int
  fr : Int
  dp : Int
  se : Int
  v : Value
def Sg.zero : Sg := ⟨0, 0, 0, 0, .slice none 0 0⟩
def Sg.cs (c : Sg) : List Value := [.int .i64 c.ep, .int .i64 c.fr, .int .i64 c.dp, .int .i64 c.se, c.v]
theorem Sg.cs_length (c : Sg) : c.cs.length = 5 := rfl
abbrev RdQ (p : Nat → Prop) (w : World) (v : Value) (cs : List Sg) : Prop := RdS Sg.cs 5 p w v cs
/-- a superblock's cells from a place on -/
def QIn (w : World) (b o : Nat) (c : Sg) : Prop := w.cell? ⟨b, o, none⟩ = some (.int .i64 c.ep) ∧ w.cell? ⟨b, o + 1, none⟩ = some (.int .i64 c.fr) ∧ w.cell? ⟨b, o + 2, none⟩ = some (.int .i64 c.dp) ∧ w.cell? ⟨b, o + 3, none⟩ = some (.int .i64 c.se) ∧ w.cell? ⟨b, o + 4, none⟩ = some c.v
theorem QIn.up {w w' : World} {b o : Nat} {c : Sg} (h : QIn w b o c) (g : Grow w w') : QIn w' b o c := by
  have hlt : b < w.heap.size := World.block_lt_of_cell? _ _ h.1
  obtain ⟨h0, h1, h2, h3, h4⟩ := h
  refine ⟨?_, ?_, ?_, ?_, ?_⟩
  · rw [Below.cell (p := ⟨b, o, none⟩) g hlt]; exact h0
  · rw [Below.cell (p := ⟨b, o + 1, none⟩) g hlt]; exact h1
  · rw [Below.cell (p := ⟨b, o + 2, none⟩) g hlt]; exact h2
  · rw [Below.cell (p := ⟨b, o + 3, none⟩) g hlt]; exact h3
  · rw [Below.cell (p := ⟨b, o + 4, none⟩) g hlt]; exact h4
theorem rdQ_at {p : Nat → Prop} {w : World} {a : Option Addr} {n c : Nat} {gs : List Sg} (h : RdQ p w (.slice a n c) gs) {i : Nat} (hi : i < gs.length) : ∃ b o, a = some ⟨b, o, none⟩ ∧ p b ∧ b < w.heap.size ∧ QIn w b (o + i * 5) (gs.getD i Sg.zero) := by
  obtain ⟨b, o, e, hb, hlt, hc⟩ := RdS.at h Sg.cs_length Sg.zero hi
  exact ⟨b, o, e, hb, hlt, hc 0 (by omega), hc 1 (by omega), hc 2 (by omega), hc 3 (by omega), hc 4 (by omega)⟩
/-- its list reads as parts -/
def HasQ (w : World) (c : Sg) (ps : List Pt) : Prop := RdP (fun _ => True) w c.v ps
theorem HasQ.grow {w w' : World} {c : Sg} {ps : List Pt} (h : HasQ w c ps) (g : Grow w w') : HasQ w' c ps := RdS.grow h g
theorem hasQ_of {p : Nat → Prop} {w : World} {c : Sg} {ps : List Pt} (h : RdP p w c.v ps) : HasQ w c ps := RdS.mono h (fun _ _ _ => trivial)
theorem getQ_mem {gs : List Sg} {i : Nat} (h : i < gs.length) : gs.getD i Sg.zero ∈ gs := by
  have : gs.getD i Sg.zero = gs[i] := by simp [List.getD, List.getElem?_eq_getElem h]
  rw [this]; exact List.getElem_mem h

/-- a new slice of 3 superblocks -/
theorem exec_sup3 {w : World} {a : Act} {o : Oper} {x0 x1 x2 : Operand} {e0 f0 d0 s0 e1 f1 d1 s1 e2 f2 d2 s2 : Int} {a0 a1 a2 : Option Addr} {n0 c0 n1 c1 n2 c2 : Nat} (ho : o.op = .buildSlice 29 3 #[(0, x0), (1, x1), (2, x2)]) (h0 : a.eval x0 = .agg #[.int .i64 e0, .int .i64 f0, .int .i64 d0, .int .i64 s0, .slice a0 n0 c0]) (h1 : a.eval x1 = .agg #[.int .i64 e1, .int .i64 f1, .int .i64 d1, .int .i64 s1, .slice a1 n1 c1]) (h2 : a.eval x2 = .agg #[.int .i64 e2, .int .i64 f2, .int .i64 d2, .int .i64 s2, .slice a2 n2 c2]) :
    (execOp a.eval o).run Try.prog w = .ok (.value (.slice (some ⟨w.heap.size, 0, none⟩) 3 3)) (w.alloc (.cells #[.int .i64 e0, .int .i64 f0, .int .i64 d0, .int .i64 s0, .slice a0 n0 c0, .int .i64 e1, .int .i64 f1, .int .i64 d1, .int .i64 s1, .slice a1 n1 c1, .int .i64 e2, .int .i64 f2, .int .i64 d2, .int .i64 s2, .slice a2 n2 c2] 26)) := by
  generalize a.eval = ev at h0 h1 h2 ⊢
  simp only [execOp, ho, h0, h1, h2, List.mapM_cons, Array.map, Array.toList]
  go_simp
theorem rdQ_new3 (w : World) {e0 f0 d0 s0 e1 f1 d1 s1 e2 f2 d2 s2 : Int} {a0 a1 a2 : Option Addr} {n0 c0 n1 c1 n2 c2 : Nat} : RdQ (fun i => i = w.heap.size) (w.alloc (.cells #[.int .i64 e0, .int .i64 f0, .int .i64 d0, .int .i64 s0, .slice a0 n0 c0, .int .i64 e1, .int .i64 f1, .int .i64 d1, .int .i64 s1, .slice a1 n1 c1, .int .i64 e2, .int .i64 f2, .int .i64 d2, .int .i64 s2, .slice a2 n2 c2] 26)) (.slice (some ⟨w.heap.size, 0, none⟩) 3 3) [⟨e0, f0, d0, s0, .slice a0 n0 c0⟩, ⟨e1, f1, d1, s1, .slice a1 n1 c1⟩, ⟨e2, f2, d2, s2, .slice a2 n2 c2⟩] :=
  rdS_new (f := Sg.cs) (k := 5) w 26 [⟨e0, f0, d0, s0, .slice a0 n0 c0⟩, ⟨e1, f1, d1, s1, .slice a1 n1 c1⟩, ⟨e2, f2, d2, s2, .slice a2 n2 c2⟩] Sg.cs_length (by simp [maxLen])
end Go.Proofs.Ytlcphhlimcnnaaa
