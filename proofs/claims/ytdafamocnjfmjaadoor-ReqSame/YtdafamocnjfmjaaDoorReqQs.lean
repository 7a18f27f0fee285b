/-
  Slices of requests that a law lays itself. Conditions: each theorem's own.
-/
import Derived.Test.YtdafamocnjfmjaaDoorReqGd
import Derived.Laws.EntriesVeiled
namespace Go.Proofs.YtdafamocnjfmjaaDoor
open Go.RowKit
set_option linter.unusedVariables false
set_option linter.unusedSimpArgs false

/-- a request by its cells -/
structure RqV where
  o : Int
  p : Int
  f : Int
  l : Int
  a : Option Addr
  n : Nat
  c : Nat
def RqV.cs (x : RqV) : List Value := [.int .i64 x.o, .int .i64 x.p, .int .i64 x.f, .int .i64 x.l, .slice x.a x.n x.c]
def RqV.zero : RqV := ⟨0, 0, 0, 0, none, 0, 0⟩
theorem RqV.cs_length (x : RqV) : x.cs.length = 5 := rfl
/-- its Data reads as z; its numbers are such as an int has -/
def RqI (w : World) (m : Nat) (x : RqV) (z : List Int) : Prop := Rd .u8 w.heap.size w (.slice x.a x.n x.c) z ∧ (Lit.int .i64 x.f).wf = true ∧ (Lit.int .i64 x.l).wf = true ∧ Oct z ∧ z.length ≤ m
theorem RqI.grow {w u : World} {m : Nat} {x : RqV} {z : List Int} (h : RqI w m x z) (g : Grow w u) : RqI u m x z := ⟨Rd.mono (h.1.below g) g.size, h.2⟩
/-- a row of them at g -/
def QsAt (w : World) (g : Nat) (L : List RqV) (m : Nat) : Prop := RdS RqV.cs 5 (fun i => i = g) w (.slice (some ⟨g, 0, none⟩) L.length L.length) L ∧ ∀ x ∈ L, ∃ z, RqI w m x z
theorem QsAt.grow {w u : World} {g m : Nat} {L : List RqV} (h : QsAt w g L m) (k : Grow w u) : QsAt u g L m := ⟨RdS.grow h.1 k, fun x hx => by
  obtain ⟨z, hz⟩ := h.2 x hx
  exact ⟨z, hz.grow k⟩⟩
theorem QsAt.at {w : World} {g m : Nat} {L : List RqV} (h : QsAt w g L m) {j : Nat} (hj : j < L.length) : ∃ x z, RqI w m x z ∧ x = L.getD j RqV.zero ∧
    ∀ u, Grow w u → u.cell? ⟨g, j * 5, none⟩ = some (.int .i64 x.o) ∧ u.cell? ⟨g, j * 5 + 1, none⟩ = some (.int .i64 x.p) ∧ u.cell? ⟨g, j * 5 + 2, none⟩ = some (.int .i64 x.f) ∧ u.cell? ⟨g, j * 5 + 3, none⟩ = some (.int .i64 x.l) ∧ u.cell? ⟨g, j * 5 + 4, none⟩ = some (.slice x.a x.n x.c) := by
  obtain ⟨b, o, e, hb, hlt, hc⟩ := h.1.at RqV.cs_length RqV.zero hj
  injection e with e
  injection e with e1 e2
  subst e1 e2
  have hm : L.getD j RqV.zero ∈ L := by
    rw [List.getD, List.getElem?_eq_getElem hj]
    exact List.getElem_mem hj
  obtain ⟨z, hz⟩ := h.2 _ hm
  refine ⟨L.getD j RqV.zero, z, hz, rfl, fun u k => ?_⟩
  have hh : ∀ i, i < 5 → u.cell? ⟨g, j * 5 + i, none⟩ = (RqV.cs (L.getD j RqV.zero))[i]? := fun i hi => by
    have h1 := hc i hi
    rw [Nat.zero_add] at h1
    rw [Below.cell (p := ⟨g, j * 5 + i, none⟩) k hlt]; exact h1
  exact ⟨hh 0 (by omega), hh 1 (by omega), hh 2 (by omega), hh 3 (by omega), hh 4 (by omega)⟩

/-- a new row of three -/
theorem exec_rq3 {w : World} {a : Act} {o : Oper} {x0 x1 x2 : Operand} {e0 f0 d0 s0 e1 f1 d1 s1 e2 f2 d2 s2 : Int} {a0 a1 a2 : Option Addr} {n0 c0 n1 c1 n2 c2 : Nat} (ho : o.op = .buildSlice 29 3 #[(0, x0), (1, x1), (2, x2)]) (h0 : a.eval x0 = .agg #[.int .i64 e0, .int .i64 f0, .int .i64 d0, .int .i64 s0, .slice a0 n0 c0]) (h1 : a.eval x1 = .agg #[.int .i64 e1, .int .i64 f1, .int .i64 d1, .int .i64 s1, .slice a1 n1 c1]) (h2 : a.eval x2 = .agg #[.int .i64 e2, .int .i64 f2, .int .i64 d2, .int .i64 s2, .slice a2 n2 c2]) :
    (execOp a.eval o).run Tryd.prog w = .ok (.value (.slice (some ⟨w.heap.size, 0, none⟩) 3 3)) (w.alloc (.cells ([⟨e0, f0, d0, s0, a0, n0, c0⟩, ⟨e1, f1, d1, s1, a1, n1, c1⟩, ⟨e2, f2, d2, s2, a2, n2, c2⟩].flatMap RqV.cs).toArray 24)) := by
  show _ = Result.ok _ (w.alloc (.cells #[.int .i64 e0, .int .i64 f0, .int .i64 d0, .int .i64 s0, .slice a0 n0 c0, .int .i64 e1, .int .i64 f1, .int .i64 d1, .int .i64 s1, .slice a1 n1 c1, .int .i64 e2, .int .i64 f2, .int .i64 d2, .int .i64 s2, .slice a2 n2 c2] 24))
  generalize a.eval = ev at h0 h1 h2 ⊢
  simp only [execOp, ho, h0, h1, h2, List.mapM_cons, Array.map, Array.toList]
  go_simp
set_option maxRecDepth 8000 in
set_option maxHeartbeats 1000000 in
/-- a new row of seven -/
theorem exec_rq7 {w : World} {a : Act} {o : Oper} {x0 x1 x2 x3 x4 x5 x6 : Operand} (q0 q1 q2 q3 q4 q5 q6 : RqV) (ho : o.op = .buildSlice 29 7 #[(0, x0), (1, x1), (2, x2), (3, x3), (4, x4), (5, x5), (6, x6)])
    (h0 : a.eval x0 = .agg #[.int .i64 q0.o, .int .i64 q0.p, .int .i64 q0.f, .int .i64 q0.l, .slice q0.a q0.n q0.c]) (h1 : a.eval x1 = .agg #[.int .i64 q1.o, .int .i64 q1.p, .int .i64 q1.f, .int .i64 q1.l, .slice q1.a q1.n q1.c]) (h2 : a.eval x2 = .agg #[.int .i64 q2.o, .int .i64 q2.p, .int .i64 q2.f, .int .i64 q2.l, .slice q2.a q2.n q2.c]) (h3 : a.eval x3 = .agg #[.int .i64 q3.o, .int .i64 q3.p, .int .i64 q3.f, .int .i64 q3.l, .slice q3.a q3.n q3.c])
    (h4 : a.eval x4 = .agg #[.int .i64 q4.o, .int .i64 q4.p, .int .i64 q4.f, .int .i64 q4.l, .slice q4.a q4.n q4.c]) (h5 : a.eval x5 = .agg #[.int .i64 q5.o, .int .i64 q5.p, .int .i64 q5.f, .int .i64 q5.l, .slice q5.a q5.n q5.c]) (h6 : a.eval x6 = .agg #[.int .i64 q6.o, .int .i64 q6.p, .int .i64 q6.f, .int .i64 q6.l, .slice q6.a q6.n q6.c]) :
    (execOp a.eval o).run Tryd.prog w = .ok (.value (.slice (some ⟨w.heap.size, 0, none⟩) 7 7)) (w.alloc (.cells ([q0, q1, q2, q3, q4, q5, q6].flatMap RqV.cs).toArray 24)) := by
  show _ = Result.ok _ (w.alloc (.cells #[.int .i64 q0.o, .int .i64 q0.p, .int .i64 q0.f, .int .i64 q0.l, .slice q0.a q0.n q0.c, .int .i64 q1.o, .int .i64 q1.p, .int .i64 q1.f, .int .i64 q1.l, .slice q1.a q1.n q1.c, .int .i64 q2.o, .int .i64 q2.p, .int .i64 q2.f, .int .i64 q2.l, .slice q2.a q2.n q2.c, .int .i64 q3.o, .int .i64 q3.p, .int .i64 q3.f, .int .i64 q3.l, .slice q3.a q3.n q3.c, .int .i64 q4.o, .int .i64 q4.p, .int .i64 q4.f, .int .i64 q4.l, .slice q4.a q4.n q4.c, .int .i64 q5.o, .int .i64 q5.p, .int .i64 q5.f, .int .i64 q5.l, .slice q5.a q5.n q5.c, .int .i64 q6.o, .int .i64 q6.p, .int .i64 q6.f, .int .i64 q6.l, .slice q6.a q6.n q6.c] 24))
  generalize a.eval = ev at h0 h1 h2 h3 h4 h5 h6 ⊢
  simp only [execOp, ho, h0, h1, h2, h3, h4, h5, h6, List.mapM_cons, Array.map, Array.toList]
  go_simp
theorem qs_new (w : World) (L : List RqV) (m : Nat) (hl : L.length ≤ 1000) (h : ∀ x ∈ L, ∃ z, RqI w m x z) : QsAt (w.alloc (.cells (L.flatMap RqV.cs).toArray 24)) w.heap.size L m :=
  ⟨rdS_new w _ L RqV.cs_length (by simp only [maxLen]; omega), fun x hx => by
    obtain ⟨z, hz⟩ := h x hx
    exact ⟨z, hz.grow ((Grow.refl w).alloc _)⟩⟩
end Go.Proofs.YtdafamocnjfmjaaDoor
