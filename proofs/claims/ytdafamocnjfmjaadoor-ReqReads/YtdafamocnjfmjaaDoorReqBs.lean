/-
  Rows of rows of bytes that a law lays itself; a row cut off at a place. Conditions: each theorem's own.
-/
import Derived.Test.YtdafamocnjfmjaaDoorReqGd
import Derived.Laws.EntriesVeiled
namespace Go.Proofs.YtdafamocnjfmjaaDoor
open Go.RowKit
set_option linter.unusedVariables false
set_option linter.unusedSimpArgs false

/-- a slice by its parts -/
structure Sv where
  a : Option Addr
  n : Nat
  c : Nat
def Sv.v (x : Sv) : Value := .slice x.a x.n x.c
def Sv.zero : Sv := ⟨none, 0, 0⟩
/-- a row of them at g, each reads as bytes -/
def BsAt (w : World) (g : Nat) (L : List Sv) (m : Nat) : Prop := RdV Sv.v Sv.zero (fun i => i = g) w (.slice (some ⟨g, 0, none⟩) L.length L.length) L ∧ ∀ x ∈ L, ∃ z, Rd .u8 w.heap.size w x.v z ∧ Byte z ∧ z.length ≤ m
theorem BsAt.grow {w u : World} {g m : Nat} {L : List Sv} (h : BsAt w g L m) (k : Grow w u) : BsAt u g L m := ⟨RdV.grow h.1 k, fun x hx => by
  obtain ⟨z, hz, h2⟩ := h.2 x hx
  exact ⟨z, Rd.mono (hz.below k) k.size, h2⟩⟩
theorem BsAt.at {w : World} {g m : Nat} {L : List Sv} (h : BsAt w g L m) {j : Nat} (hj : j < L.length) : ∃ (x : Sv) (z : List Int), Rd .u8 w.heap.size w (.slice x.a x.n x.c) z ∧ Byte z ∧ z.length ≤ m ∧ ∀ u, Grow w u → u.cell? ⟨g, j, none⟩ = some (.slice x.a x.n x.c) := by
  obtain ⟨b, o, e, hb, hc⟩ := h.1.addr (by omega)
  injection e with e
  injection e with e1 e2
  subst e1 e2
  have hm : L.getD j Sv.zero ∈ L := by
    rw [List.getD, List.getElem?_eq_getElem hj]
    exact List.getElem_mem hj
  obtain ⟨z, hz, h2, h3⟩ := h.2 _ hm
  refine ⟨L.getD j Sv.zero, z, hz, h2, h3, fun u k => ?_⟩
  have h1 := hc j hj
  rw [Nat.zero_add] at h1
  rw [Below.cell (p := ⟨g, j, none⟩) k (World.block_lt_of_cell? _ _ h1)]; exact h1
set_option maxHeartbeats 1000000 in
/-- a new row of five -/
theorem exec_bs5 {w : World} {a : Act} {o : Oper} {x0 x1 x2 x3 x4 : Operand} (q0 q1 q2 q3 q4 : Sv) (ho : o.op = .buildSlice 44 5 #[(0, x0), (1, x1), (2, x2), (3, x3), (4, x4)])
    (h0 : a.eval x0 = .slice q0.a q0.n q0.c) (h1 : a.eval x1 = .slice q1.a q1.n q1.c) (h2 : a.eval x2 = .slice q2.a q2.n q2.c) (h3 : a.eval x3 = .slice q3.a q3.n q3.c) (h4 : a.eval x4 = .slice q4.a q4.n q4.c) :
    (execOp a.eval o).run Tryd.prog w = .ok (.value (.slice (some ⟨w.heap.size, 0, none⟩) 5 5)) (w.alloc (.cells ([q0, q1, q2, q3, q4].map Sv.v).toArray 22)) := by
  show _ = Result.ok _ (w.alloc (.cells #[.slice q0.a q0.n q0.c, .slice q1.a q1.n q1.c, .slice q2.a q2.n q2.c, .slice q3.a q3.n q3.c, .slice q4.a q4.n q4.c] 22))
  generalize a.eval = ev at h0 h1 h2 h3 h4 ⊢
  simp only [execOp, ho, h0, h1, h2, h3, h4, List.mapM_cons, Array.map, Array.toList]
  go_simp
theorem bs_new (w : World) (L : List Sv) (m : Nat) (hl : L.length ≤ 1000) (h : ∀ x ∈ L, ∃ z, Rd .u8 w.heap.size w x.v z ∧ Byte z ∧ z.length ≤ m) : BsAt (w.alloc (.cells (L.map Sv.v).toArray 22)) w.heap.size L m :=
  ⟨⟨_, _, rfl, Nat.le_refl _, by simp only [maxLen]; omega, fun i hi => ⟨w.heap.size, 0, rfl, rfl, by
    rw [Nat.zero_add]
    refine (World.cell?_alloc_new w _ _ i).trans ?_
    rw [List.getElem?_toArray, List.getElem?_map, List.getElem?_eq_getElem hi, List.getD, List.getElem?_eq_getElem hi]
    rfl⟩⟩, fun x hx => by
    obtain ⟨z, hz, h2⟩ := h x hx
    exact ⟨z, Rd.mono (hz.below ((Grow.refl w).alloc _)) ((Grow.refl w).alloc _).size, h2⟩⟩
theorem slice_toB {B : Nat} {w : World} {a : Option Addr} {n c : Nat} {zs : List Int} (h : Rd .u8 B w (.slice a n c) zs) (q : Nat) (hq : q ≤ zs.length) :
    (∀ u, (Instr.slice 22 (.slice a n c) none (some (.int .i64 q)) none).run Tryd.prog u = .ok (.slice a q c) u) ∧ Rd .u8 B w (.slice a q c) (zs.take q) := by
  obtain ⟨e1, e2, e3⟩ := h.caps
  refine ⟨fun u => ?_, h.take q hq⟩
  have h0 : (0 : Int) ≤ (q : Int) := by omega
  have h1 : (q : Int) ≤ (c : Int) := by omega
  have h2 := run_slice_h (P := Tryd.prog) u 22 a n c (by kernel_rfl) .i64 (q : Int) h0 h1
  rw [h2]
  clear h2 h e1
  by_cases hc : c = 0
  · go_simp
  · go_simp
end Go.Proofs.YtdafamocnjfmjaaDoor
