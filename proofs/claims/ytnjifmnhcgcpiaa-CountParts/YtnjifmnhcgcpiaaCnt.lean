/-
  The walks of the counters' small functions: together, number, Add, Get, and the document's. Conditions: each theorem's own.
-/
import Derived.Test.YtnjifmnhcgcpiaaCntMath
import Derived.Test.YtnjifmnhcgcpiaaAround
import Derived.Test.YtnjifmnhcgcpiaaSched
import Derived.Test.YtnjifmnhcgcpiaaArr
namespace Go.Proofs.Ytnjifmnhcgcpiaa
open Go.RowKit
set_option linter.unusedVariables false
set_option linter.unusedSimpArgs false

/-- counts in a variable at block b -/
def CAt (w : World) (b : Nat) (c : C6) : Prop :=
  (w.cell? ⟨b, 0, none⟩ = some (.int .u64 c.c0) ∧ w.cell? ⟨b, 1, none⟩ = some (.int .u64 c.c1) ∧ w.cell? ⟨b, 2, none⟩ = some (.int .u64 c.c2) ∧ w.cell? ⟨b, 3, none⟩ = some (.int .u64 c.c3) ∧ w.cell? ⟨b, 4, none⟩ = some (.int .u64 c.c4) ∧ w.cell? ⟨b, 5, none⟩ = some (.int .u64 c.c5)) ∧
  (w.frozen? ⟨b, 0, none⟩ = false ∧ w.frozen? ⟨b, 1, none⟩ = false ∧ w.frozen? ⟨b, 2, none⟩ = false ∧ w.frozen? ⟨b, 3, none⟩ = false ∧ w.frozen? ⟨b, 4, none⟩ = false ∧ w.frozen? ⟨b, 5, none⟩ = false)
theorem CAt.lt {w : World} {b : Nat} {c : C6} (h : CAt w b c) : b < w.heap.size := World.block_lt_of_cell? _ _ h.1.1
theorem CAt.upd {S : Nat → Prop} {w w' : World} {b : Nat} {c : C6} (h : CAt w b c) (hu : UpdS S w w') (hb : ¬ S b) : CAt w' b c := by
  have hlt := h.lt
  obtain ⟨⟨h0, h1, h2, h3, h4, h5⟩, f0, f1, f2, f3, f4, f5⟩ := h
  refine ⟨⟨?_, ?_, ?_, ?_, ?_, ?_⟩, ?_, ?_, ?_, ?_, ?_, ?_⟩
  · rw [hu.cell (p := ⟨b, 0, none⟩) hlt hb]; exact h0
  · rw [hu.cell (p := ⟨b, 1, none⟩) hlt hb]; exact h1
  · rw [hu.cell (p := ⟨b, 2, none⟩) hlt hb]; exact h2
  · rw [hu.cell (p := ⟨b, 3, none⟩) hlt hb]; exact h3
  · rw [hu.cell (p := ⟨b, 4, none⟩) hlt hb]; exact h4
  · rw [hu.cell (p := ⟨b, 5, none⟩) hlt hb]; exact h5
  · rw [hu.frozen (p := ⟨b, 0, none⟩) hlt hb]; exact f0
  · rw [hu.frozen (p := ⟨b, 1, none⟩) hlt hb]; exact f1
  · rw [hu.frozen (p := ⟨b, 2, none⟩) hlt hb]; exact f2
  · rw [hu.frozen (p := ⟨b, 3, none⟩) hlt hb]; exact f3
  · rw [hu.frozen (p := ⟨b, 4, none⟩) hlt hb]; exact f4
  · rw [hu.frozen (p := ⟨b, 5, none⟩) hlt hb]; exact f5
theorem CAt.grow {w w' : World} {b : Nat} {c : C6} (h : CAt w b c) (hu : Grow w w') : CAt w' b c := h.upd (S := fun _ => False) hu.s (fun f => f)
theorem CAt.new (w : World) (c : C6) (t : TypeId) : CAt (w.alloc (.cells #[.int .u64 c.c0, .int .u64 c.c1, .int .u64 c.c2, .int .u64 c.c3, .int .u64 c.c4, .int .u64 c.c5] t)) w.heap.size c := by
  refine ⟨⟨?_, ?_, ?_, ?_, ?_, ?_⟩, ?_, ?_, ?_, ?_, ?_, ?_⟩ <;> simp
theorem CAt.set {w : World} {b : Nat} {c : C6} (d : C6) (h : CAt w b c) : CAt ((((((w.setCell ⟨b, 0, none⟩ (.int .u64 d.c0)).setCell ⟨b, 1, none⟩ (.int .u64 d.c1)).setCell ⟨b, 2, none⟩ (.int .u64 d.c2)).setCell ⟨b, 3, none⟩ (.int .u64 d.c3)).setCell ⟨b, 4, none⟩ (.int .u64 d.c4)).setCell ⟨b, 5, none⟩ (.int .u64 d.c5)) b d := by
  obtain ⟨⟨h0, h1, h2, h3, h4, h5⟩, f0, f1, f2, f3, f4, f5⟩ := h
  refine ⟨⟨?_, ?_, ?_, ?_, ?_, ?_⟩, ?_, ?_, ?_, ?_, ?_, ?_⟩
  · simp [World.cell?_setCell_other, World.cell?_setCell_same', h0]
  · simp [World.cell?_setCell_other, World.cell?_setCell_same', h1]
  · simp [World.cell?_setCell_other, World.cell?_setCell_same', h2]
  · simp [World.cell?_setCell_other, World.cell?_setCell_same', h3]
  · simp [World.cell?_setCell_other, World.cell?_setCell_same', h4]
  · simp [World.cell?_setCell_other, World.cell?_setCell_same', h5]
  all_goals simp only [World.frozen?_setCell]; assumption
theorem upd_six (w : World) (b : Nat) (d : C6) : UpdS (fun k => k = b) w ((((((w.setCell ⟨b, 0, none⟩ (.int .u64 d.c0)).setCell ⟨b, 1, none⟩ (.int .u64 d.c1)).setCell ⟨b, 2, none⟩ (.int .u64 d.c2)).setCell ⟨b, 3, none⟩ (.int .u64 d.c3)).setCell ⟨b, 4, none⟩ (.int .u64 d.c4)).setCell ⟨b, 5, none⟩ (.int .u64 d.c5)) :=
  (((((UpdS.setCell (fun k => k = b) ⟨b, 0, none⟩ _ w rfl).trans (UpdS.setCell (fun k => k = b) ⟨b, 1, none⟩ _ _ rfl)).trans (UpdS.setCell (fun k => k = b) ⟨b, 2, none⟩ _ _ rfl)).trans (UpdS.setCell (fun k => k = b) ⟨b, 3, none⟩ _ _ rfl)).trans (UpdS.setCell (fun k => k = b) ⟨b, 4, none⟩ _ _ rfl)).trans (UpdS.setCell (fun k => k = b) ⟨b, 5, none⟩ _ _ rfl)

theorem load_C (b : Nat) (c : C6) (w : World) (h : CAt w b c) : (loadVar 24 ⟨b, 0, none⟩).run Try.prog w = .ok (.agg #[.int .u64 c.c0, .int .u64 c.c1, .int .u64 c.c2, .int .u64 c.c3, .int .u64 c.c4, .int .u64 c.c5]) w := by
  obtain ⟨⟨h0, h1, h2, h3, h4, h5⟩, -⟩ := h
  go_simp

set_option maxHeartbeats 1000000 in
theorem ctog_any (a b : Int) (w : World) (ha : U a) (hb : U b) :
    Calls Try.prog 20 #[.int .u64 a, .int .u64 b] w fun e w' => e = .returned (.int .u64 (tog a b)) ∧ w = w' := by
  obtain ⟨ha0, ha1⟩ := ha
  obtain ⟨hb0, hb1⟩ := hb
  by_cases h : a + b ≤ 18446744073709551615
  · have ht : tog a b = a + b := by unfold tog; rw [if_pos h]
    have hw : IntKind.u64.wrap (a + b) = a + b := by rw [IntKind.wrap_u64]; omega
    have hge : a ≤ a + b := by omega
    rw [ht]
    go_enter Try.func20, Try.ntmps20
    go_wp2
    go_ret
    exact ⟨rfl, rfl⟩
  · have ht : tog a b = 18446744073709551615 := by unfold tog; rw [if_neg h]
    have hw : IntKind.u64.wrap (a + b) = a + b - 18446744073709551616 := by rw [IntKind.wrap_u64]; omega
    have hge : ¬ a ≤ a + b - 18446744073709551616 := by omega
    rw [ht]
    go_enter Try.func20, Try.ntmps20
    go_wp2
    go_ret
    exact ⟨rfl, rfl⟩

set_option maxHeartbeats 1000000 in
theorem rtog_any (a b : Int) (w : World) (ha : U a) (hb : U b) :
    Calls Try.prog 18 #[.int .u64 a, .int .u64 b] w fun e w' => e = .returned (.int .u64 (tog a b)) ∧ w = w' := by
  obtain ⟨ha0, ha1⟩ := ha
  obtain ⟨hb0, hb1⟩ := hb
  have hw0 : IntKind.u64.wrap (18446744073709551615 - b) = 18446744073709551615 - b := by rw [IntKind.wrap_u64]; omega
  by_cases h : a + b ≤ 18446744073709551615
  · have ht : tog a b = a + b := by unfold tog; rw [if_pos h]
    have hw : IntKind.u64.wrap (a + b) = a + b := by rw [IntKind.wrap_u64]; omega
    have hge : ¬ 18446744073709551615 - b < a := by omega
    rw [ht]
    go_enter Try.func18, Try.ntmps18
    go_wp2
    go_ret
    exact ⟨rfl, rfl⟩
  · have ht : tog a b = 18446744073709551615 := by unfold tog; rw [if_neg h]
    have hge : 18446744073709551615 - b < a := by omega
    rw [ht]
    go_enter Try.func18, Try.ntmps18
    go_wp2
    go_ret
    exact ⟨rfl, rfl⟩

set_option maxHeartbeats 1000000 in
theorem num_in (b j : Nat) (k : Int) (w : World) (hk : k = j) (hj : j < 6) :
    Calls Try.prog 19 #[.pointer (some ⟨b, 0, none⟩), .int .i64 k] w fun e w' => e = .returned (.pointer (some ⟨b, j, none⟩)) ∧ w = w' := by
  have hj' : j = 0 ∨ j = 1 ∨ j = 2 ∨ j = 3 ∨ j = 4 ∨ j = 5 := by omega
  rcases hj' with rfl | rfl | rfl | rfl | rfl | rfl
  all_goals
    subst hk
    clear hj
    go_enter Try.func19, Try.ntmps19
    go_wp2
    go_ret
    exact ⟨rfl, rfl⟩

set_option maxHeartbeats 1000000 in
theorem num_out (b : Nat) (k : Int) (w : World) (hk : ¬ (0 ≤ k ∧ k < 6)) :
    Calls Try.prog 19 #[.pointer (some ⟨b, 0, none⟩), .int .i64 k] w fun e w' => e = .returned (.pointer none) ∧ w = w' := by
  have h0 : (k == 0) = false := by simp; omega
  have h1 : (k == 1) = false := by simp; omega
  have h2 : (k == 2) = false := by simp; omega
  have h3 : (k == 3) = false := by simp; omega
  have h4 : (k == 4) = false := by simp; omega
  have h5 : (k == 5) = false := by simp; omega
  clear hk
  go_enter Try.func19, Try.ntmps19
  go_wp2
  go_ret
  exact ⟨rfl, rfl⟩
end Go.Proofs.Ytnjifmnhcgcpiaa
