/-
  The walks of the configuration's small functions, and of the document's. Conditions: each theorem's own.
-/
import Derived.Test.YtfjfbcgjocpmoaaCfgMath
import Derived.Test.YtfjfbcgjocpmoaaLibS
import Derived.Test.YtfjfbcgjocpmoaaAround
import Derived.Test.YtfjfbcgjocpmoaaArr
namespace Go.Proofs.Ytfjfbcgjocpmoaa
open Go.RowKit
set_option linter.unusedVariables false
set_option linter.unusedSimpArgs false

abbrev RdP (p : Nat → Prop) (w : World) (v : Value) (ps : List Pt) : Prop := RdS Pt.cs 3 p w v ps
abbrev OwnP (p : Nat → Prop) (w : World) (v : Value) (ps : List Pt) : Prop := OwnS Pt.cs 3 p w v ps
/-- a part's cells from a place on -/
def PIn (w : World) (b o : Nat) (p : Pt) : Prop := w.cell? ⟨b, o, none⟩ = some (.int .i64 p.q) ∧ w.cell? ⟨b, o + 1, none⟩ = some (.int .i64 p.b) ∧ w.cell? ⟨b, o + 2, none⟩ = some (.int .i64 p.g)
theorem PIn.upd {S : Nat → Prop} {w w' : World} {b o : Nat} {p : Pt} (h : PIn w b o p) (hu : UpdS S w w') (hb : ¬ S b) : PIn w' b o p := by
  have hlt : b < w.heap.size := World.block_lt_of_cell? _ _ h.1
  obtain ⟨h0, h1, h2⟩ := h
  refine ⟨?_, ?_, ?_⟩
  · rw [hu.cell (p := ⟨b, o, none⟩) hlt hb]; exact h0
  · rw [hu.cell (p := ⟨b, o + 1, none⟩) hlt hb]; exact h1
  · rw [hu.cell (p := ⟨b, o + 2, none⟩) hlt hb]; exact h2
theorem PIn.grow {w w' : World} {b o : Nat} {p : Pt} (h : PIn w b o p) (hu : Grow w w') : PIn w' b o p := h.upd (S := fun _ => False) hu.s (fun f => f)
theorem rdP_at {p : Nat → Prop} {w : World} {a : Option Addr} {n c : Nat} {ps : List Pt} (h : RdP p w (.slice a n c) ps) {i : Nat} (hi : i < ps.length) : ∃ b o, a = some ⟨b, o, none⟩ ∧ p b ∧ b < w.heap.size ∧ PIn w b (o + i * 3) (ps.getD i Pt.zero) := by
  obtain ⟨b, o, e, hb, hlt, hc⟩ := RdS.at h Pt.cs_length Pt.zero hi
  exact ⟨b, o, e, hb, hlt, hc 0 (by omega), hc 1 (by omega), hc 2 (by omega)⟩

set_option maxHeartbeats 1000000 in
theorem has_any (p : Pt) (s : Int) (w : World) (h0 : 0 ≤ p.g) (h1 : p.g ≤ 1000) (h2 : 0 ≤ p.b) (h3 : p.b ≤ 100000) : Calls Try.prog 20 #[.agg #[.int .i64 p.q, .int .i64 p.b, .int .i64 p.g], .int .i64 s] w fun e w' => e = .returned (.bool (hasB p s)) ∧ Grow w w' := by
  have hw : IntKind.i64.wrap (2 * p.g) = 2 * p.g := by rw [IntKind.wrap_i64]; omega
  have hw2 : IntKind.i64.wrap (p.b + 2 * p.g) = p.b + 2 * p.g := by rw [IntKind.wrap_i64]; omega
  by_cases hs : p.b ≤ s
  · by_cases hs2 : s < p.b + 2 * p.g
    · have e : hasB p s = true := by simp [hasB, hs, hs2]
      rw [e]
      go_enter Try.func20, Try.ntmps20
      go_wp2
      go_ret
      exact ⟨rfl, (Grow.refl w).alloc _⟩
    · have e : hasB p s = false := by simp [hasB, hs2]
      rw [e]
      go_enter Try.func20, Try.ntmps20
      go_wp2
      go_ret
      exact ⟨rfl, (Grow.refl w).alloc _⟩
  · have e : hasB p s = false := by simp [hasB, hs]
    rw [e]
    go_enter Try.func20, Try.ntmps20
    go_wp2
    go_ret
    exact ⟨rfl, (Grow.refl w).alloc _⟩
end Go.Proofs.Ytfjfbcgjocpmoaa
