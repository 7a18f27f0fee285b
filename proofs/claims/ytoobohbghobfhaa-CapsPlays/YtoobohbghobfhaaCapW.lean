/-
  A table whose capabilities stand in a list beside it, and what a mint adds. Conditions: each theorem's own.
-/
import Derived.Test.YtoobohbghobfhaaCapL
namespace Go.Proofs.Ytoobohbghobfhaa
open Go.RowKit
set_option linter.unusedVariables false
set_option linter.unusedSimpArgs false

/-- all that are good: the root and those of L -/
def LwP (S : List Sl) (k n : Int) (L : List Cp) : Prop :=
  RootOk S k n ∧ (allS S).length = L.length + 1 ∧ n = (L.length : Int) + 1 ∧ (∀ c, goodB S c = true ↔ (c = rootC k ∨ c ∈ L)) ∧ ∀ c ∈ L, 1 ≤ c.s
theorem LwP.new {k : Int} (h1 : 1 ≤ k) (h2 : k ≤ 1073741824) : LwP (newS k) k 1 [] := by
  have hR := newS_root h1 h2
  refine ⟨hR, newS_len k h1, rfl, fun c => ⟨fun h => .inl (newS_good h1 h2 h), fun h => ?_⟩, fun c hc => by cases hc⟩
  rcases h with rfl | h
  · exact hR.good
  · cases h
theorem LwP.mint {S : List Sl} {k n : Int} {L : List Cp} (h : LwP S k n L) (hl : L.length < 7) {r : Nat} (hr : r < 16) : LwP (minted S k n r) k (n + 1) (L ++ [⟨roomN S, k * 1048576 + n⟩]) := by
  obtain ⟨h1, h2, h3, h4, h5⟩ := h
  have h8 : (allS S).length < 8 := by omega
  obtain ⟨m1, m2⟩ := h1.mint h8 (by omega) hr
  refine ⟨m1, by rw [m2, h2, List.length_append]; rfl, by rw [List.length_append, h3]; simp, fun c => ?_, fun c hc => ?_⟩
  · rw [h1.mint_good h8 r c, h4 c, List.mem_append, List.mem_singleton]
    constructor
    · rintro ((h | h) | h)
      · exact .inl h
      · exact .inr (.inl h)
      · exact .inr (.inr h)
    · rintro (h | h | h)
      · exact .inl (.inl h)
      · exact .inl (.inr h)
      · exact .inr h
  · rcases List.mem_append.1 hc with h | h
    · exact h5 c h
    · rw [List.mem_singleton.1 h]
      have := (h1.room h8).2
      show (1 : Int) ≤ (roomN S : Int)
      omega
theorem LwP.lt {S : List Sl} {k n : Int} {L : List Cp} (h : LwP S k n L) (hl : L.length < 7) : (allS S).length < 8 ∧ n < 1048576 := by
  obtain ⟨h1, h2, h3, h4, h5⟩ := h
  exact ⟨by omega, by omega⟩
/-- the table and the list in memory -/
def LwM (w wr : World) (b : Nat) (S : List Sl) (k n : Int) (v : Value) (M : List Cp) : Prop :=
  TbAt wr b S k n ∧ OwnS Cp.cs 2 (fun i => w.heap.size ≤ i ∧ i ≠ b) wr v M ∧ Grow w wr ∧ w.heap.size ≤ b
theorem LwM.grow {w wr w2 : World} {b : Nat} {S : List Sl} {k n : Int} {v : Value} {M : List Cp} (h : LwM w wr b S k n v M) (g : Grow wr w2) : LwM w w2 b S k n v M :=
  ⟨h.1.grow g, h.2.1.grow g, h.2.2.1.trans g, h.2.2.2⟩
theorem LwM.turn {w wr w2 : World} {b : Nat} {S S' : List Sl} {k n n' : Int} {v : Value} {M : List Cp} (h : LwM w wr b S k n v M) (t : TbAt w2 b S' k n') (u : UpdS (fun x => x = b) wr w2) : LwM w w2 b S' k n' v M :=
  ⟨t, h.2.1.upd u (fun i _ hi => hi.2), UpdS.new h.2.2.1 u (fun i hi => by have := h.2.2.2; omega), h.2.2.2⟩
/-- a variable beside them -/
theorem LwM.var {w wr : World} {b : Nat} {S : List Sl} {k n : Int} {v : Value} {M : List Cp} (h : LwM w wr b S k n v M) (x y : Int) : VarAt (wr.alloc (.cells #[.int .i64 x, .int .i64 y] 33)) wr.heap.size [.int .i64 x, .int .i64 y] ∧ LwM w (wr.alloc (.cells #[.int .i64 x, .int .i64 y] 33)) b S k n v M ∧ b < wr.heap.size :=
  ⟨VarAt.new wr [.int .i64 x, .int .i64 y] _, h.grow ((Grow.refl wr).alloc _), h.1.lt⟩
/-- one more in the list: where it is laid, and what an append leaves -/
theorem LwM.app {w wr w' : World} {b : Nat} {S : List Sl} {k n : Int} {v v' : Value} {M M' : List Cp} {x y : Int} (h : LwM w wr b S k n v M)
    (ho : OwnS Cp.cs 2 (fun i => (w.heap.size ≤ i ∧ ¬ i = b) ∨ i = wr.heap.size + 1) w' v' M') (hu : UpdS (fun i => w.heap.size ≤ i ∧ ¬ i = b) (wr.alloc (.cells #[.int .i64 x, .int .i64 y] 33)) w') : LwM w w' b S k n v' M' := by
  have h0 := h.grow ((Grow.refl wr).alloc (.cells #[.int .i64 x, .int .i64 y] 33))
  have hs := h.2.2.1.size
  have hb := h.1.lt
  exact ⟨h0.1.upd hu (fun hi => hi.2 rfl), ho.mono (fun i _ hi => hi.elim (fun h => h) (fun e => ⟨by omega, by omega⟩)), UpdS.new h0.2.2.1 hu (fun i hi => hi.1), h0.2.2.2⟩
theorem full_no {S : List Sl} (hS : S.length = 8) (hl : (allS S).length = 8) : ∀ i, i < 8 → (S.getD i Sl.zero).emp = false := fun i hi => by
  have := List.length_filter_eq_length_iff.1 (show (S.filter fun x => !x.emp).length = S.length by rw [hS]; exact hl) _ (at_mem (show i < S.length by omega))
  simpa using this
/-- behind one that is cleared, of a table that was full, its slot is the one that is empty -/
theorem room_cleared {S : List Sl} (hS : S.length = 8) (hl : (allS S).length = 8) {m : Nat} (hm : m < 8) : roomN (S.set m Sl.zero) = m :=
  room_at (by rw [List.length_set]; exact hS) hm (by rw [sl_set_eq _ (by omega)]; exact emp_zero) (fun i hi => by rw [sl_set_ne _ (by omega)]; exact full_no hS hl i (by omega))
theorem cp_at {L : List Cp} {i : Nat} (h : i < L.length) : L.getD i Cp.zero ∈ L := by
  have : L.getD i Cp.zero = L[i] := by simp [List.getD, List.getElem?_eq_getElem h]
  rw [this]; exact List.getElem_mem h
theorem rdC_at {p : Nat → Prop} {w : World} {a : Option Addr} {n c : Nat} {zs : List Cp} (h : RdS Cp.cs 2 p w (.slice a n c) zs) {i : Nat} (hi : i < zs.length) : ∃ b o, a = some ⟨b, o, none⟩ ∧ w.cell? ⟨b, o + i * 2, none⟩ = some (.int .i64 (zs.getD i Cp.zero).s) ∧ w.cell? ⟨b, o + i * 2 + 1, none⟩ = some (.int .i64 (zs.getD i Cp.zero).g) := by
  obtain ⟨b, o, e, hp, hb, hc⟩ := h.at cpk Cp.zero hi
  exact ⟨b, o, e, hc 0 (by omega), hc 1 (by omega)⟩
end Go.Proofs.Ytoobohbghobfhaa
