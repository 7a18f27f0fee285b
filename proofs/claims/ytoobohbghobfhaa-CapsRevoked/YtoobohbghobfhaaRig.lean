/-
  The walks of rights' small calls: Has, Of, All, May, Needs, right. Conditions: each theorem's own.
-/
import Derived.Test.YtoobohbghobfhaaRigMath
import Derived.Test.YtoobohbghobfhaaLibV
import Derived.Test.YtoobohbghobfhaaWords
import Derived.Test.YtoobohbghobfhaaAround
import Derived.Deep.LoopGhost
namespace Go.Proofs.Ytoobohbghobfhaa
open Go.RowKit
set_option linter.unusedVariables false
set_option linter.unusedSimpArgs false

/-- the table of names lies in its variable -/
def WT (w : World) : Prop := w.cell? ⟨0, 0, none⟩ = some (.string (nm 0)) ∧ w.cell? ⟨0, 1, none⟩ = some (.string (nm 1)) ∧ w.cell? ⟨0, 2, none⟩ = some (.string (nm 2)) ∧ w.cell? ⟨0, 3, none⟩ = some (.string (nm 3))
theorem grow_cell {w w' : World} (h : Grow w w') {p : Addr} {u : Value} (hp : w.cell? p = some u) : w'.cell? p = some u := by
  rw [World.cell?_of_block (w := w) (h.block p.block (World.block_lt_of_cell? _ _ hp))]; exact hp
theorem WT.grow {w w' : World} (h : WT w) (hg : Grow w w') : WT w' := ⟨grow_cell hg h.1, grow_cell hg h.2.1, grow_cell hg h.2.2.1, grow_cell hg h.2.2.2⟩

theorem has_raw (x y : Int) (w : World) : Calls Try.prog 32 #[.int .i64 x, .int .i64 y] w fun e w' => e = .returned (.bool (bits .and .i64 x y == y)) ∧ w = w' := by
  go_enter Try.func32, Try.ntmps32
  go_wp2
  go_ret
  exact ⟨rfl, rfl⟩
theorem has_any (x y : Nat) (w : World) (hx : x < 16) (hy : y < 16) : Calls Try.prog 32 #[.int .i64 x, .int .i64 y] w fun e w' => e = .returned (.bool (hasB x y)) ∧ w = w' := by
  have h := has_raw x y w
  rw [i64_and_nat x y (by omega) (by omega)] at h
  have e : ((((x &&& y : Nat) : Int)) == (y : Int)) = hasB x y := by
    unfold hasB
    by_cases h : x &&& y = y
    · rw [h]; simp
    · rw [decide_eq_false h]
      exact beq_eq_false_iff_ne.2 (by omega)
  rw [e] at h
  exact h

set_option maxHeartbeats 1000000 in
theorem of_any (w : World) (p : Nat → Prop) (v : Value) (ns : List Nat) (h : RdV natI 0 p w v ns) (hb : ∀ x ∈ ns, x < 16) : Calls Try.prog 37 #[v] w fun e w' => e = .returned (.int .i64 (orL ns)) ∧ w = w' := by
  have hl := h.len
  unfold maxLen at hl
  have HR : Hid (RdV natI 0 p w v ns) := h
  have HB : Hid (∀ x ∈ ns, x < 16) := hb
  obtain ⟨a, c, rfl⟩ := h.shape
  clear h hb
  go_enter Try.func37, Try.ntmps37
  go_wp2
  go_loopg [3, 8] ns.length (fun k x i wr => ∃ j : Nat, k = ns.length - j ∧ j ≤ ns.length ∧ x = .int .i64 (orL (ns.take j)) ∧ i = .int .i64 j ∧ w = wr)
  case atStart => exact ⟨0, rfl, Nat.zero_le _, rfl, rfl, rfl⟩
  case round =>
    obtain ⟨j, hk, hj, rfl, rfl, rfl⟩ := hrel
    by_cases hlt : j < ns.length
    · have hlt' : (j : Int) < (ns.length : Int) := by omega
      obtain ⟨b1, o1, e1, -, hc1⟩ := HR.out.addr (by omega)
      have f1 := hc1 j hlt
      have q1 := getD_lt ns j HB.out
      have q2 := orL_take_lt ns j HB.out
      have HT : Hid (orL (ns.take (j + 1)) = orL (ns.take j) ||| ns.getD j 0) := orL_take ns j hlt
      have hor := i64_or_nat (orL (ns.take j)) (ns.getD j 0) (by omega) (by omega)
      have HJ : Hid (j < ns.length ∧ gk = ns.length - j) := ⟨hlt, hk⟩
      generalize ns.getD j 0 = y at f1 HT hor q1
      generalize orL (ns.take j) = x at HT hor q2
      unfold natI at f1
      clear hc1 hk hlt q1 q2
      subst e1
      go_wp2
      go_roundg (ns.length - (j + 1))
      case measure => have := HJ.out; omega
      case rel => exact ⟨j + 1, rfl, HJ.out.1, by rw [HT.out], by go_num, rfl⟩
    · obtain rfl : j = ns.length := by omega
      clear hlt hj hk
      go_wp2
      go_ret
      exact ⟨ret_int (by rw [List.take_length]), rfl⟩

theorem of_lit4 (w : World) (t : TypeId) : RdV natI 0 (fun i => i = w.heap.size) (w.alloc (.cells #[.int .i64 1, .int .i64 2, .int .i64 4, .int .i64 8] t)) (.slice (some ⟨w.heap.size, 0, none⟩) 4 4) [1, 2, 4, 8] :=
  ⟨_, 4, rfl, Nat.le_refl _, by decide, fun i hi => ⟨w.heap.size, 0, rfl, rfl, by
    rw [Nat.zero_add]
    refine (World.cell?_alloc_new w _ _ i).trans ?_
    rcases (show i = 0 ∨ i = 1 ∨ i = 2 ∨ i = 3 by simp at hi; omega) with rfl | rfl | rfl | rfl <;> rfl⟩⟩
theorem of_lit2 (w : World) (t : TypeId) (x y : Nat) : RdV natI 0 (fun i => i = w.heap.size) (w.alloc (.cells #[.int .i64 x, .int .i64 y] t)) (.slice (some ⟨w.heap.size, 0, none⟩) 2 2) [x, y] :=
  ⟨_, 2, rfl, Nat.le_refl _, by decide, fun i hi => ⟨w.heap.size, 0, rfl, rfl, by
    rw [Nat.zero_add]
    refine (World.cell?_alloc_new w _ _ i).trans ?_
    rcases (show i = 0 ∨ i = 1 by simp at hi; omega) with rfl | rfl <;> rfl⟩⟩

set_option maxHeartbeats 1000000 in
theorem all_any (w : World) : Calls Try.prog 27 #[] w fun e w' => e = .returned (.int .i64 15) ∧ Grow w w' := by
  go_enter Try.func27, Try.ntmps27
  go_wp2_with fail
  have h := of_any _ _ _ _ (of_lit4 w 42) (by decide)
  refine h.mono ?_
  rintro e w1 ⟨rfl, rfl⟩
  go_wp2
  go_ret
  exact ⟨rfl, (Grow.refl w).alloc _⟩

set_option maxHeartbeats 1000000 in
theorem may_any (n : Int) (w : World) (hn : (Lit.int .i64 n).wf = true) : Calls Try.prog 34 #[.int .i64 n] w fun e w' => e = .returned (.bool (decide (0 ≤ n ∧ n ≤ 15))) ∧ Grow w w' := by
  have hb := bounds_i64 hn
  have hh := fun u => has_raw 15 n u
  rw [and15] at hh
  have e : ((n % 16) == n) = decide (0 ≤ n ∧ n ≤ 15) := by
    by_cases h : 0 ≤ n ∧ n ≤ 15
    · rw [decide_eq_true h]; exact beq_iff_eq.2 (by omega)
    · rw [decide_eq_false h]; exact beq_eq_false_iff_ne.2 (by omega)
  rw [e] at hh
  clear e hb hn
  generalize decide (0 ≤ n ∧ n ≤ 15) = b at hh
  go_enter Try.func34, Try.ntmps34
  go_wp2_with fail
  refine (all_any w).mono ?_
  rintro e w1 ⟨rfl, g1⟩
  go_wp2_with fail
  refine (hh w1).mono ?_
  rintro e w2 ⟨rfl, rfl⟩
  go_wp2
  go_ret
  exact ⟨rfl, g1⟩

end Go.Proofs.Ytoobohbghobfhaa
