/-
  The walk of the document's Of. Conditions: the theorem's own.
-/
import Derived.Test.YtfpgbicikpkkiaaDoorRigD
namespace Go.Proofs.YtfpgbicikpkkiaaDoor
open Go.RowKit
set_option linter.unusedVariables false
set_option linter.unusedSimpArgs false

set_option maxHeartbeats 4000000 in
theorem rof_any (w : World) (p : Nat → Prop) (v : Value) (ns : List Nat) (h : RdV natI 0 p w v ns) (hb : ∀ x ∈ ns, x < 16) : Calls Tryd.prog 16 #[v] w fun e w' => e = .returned (.int .i64 (orL ns)) ∧ Grow w w' := by
  have hl := h.len
  unfold maxLen at hl
  have hrd := of_lit4 w 3
  have hg := (Grow.refl w).alloc (.cells #[.int .i64 1, .int .i64 2, .int .i64 4, .int .i64 8] 3)
  have h1 := h.grow hg
  have HO : Hid (orL ns < 16 ∧ ∀ x ∈ ns, x < 16) := ⟨orL_lt ns hb, hb⟩
  obtain ⟨a, c, rfl⟩ := h.shape
  clear h hb
  go_enter Tryd.func16, Tryd.ntmps16
  go_wp2
  generalize w.alloc (.cells #[.int .i64 1, .int .i64 2, .int .i64 4, .int .i64 8] 3) = W1 at *
  obtain ⟨bb, oo, e1, -, hc⟩ := hrd.addr (by decide)
  injection e1 with e1
  injection e1 with e1 e2
  subst e1 e2
  have HC : Hid (∀ j, j < 4 → W1.cell? ⟨w.heap.size, j, none⟩ = some (.int .i64 ((2 ^ j : Nat) : Int))) := fun j hj => by have := hc j hj; rw [Nat.zero_add] at this; rw [this]; exact congrArg (fun z => some (Value.int .i64 z)) (pw_at j hj)
  have HR : Hid (RdV natI 0 p W1 (.slice a ns.length c) ns ∧ Grow w W1) := ⟨h1, hg⟩
  clear hc hrd h1 hg
  go_loopg [4, 5] 4 (fun k n i wr => ∃ j : Nat, k = 4 - j ∧ j ≤ 4 ∧ n = .int .i64 ((orL ns % 2 ^ j : Nat) : Int) ∧ i = .int .i64 j ∧ Hid (Grow W1 wr))
  case atStart => exact ⟨0, rfl, Nat.zero_le _, by simp [Nat.mod_one], rfl, Grow.refl _⟩
  case round =>
    obtain ⟨j, hk, hj, rfl, rfl, HG⟩ := hrel
    obtain ⟨W2, rfl⟩ : ∃ W2, W2 = wr := ⟨_, rfl⟩
    by_cases hlt : j < 4
    · have hlt' : (j : Int) < 4 := by omega
      have HJ : Hid (j < 4 ∧ gk = 4 - j) := ⟨hlt, hk⟩
      have HL : Hid (orL ns % 2 ^ (j + 1) = orL ns % 2 ^ j + (if (orL ns).testBit j then 2 ^ j else 0)) := low_next _ HO.out.1 j hlt
      have HM : Hid (orL ns % 2 ^ j < 16 ∧ 2 ^ j < 16) := ⟨Nat.lt_of_le_of_lt (Nat.mod_le _ _) HO.out.1, by rcases (show j = 0 ∨ j = 1 ∨ j = 2 ∨ j = 3 by omega) with rfl | rfl | rfl | rfl <;> decide⟩
      generalize orL ns % 2 ^ j = n at *
      clear hk hj hlt
      go_wp2
      go_loopg [6, 7] ns.length (fun k b q wr => ∃ m : Nat, k = ns.length - m ∧ m ≤ ns.length ∧ b = .bool ((orL (ns.take m)).testBit j) ∧ q = .int .i64 m ∧ Hid (Grow W2 wr))
      case atStart => exact ⟨0, rfl, Nat.zero_le _, by simp [orL], rfl, Grow.refl _⟩
      case round =>
        obtain ⟨m, hk, hm, rfl, rfl, HG2⟩ := hrel
        by_cases hlm : m < ns.length
        · have hlm' : (m : Int) < (ns.length : Int) := by omega
          have gA : Grow W1 wr.drew := (HG.out.trans HG2.out).drew
          obtain ⟨b1, o1, e1, -, hc1⟩ := HR.out.1.addr (by omega)
          have f1 := hc1 m hlm
          have f2 := HC.out j HJ.out.1
          have q1 := getD_lt ns m HO.out.2
          have HT : Hid ((orL (ns.take (m + 1))).testBit j = ((orL (ns.take m)).testBit j || (ns.getD m 0).testBit j)) := or_bit ns j m hlm
          have HK : Hid (m < ns.length ∧ gk = ns.length - m) := ⟨hlm, hk⟩
          have hbt := fun u => rbit_any (ns.getD m 0) j _ u q1 HJ.out.1 rfl
          generalize ns.getD m 0 = y at f1 HT hbt q1
          generalize (orL (ns.take m)).testBit j = ba at *
          generalize y.testBit j = bb at HT hbt
          generalize ((2 ^ j : Nat) : Int) = pw at f2 hbt
          unfold natI at f1
          have kx : ∀ w', Grow wr.drew w' → w'.cell? ⟨b1, o1 + m, none⟩ = some (.int .i64 y) ∧ w'.cell? ⟨w.heap.size, j, none⟩ = some (.int .i64 pw) := fun w' hG => ⟨grow_cell (gA.trans hG) f1, grow_cell (gA.trans hG) f2⟩
          clear hc1 hk hlm f1 f2 hm
          subst e1
          go_wp2
          refine wp_region_sched (by kernel_rfl) [(0, false), (1, false), (2, false), (3, false), (4, false), (5, false), (6, false), (7, false), (8, true), (9, false)] (by kernel_rfl) (by kernel_rfl) rfl (fun _ _ d _ _ h => by cases d <;> exact h) ?_
          simp only [inOrder, List.filterMap_cons, List.filterMap_nil, List.getElem?_toArray, List.getElem?_cons_zero, List.getElem?_cons_succ, Option.map_some]
          repeat (first
            | (refine wpS_move rfl ?_; simp only [Act.eval, Act.put, Array.getD_eq_getD_getElem?, List.getElem?_toArray, List.getElem?_cons_zero, List.getElem?_cons_succ, Option.getD_some, List.setIfInBounds_toArray, List.set_cons_zero, List.set_cons_succ])
            | (refine wpS_assign rfl ?_; simp only [Act.eval, Act.put, Array.getD_eq_getD_getElem?, List.getElem?_toArray, List.getElem?_cons_zero, List.getElem?_cons_succ, Option.getD_some, List.setIfInBounds_toArray, List.set_cons_zero, List.set_cons_succ])
            | (refine wpS_read (v := ?_) rfl ?_ ?_; rotate_left; (focus (intro w' hG; obtain ⟨k1, k2⟩ := kx w' hG; go_simp; try (with_reducible rfl))); simp only [Act.put, List.setIfInBounds_toArray, List.set_cons_zero, List.set_cons_succ])
            | (refine wpS_skip rfl ?_; simp only [Act.put, List.setIfInBounds_toArray, List.set_cons_zero, List.set_cons_succ]))
          refine wpS_call (f := ?_) (args := ?_) (by rfl) ?_ ?_
          rotate_left 2; focus (go_simp; constructor <;> with_reducible rfl)
          refine (hbt _).mono ?_
          rintro e w1 ⟨rfl, rfl⟩
          refine ⟨_, rfl, Grow.refl _, ?_⟩
          simp only [Act.put, List.setIfInBounds_toArray, List.set_cons_zero, List.set_cons_succ]
          repeat (first
            | (refine wpS_move rfl ?_; simp only [Act.eval, Act.put, Array.getD_eq_getD_getElem?, List.getElem?_toArray, List.getElem?_cons_zero, List.getElem?_cons_succ, Option.getD_some, List.setIfInBounds_toArray, List.set_cons_zero, List.set_cons_succ])
            | (refine wpS_assign rfl ?_; simp only [Act.eval, Act.put, Array.getD_eq_getD_getElem?, List.getElem?_toArray, List.getElem?_cons_zero, List.getElem?_cons_succ, Option.getD_some, List.setIfInBounds_toArray, List.set_cons_zero, List.set_cons_succ])
            | (refine wpS_read (v := ?_) rfl ?_ ?_; rotate_left; (focus (intro w' hG; skip; go_simp; try (with_reducible rfl))); simp only [Act.put, List.setIfInBounds_toArray, List.set_cons_zero, List.set_cons_succ])
            | (refine wpS_skip rfl ?_; simp only [Act.put, List.setIfInBounds_toArray, List.set_cons_zero, List.set_cons_succ]))
          refine wpS_nil ?_
          clear kx hbt gA
          cases ba
          · go_wp2
            go_roundg (ns.length - (m + 1))
            case measure => have := HK.out; omega
            case rel => exact ⟨m + 1, rfl, HK.out.1, by rw [HT.out]; rfl, by go_num, HG2.out.drew⟩
          · go_wp2
            go_roundg (ns.length - (m + 1))
            case measure => have := HK.out; omega
            case rel => exact ⟨m + 1, rfl, HK.out.1, by rw [HT.out]; rfl, by go_num, HG2.out.drew⟩
        · obtain rfl : m = ns.length := by omega
          have f2 := grow_cell (HG.out.trans HG2.out) (HC.out j HJ.out.1)
          rw [List.take_length]
          have hll : ¬ (ns.length : Int) < (ns.length : Int) := by omega
          obtain ⟨pw, hpw⟩ : ∃ pw : Nat, pw = 2 ^ j := ⟨_, rfl⟩
          have HM2 : Hid (pw < 16 ∧ n < 16) := ⟨by have := HM.out; omega, HM.out.1⟩
          have HL2 : Hid (orL ns % 2 ^ (j + 1) = n + (if (orL ns).testBit j then pw else 0)) := by rw [hpw]; exact HL.out
          rw [← hpw] at f2
          have hw1 : IntKind.i64.wrap ((n : Int) + (pw : Int)) = ((n + pw : Nat) : Int) := by rw [IntKind.wrap_i64]; have := HM2.out; omega
          clear hpw hlm hk hm
          cases hbb : (orL ns).testBit j
          · go_wp2
            go_roundg (4 - (j + 1))
            case measure => have := HJ.out; omega
            case rel => exact ⟨j + 1, rfl, HJ.out.1, by rw [HL2.out, hbb]; simp, by go_num, HG.out.trans HG2.out⟩
          · go_wp2
            go_roundg (4 - (j + 1))
            case measure => have := HJ.out; omega
            case rel => exact ⟨j + 1, rfl, HJ.out.1, by rw [HL2.out, hbb]; simp, by go_num, HG.out.trans HG2.out⟩
    · obtain rfl : 4 = j := by omega
      have HE : Hid (orL ns % 2 ^ 4 = orL ns) := low_all _ HO.out.1
      go_wp2
      go_ret
      exact ⟨ret_int (by have := HO.out.1; omega), HR.out.2.trans HG.out⟩
end Go.Proofs.YtfpgbicikpkkiaaDoor
