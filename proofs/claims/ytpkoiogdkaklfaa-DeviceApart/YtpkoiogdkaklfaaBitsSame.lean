/-
  The walks of the document's Same, and of the example. Conditions: each theorem's own.
-/
import Derived.Test.YtpkoiogdkaklfaaBitsRef
import Derived.Deep.LoopGhost
namespace Go.Proofs.Ytpkoiogdkaklfaa
open Go.RowKit
set_option linter.unusedVariables false
set_option linter.unusedSimpArgs false

theorem take_snocB (zs : List Bool) (j : Nat) (h : j < zs.length) : zs.take (j + 1) = zs.take j ++ [zs.getD j false] := by
  rw [List.take_succ_eq_append_getElem h]
  simp [List.getD, List.getElem?_eq_getElem h]

set_option maxHeartbeats 1000000 in
theorem bsame_any (av bv : Value) (xs ys : List Bool) (p q : Nat → Prop) (w : World) (ha : RdV Value.bool false p w av xs) (hb : RdV Value.bool false q w bv ys) :
    Calls Try.prog 35 #[av, bv] w fun e w' => e = .returned (.bool (decide (xs = ys))) ∧ Grow w w' := by
  have la := ha.len
  have lb := hb.len
  unfold maxLen at la lb
  have HA : Hid (RdV Value.bool false p w av xs) := ha
  have HB : Hid (RdV Value.bool false q w bv ys) := hb
  obtain ⟨a1, c1, rfl⟩ := ha.shape
  obtain ⟨a2, c2, rfl⟩ := hb.shape
  clear ha hb
  by_cases hl : xs.length = ys.length
  · have hl' : (xs.length : Int) = (ys.length : Int) := by omega
    go_enter Try.func35, Try.ntmps35
    go_wp2
    go_loopg [5] xs.length (fun k i wr => ∃ j : Nat, k = xs.length - j ∧ j ≤ xs.length ∧ i = .int .i64 j ∧ Hid (xs.take j = ys.take j) ∧ Grow w wr)
    case atStart => exact ⟨0, rfl, Nat.zero_le _, rfl, by simp [Hid], Grow.refl _⟩
    case round =>
      obtain ⟨j, hk, hj, rfl, HE, hg⟩ := hrel
      by_cases hlt : j < xs.length
      · have hlt' : (j : Int) < (xs.length : Int) := by omega
        have hlt2 : (j : Int) < (ys.length : Int) := by omega
        have hja : j < xs.length := hlt
        obtain ⟨b1, o1, e1, -, hc1⟩ := (HA.out.grow hg).addr (by omega)
        obtain ⟨b2, o2, e2, -, hc2⟩ := (HB.out.grow hg).addr (by omega)
        have f1 := hc1 j hlt
        have f2 := hc2 j (by omega)
        clear hc1 hc2
        have hs1 := take_snocB xs j hlt
        have hs2 := take_snocB ys j (by omega)
        have HT : Hid (xs.take (j + 1) = xs.take j ++ [xs.getD j false] ∧ ys.take (j + 1) = ys.take j ++ [ys.getD j false]) := ⟨hs1, hs2⟩
        clear hs1 hs2
        have hne : ∀ x y : Bool, x ≠ y → xs.getD j false = x → ys.getD j false = y → xs ≠ ys := fun x y h1 h2 h3 h4 => h1 (by rw [← h2, ← h3, h4])
        generalize xs.getD j false = x at f1 HT hne
        generalize ys.getD j false = y at f2 HT hne
        clear hlt
        have HJ : Hid (j < xs.length) := hja
        clear hja
        have HN := hne x y
        clear hne
        subst e1 e2
        by_cases hxy : x = y
        · subst hxy
          clear HN
          go_wp2
          go_region
          all_goals
            go_wp2
            go_roundg (xs.length - (j + 1))
            case measure => have := HJ.out; omega
            case rel =>
              refine ⟨j + 1, rfl, HJ.out, by go_num, ?_, hg.drew⟩
              show xs.take (j + 1) = ys.take (j + 1)
              rw [HT.out.1, HT.out.2, HE.out]
        · have hns : xs ≠ ys := HN hxy rfl rfl
          have hd : decide (xs = ys) = false := decide_eq_false hns
          clear HN hns
          have hxy2 : (x == y) = false := by simpa using hxy
          go_wp2
          go_region
          all_goals
            go_wp2
            go_ret
            exact ⟨ret_bool hd.symm, hg.drew⟩
      · obtain rfl : j = xs.length := by omega
        have he : xs = ys := by
          have := HE.out
          rwa [List.take_length, hl, List.take_length] at this
        have hd : decide (xs = ys) = true := decide_eq_true he
        clear he
        go_wp2
        go_ret
        exact ⟨ret_bool hd.symm, hg⟩
  · have hl' : ¬ (xs.length : Int) = (ys.length : Int) := by omega
    have hd : decide (xs = ys) = false := decide_eq_false (fun h => hl (by rw [h]))
    go_enter Try.func35, Try.ntmps35
    go_wp2
    go_ret
    exact ⟨ret_bool hd.symm, Grow.refl _⟩

theorem rd_two (w : World) (x y : Bool) (e : TypeId) : RdV Value.bool false (fun i => i = w.heap.size) (w.alloc (.cells #[.bool x, .bool y] e)) (.slice (some ⟨w.heap.size, 0, none⟩) 2 2) [x, y] := by
  refine ⟨_, 2, rfl, by simp, by simp [maxLen], fun i hi => ⟨w.heap.size, 0, rfl, rfl, ?_⟩⟩
  refine (World.cell?_alloc_new w _ _ _).trans ?_
  have : i = 0 ∨ i = 1 := by simp at hi; omega
  rcases this with rfl | rfl <;> simp

end Go.Proofs.Ytpkoiogdkaklfaa
