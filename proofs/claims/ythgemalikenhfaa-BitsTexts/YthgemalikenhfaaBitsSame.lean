/-
  The walks of the document's Same, and of the example. Conditions: each theorem's own.
-/
import Derived.Test.YthgemalikenhfaaBitsRef
import Derived.Deep.LoopGhost
namespace Go.Proofs.Ythgemalikenhfaa
open Go.RowKit
set_option linter.unusedVariables false
set_option linter.unusedSimpArgs false

theorem take_snocB (zs : List Bool) (j : Nat) (h : j < zs.length) : zs.take (j + 1) = zs.take j ++ [zs.getD j false] := by
  rw [List.take_succ_eq_append_getElem h]
  simp [List.getD, List.getElem?_eq_getElem h]

set_option maxHeartbeats 1000000 in
theorem bsame_any (av bv : Value) (xs ys : List Bool) (p q : Nat → Prop) (w : World) (ha : RdV Value.bool false p w av xs) (hb : RdV Value.bool false q w bv ys) :
    Calls Try.prog 16 #[av, bv] w fun e w' => e = .returned (.bool (decide (xs = ys))) ∧ Grow w w' := by
  have la := ha.len
  have lb := hb.len
  unfold maxLen at la lb
  have HA : Hid (RdV Value.bool false p w av xs) := ha
  have HB : Hid (RdV Value.bool false q w bv ys) := hb
  obtain ⟨a1, c1, rfl⟩ := ha.shape
  obtain ⟨a2, c2, rfl⟩ := hb.shape
  clear ha hb
  by_cases hl : xs.length = ys.length
  · have hl' : (xs.length : Int) = (ys.length : Int) := by omega
    go_enter Try.func16, Try.ntmps16
    go_wp2
    go_loopg [5] xs.length (fun k i wr => ∃ j : Nat, k = xs.length - j ∧ j ≤ xs.length ∧ i = .int .i64 j ∧ Hid (xs.take j = ys.take j) ∧ Grow w wr)
    case atStart => exact ⟨0, rfl, Nat.zero_le _, rfl, by simp [Hid], Grow.refl _⟩
    case round =>
      obtain ⟨j, hk, hj, rfl, HE, hg⟩ := hrel
      by_cases hlt : j < xs.length
      · have hlt' : (j : Int) < (xs.length : Int) := by omega
        have hlt2 : (j : Int) < (ys.length : Int) := by omega
        have hja : j < xs.length := hlt
        obtain ⟨b1, o1, e1, -, hc1⟩ := (HA.out.grow hg).addr (by omega)
        obtain ⟨b2, o2, e2, -, hc2⟩ := (HB.out.grow hg).addr (by omega)
        have f1 := hc1 j hlt
        have f2 := hc2 j (by omega)
        clear hc1 hc2
        have hs1 := take_snocB xs j hlt
        have hs2 := take_snocB ys j (by omega)
        have HT : Hid (xs.take (j + 1) = xs.take j ++ [xs.getD j false] ∧ ys.take (j + 1) = ys.take j ++ [ys.getD j false]) := ⟨hs1, hs2⟩
        clear hs1 hs2
        have hne : ∀ x y : Bool, x ≠ y → xs.getD j false = x → ys.getD j false = y → xs ≠ ys := fun x y h1 h2 h3 h4 => h1 (by rw [← h2, ← h3, h4])
        generalize xs.getD j false = x at f1 HT hne
        generalize ys.getD j false = y at f2 HT hne
        clear hlt
        have HJ : Hid (j < xs.length) := hja
        clear hja
        have HN := hne x y
        clear hne
        subst e1 e2
        by_cases hxy : x = y
        · subst hxy
          clear HN
          go_wp2
          go_region
          all_goals
            go_wp2
            go_roundg (xs.length - (j + 1))
            case measure => have := HJ.out; omega
            case rel =>
              refine ⟨j + 1, rfl, HJ.out, by go_num, ?_, hg.drew⟩
              show xs.take (j + 1) = ys.take (j + 1)
              rw [HT.out.1, HT.out.2, HE.out]
        · have hns : xs ≠ ys := HN hxy rfl rfl
          have hd : decide (xs = ys) = false := decide_eq_false hns
          clear HN hns
          have hxy2 : (x == y) = false := by simpa using hxy
          go_wp2
          go_region
          all_goals
            go_wp2
            go_ret
            exact ⟨ret_bool hd.symm, hg.drew⟩
      · obtain rfl : j = xs.length := by omega
        have he : xs = ys := by
          have := HE.out
          rwa [List.take_length, hl, List.take_length] at this
        have hd : decide (xs = ys) = true := decide_eq_true he
        clear he
        go_wp2
        go_ret
        exact ⟨ret_bool hd.symm, hg⟩
  · have hl' : ¬ (xs.length : Int) = (ys.length : Int) := by omega
    have hd : decide (xs = ys) = false := decide_eq_false (fun h => hl (by rw [h]))
    go_enter Try.func16, Try.ntmps16
    go_wp2
    go_ret
    exact ⟨ret_bool hd.symm, Grow.refl _⟩

theorem rd_two (w : World) (x y : Bool) (e : TypeId) : RdV Value.bool false (fun i => i = w.heap.size) (w.alloc (.cells #[.bool x, .bool y] e)) (.slice (some ⟨w.heap.size, 0, none⟩) 2 2) [x, y] := by
  refine ⟨_, 2, rfl, by simp, by simp [maxLen], fun i hi => ⟨w.heap.size, 0, rfl, rfl, ?_⟩⟩
  refine (World.cell?_alloc_new w _ _ _).trans ?_
  have : i = 0 ∨ i = 1 := by simp at hi; omega
  rcases this with rfl | rfl <;> simp

set_option maxHeartbeats 1000000 in
theorem blives_any (w : World) : Calls Try.prog 18 #[] w fun e w' => e = .returned (.bool true) ∧ Grow w w' := by
  go_enter Try.func18, Try.ntmps18
  go_wp2_with fail
  refine (bnew_any _ [true, false] _ _ (rd_two w true false 4) (by simp)).mono ?_
  rintro e w1 ⟨b, g, rfl, hs1, hg1, hg, hb⟩
  have hgw : Grow w w1 := ((Grow.refl w).alloc _).trans hg1
  have hb' : w.heap.size ≤ b := by simp at hb; omega
  clear hg1 hg hb
  go_wp2_with fail
  refine (bnext_any b g [true, false] 0 w1 hs1 (by omega) (by omega)).mono ?_
  rintro e w2 ⟨rfl, hs2, hu2⟩
  have hs2' : StrAt w2 b g [false] 1 := by simpa using hs2
  clear hs1 hs2
  go_wp2_with fail
  refine (bnext_any b g [false] 1 w2 hs2' (by omega) (by omega)).mono ?_
  rintro e w3 ⟨rfl, hs3, hu3⟩
  have hs3' : StrAt w3 b g [] 2 := by simpa using hs3
  clear hs2' hs3
  go_wp2_with fail
  refine (bnext_any b g [] 2 w3 hs3' (by omega) (by omega)).mono ?_
  rintro e w4 ⟨rfl, hs4, hu4⟩
  have hs4' : StrAt w4 b g [] 2 := by simpa using hs4
  clear hs3' hs4
  simp only [List.getD, List.getElem?_cons_zero, List.getElem?_nil, Option.getD_some, Option.getD_none]
  go_wp2_with fail
  refine (bat_any b g [] 2 w4 hs4').mono ?_
  rintro e w5 ⟨rfl, rfl⟩
  go_wp2
  go_ret
  exact ⟨rfl, UpdS.new hgw ((hu2.trans hu3).trans hu4) (fun i hi => by omega)⟩
end Go.Proofs.Ythgemalikenhfaa
