/-
  The walk of FifoFull. Conditions: the theorem's own.
-/
import Derived.Test.YtmnaadbemlecpaaFifA
import Derived.Deep.LoopGhost
namespace Go.Proofs.Ytmnaadbemlecpaa
open Go.RowKit
set_option linter.unusedVariables false
set_option linter.unusedSimpArgs false

/-- the first numbers, as many as go in -/
def upTo (n j : Nat) : List Int := (List.range (min n j)).map (fun i : Nat => (i : Int))
theorem upTo_length (n j : Nat) : (upTo n j).length = min n j := by simp [upTo]
theorem upTo_zero (n : Nat) : upTo n 0 = [] := by simp [upTo]
theorem upTo_put (n j : Nat) : putL n (upTo n j) (j : Int) = upTo n (j + 1) := by
  unfold putL
  rw [upTo_length]
  by_cases h : n ≤ j
  · rw [if_pos (by omega)]
    unfold upTo
    rw [show min n j = n by omega, show min n (j + 1) = n by omega]
  · rw [if_neg (by omega)]
    unfold upTo
    rw [show min n j = j by omega, show min n (j + 1) = j + 1 by omega, List.range_succ, List.map_append]
    rfl

set_option maxRecDepth 16000 in
set_option maxHeartbeats 4000000 in
theorem fifoFull_walk (x y : Int) (w : World) (hx : (Lit.int .i64 x).wf = true) (hy : (Lit.int .i64 y).wf = true) :
    Calls Try.prog 6 #[.int .i64 x, .int .i64 y] w fun e w' => e = .returned (.bool true) ∧ Grow w w' := by
  have har := around_any x 12 w hx (by omega) (by omega)
  have hab := around_bd x 12 (by omega)
  have har2 := around_any y 21 w hy (by omega) (by omega)
  have hab2 := around_bd y 21 (by omega)
  generalize around x 12 = r at har hab
  generalize around y 21 = s at har2 hab2
  obtain ⟨n0, rfl⟩ := Int.eq_ofNat_of_zero_le hab.1
  obtain ⟨m, rfl⟩ := Int.eq_ofNat_of_zero_le hab2.1
  obtain ⟨n, hn⟩ : ∃ n, n = n0 + 1 := ⟨_, rfl⟩
  have hw1 : IntKind.i64.wrap (1 + (n0 : Int)) = (n : Int) := by rw [IntKind.wrap_i64]; omega
  have hn1 : 1 ≤ n := by omega
  have hn2 : n ≤ 12 := by omega
  have hm : m ≤ 20 := by omega
  clear hn hab hab2
  go_enter Try.func6, Try.ntmps6
  go_wp2_with fail
  refine har.mono ?_
  rintro e w1 ⟨rfl, rfl⟩
  go_wp2_with fail
  refine har2.mono ?_
  rintro e w1 ⟨rfl, rfl⟩
  clear har har2
  go_wp2_with fail
  refine (inew_yes n w hn1 (by omega)).mono ?_
  rintro e w1 ⟨b, rfl, q1, g1, hb1⟩
  have H1 : Hid (∃ p, QAt (Value.int .i64) 0 p w1 b n (upTo n 0) ∧ (∀ i, p i → w.heap.size ≤ i) ∧ Grow w w1) := ⟨_, by rw [upTo_zero]; exact q1, fun _ h => False.elim h, g1⟩
  have HB : Hid (w.heap.size ≤ b) := hb1
  clear q1 g1 hb1
  go_wp2
  go_loopg [9] m (fun k i wr => ∃ j : Nat, k = m - j ∧ j ≤ m ∧ i = .int .i64 j ∧ Hid (∃ p, QAt (Value.int .i64) 0 p wr b n (upTo n j) ∧ (∀ i, p i → w.heap.size ≤ i) ∧ Grow w wr))
  case atStart => exact ⟨0, rfl, Nat.zero_le _, rfl, H1⟩
  case round =>
    obtain ⟨j, hk, hj, rfl, HQ⟩ := hrel
    obtain ⟨p, q, hp, hg⟩ := HQ.out
    by_cases hlt : j < m
    · have hlt' : (j : Int) < (m : Int) := by omega
      have HJ : Hid (j < m ∧ gk = m - j) := ⟨hlt, hk⟩
      have hpu := iput_any wr p b n (upTo n j) q j
      rw [upTo_put, upTo_length] at hpu
      have HP : Hid (Grow w wr ∧ ∀ i, p i → w.heap.size ≤ i) := ⟨hg, hp⟩
      by_cases hjn : n ≤ j
      · have E : putE n (min n j) = 8 := if_pos (by omega)
        rw [E] at hpu
        have hjn' : (n : Int) ≤ (j : Int) := by omega
        clear hlt hk q hp hg HQ E H1
        go_wp2_with fail
        refine hpu.mono ?_
        rintro e w2 ⟨rfl, p2, q2, hp2, hu2⟩
        have HR : Hid (∃ p, QAt (Value.int .i64) 0 p w2 b n (upTo n (j + 1)) ∧ (∀ i, p i → w.heap.size ≤ i) ∧ Grow w w2) :=
          ⟨p2, q2, fun i hi => (hp2 i hi).elim (HP.out.2 i) (fun h => Nat.le_trans HP.out.1.size h), UpdS.new HP.out.1 hu2 (fun i hi => hi.elim (HP.out.2 i) (fun e => by rw [e]; exact HB.out))⟩
        clear q2 hp2 hu2 hpu
        go_wp2
        go_roundg (m - (j + 1))
        case measure => have := HJ.out; omega
        case rel => exact ⟨j + 1, rfl, HJ.out.1, by go_num, HR⟩
      · have E : putE n (min n j) = 0 := if_neg (by omega)
        rw [E] at hpu
        have hjn' : ¬ (n : Int) ≤ (j : Int) := by omega
        clear hlt hk q hp hg HQ E H1
        go_wp2_with fail
        refine hpu.mono ?_
        rintro e w2 ⟨rfl, p2, q2, hp2, hu2⟩
        have HR : Hid (∃ p, QAt (Value.int .i64) 0 p w2 b n (upTo n (j + 1)) ∧ (∀ i, p i → w.heap.size ≤ i) ∧ Grow w w2) :=
          ⟨p2, q2, fun i hi => (hp2 i hi).elim (HP.out.2 i) (fun h => Nat.le_trans HP.out.1.size h), UpdS.new HP.out.1 hu2 (fun i hi => hi.elim (HP.out.2 i) (fun e => by rw [e]; exact HB.out))⟩
        clear q2 hp2 hu2 hpu
        go_wp2
        go_roundg (m - (j + 1))
        case measure => have := HJ.out; omega
        case rel => exact ⟨j + 1, rfl, HJ.out.1, by go_num, HR⟩
    · have hlt' : ¬ (j : Int) < (m : Int) := by omega
      obtain rfl : j = m := by omega
      have hle := ilen_any wr p b n _ q
      have hfu := ifull_any wr p b n _ q
      rw [upTo_length] at hle hfu
      have HG : Hid (Grow w wr) := hg
      by_cases hjn : n ≤ j
      · have e1 : min n j = n := by omega
        rw [e1] at hle hfu
        simp only [decide_true] at hfu
        have e2 : min (n : Int) (j : Int) = (n : Int) := by omega
        have e3 : (n : Int) ≤ (j : Int) := by omega
        clear q hp hg HQ hk hlt e1 H1
        go_wp2_with fail
        refine hle.mono ?_
        rintro e w2 ⟨rfl, rfl⟩
        go_wp2_with fail
        refine hfu.mono ?_
        rintro e w2 ⟨rfl, g2⟩
        go_wp2_with fail
        refine (lives_any w2).mono ?_
        rintro e w3 ⟨rfl, g3⟩
        go_wp2
        go_ret
        exact ⟨rfl, (HG.out.trans g2).trans g3⟩
      · have e1 : min n j = j := by omega
        rw [e1] at hle hfu
        have e0 : ¬ j = n := by omega
        simp only [e0, decide_false] at hfu
        have e2 : min (n : Int) (j : Int) = (j : Int) := by omega
        have e3 : ¬ (n : Int) ≤ (j : Int) := by omega
        clear e0
        clear q hp hg HQ hk hlt e1 H1
        go_wp2_with fail
        refine hle.mono ?_
        rintro e w2 ⟨rfl, rfl⟩
        go_wp2_with fail
        refine hfu.mono ?_
        rintro e w2 ⟨rfl, g2⟩
        go_wp2_with fail
        refine (lives_any w2).mono ?_
        rintro e w3 ⟨rfl, g3⟩
        go_wp2
        go_ret
        exact ⟨rfl, (HG.out.trans g2).trans g3⟩
end Go.Proofs.Ytmnaadbemlecpaa
