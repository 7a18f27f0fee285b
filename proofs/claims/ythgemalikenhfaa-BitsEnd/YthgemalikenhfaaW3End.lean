/-
  The walk of the law BitsEnd. Conditions: each theorem's own.
-/
import Derived.Test.YthgemalikenhfaaBitsSame
namespace Go.Proofs.Ythgemalikenhfaa
open Go.RowKit
set_option linter.unusedVariables false
set_option linter.unusedSimpArgs false

/-- Next, of a stream that was of these, of which j or all were told. -/
theorem bnext_at (b g : Nat) (O : List Bool) (j : Nat) (w : World) (h : StrAt w b g (O.drop j) (min j O.length : Nat)) (hj : j ≤ 1000000) :
    Calls Try.prog 12 #[.pointer (some ⟨b, 0, none⟩)] w fun e w' => e = .returned (.bool (O.getD j false)) ∧ StrAt w' b g (O.drop (j + 1)) (min (j + 1) O.length : Nat) ∧ UpdS (fun i => i = b) w w' := by
  refine (bnext_any b g _ _ w h (by omega) (by omega)).mono ?_
  rintro e w' ⟨rfl, h1, h2⟩
  refine ⟨ret_bool (by simp [List.getD, List.getElem?_drop]), ?_, h2⟩
  rw [List.drop_drop] at h1
  have e1 : ((min j O.length : Nat) : Int) + (min 1 (O.drop j).length : Nat) = (min (j + 1) O.length : Nat) := by
    rw [List.length_drop]; omega
  rw [e1] at h1
  exact h1

set_option maxHeartbeats 2000000 in
theorem bitsEnd_walk (lv : Value) (l : List Bool) (calls : Int) (w : World) (hl : RdV Value.bool false (fun i => i < w.heap.size) w lv l) (hc : (Lit.int .i64 calls).wf = true) :
    Calls Try.prog 4 #[lv, .int .i64 calls] w fun e w' => e = .returned (.bool true) ∧ Below w.heap.size w w' := by
  obtain ⟨O, hO⟩ : ∃ O, O = l.take 8 := ⟨_, rfl⟩
  have lO : O.length ≤ 8 := by rw [hO, List.length_take]; omega
  have fA : Calls Try.prog 9 #[lv, .int .i64 8] w fun e w'' => ∃ v', e = .returned v' ∧ RdV Value.bool false (fun i => i < w.heap.size) w v' O ∧ w = w'' := by
    rw [hO]; exact bfew_any lv l 8 8 _ w rfl hl (by omega)
  clear hO hl
  have hab := around_bd calls 13 (by omega)
  have hac := fun w => around_any calls 13 w hc (by omega) (by omega)
  obtain ⟨N, hN⟩ := Int.eq_ofNat_of_zero_le hab.1
  rw [hN] at hac hab
  have hN13 : N < 13 := by omega
  clear hab hN hc
  go_enter Try.func4, Try.ntmps4
  go_wp2_with fail
  refine fA.mono ?_
  rintro e w0 ⟨v1, rfl, h1, rfl⟩
  obtain ⟨a1, c1, rfl⟩ := h1.shape
  go_wp2_with fail
  refine (bnew_any _ O _ w h1 (by omega)).mono ?_
  rintro e w1 ⟨b, g, rfl, t1, g1, hg, hb⟩
  have r1 := h1.grow g1
  have s1 := g1.size
  have R1 : Hid (RdV Value.bool false (fun i => i < w.heap.size) w1 (.slice a1 O.length c1) O) := r1
  clear h1 r1
  go_wp2_with fail
  refine (hac w1).mono ?_
  rintro e w0 ⟨rfl, rfl⟩
  go_wp2
  go_loopg [8] N (fun k i wr => ∃ j : Nat, k = N - j ∧ j ≤ N ∧ i = .int .i64 j ∧ StrAt wr b g (O.drop j) (min j O.length : Nat) ∧ UpdS (fun i => i = b) w1 wr)
  case atStart => exact ⟨0, rfl, Nat.zero_le _, rfl, by simpa using t1, UpdS.refl _ _⟩
  case round =>
    obtain ⟨j, hk, hj, rfl, ht, hu⟩ := hrel
    have hgr : Grow w wr := UpdS.new g1 hu (fun i hi => by omega)
    by_cases hlt : j < N
    · have hlt' : (j : Int) < (N : Int) := by omega
      have HJ : Hid (j < N) := hlt
      have hn := bnext_at b g O j wr ht (by omega)
      have HO : Hid (∀ x, O.getD j false = x → True) := fun _ _ => trivial
      by_cases hjl : j < O.length
      · have hjl' : (j : Int) < (O.length : Int) := by omega
        obtain ⟨b1, o1, e1, -, hc1⟩ := (R1.out.upd hu (fun i _ h => by omega)).addr (by omega)
        have f1 := hc1 j hjl
        clear hc1
        subst e1
        have hmx : max ((O.length : Int) - 1) 0 = (O.length : Int) - 1 := by omega
        have hmn : min (j : Int) ((O.length : Int) - 1) = (j : Int) := by omega
        have hle : (j : Int) ≤ (O.length : Int) - 1 := by omega
        have hle0 : (0 : Int) ≤ (O.length : Int) - 1 := by omega
        have hw : IntKind.i64.wrap ((O.length : Int) - 1) = (O.length : Int) - 1 := by rw [IntKind.wrap_i64]; omega
        generalize O.getD j false = x at f1 hn
        go_wp2_with fail
        refine hn.mono ?_
        rintro e w2 ⟨rfl, ht2, hu2⟩
        go_wp2
        go_roundg (N - (j + 1))
        case measure => have := HJ.out; omega
        case rel => exact ⟨j + 1, rfl, HJ.out, by go_num, ht2, hu.trans hu2⟩
      · have hjl' : ¬ (j : Int) < (O.length : Int) := by omega
        have e0 : O.getD j false = false := by simp [List.getD, List.getElem?_eq_none (show O.length ≤ j by omega)]
        rw [e0] at hn
        go_wp2_with fail
        refine hn.mono ?_
        rintro e w2 ⟨rfl, ht2, hu2⟩
        go_wp2
        go_roundg (N - (j + 1))
        case measure => have := HJ.out; omega
        case rel => exact ⟨j + 1, rfl, HJ.out, by go_num, ht2, hu.trans hu2⟩
    · obtain rfl : j = N := by omega
      by_cases hjl : j ≤ O.length
      · have hjl' : (j : Int) ≤ (O.length : Int) := by omega
        have hdr : (O.drop j).length = O.length - j := by rw [List.length_drop]
        have hM : min j O.length = j := by omega
        rw [hM] at ht
        clear hM
        have hw : IntKind.i64.wrap ((O.length : Int) - (j : Int)) = (O.length : Int) - (j : Int) := by rw [IntKind.wrap_i64]; omega
        generalize O.drop j = R at ht hdr
        have HR : Hid (R.length = O.length - (j : Nat)) := hdr
        clear hdr
        have HD : Hid ((R.length : Int) = (O.length : Int) - (j : Int)) := by have := HR.out; show (R.length : Int) = _; omega
        go_wp2_with fail
        refine (bat_any b g R (j : Nat) wr ht).mono ?_
        rintro e w2 ⟨rfl, rfl⟩
        go_wp2_with fail
        refine (bleft_any b g R (j : Nat) wr ht (by have := HR.out; omega)).mono ?_
        rintro e w2 ⟨v2, rfl, h2, g2, -⟩
        obtain ⟨a2, c2, rfl⟩ := h2.shape
        clear h2
        have hd := HD.out
        go_wp2_with fail
        refine (blives_any w2).mono ?_
        rintro e w3 ⟨rfl, g3⟩
        go_wp2
        go_ret
        exact ⟨rfl, (hgr.trans g2).trans g3⟩
      · have hjl' : ¬ (j : Int) ≤ (O.length : Int) := by omega
        have hjl2 : (O.length : Int) < (j : Int) := by omega
        have hdr : (O.drop j).length = O.length - O.length := by rw [List.length_drop]; omega
        have hM : min j O.length = O.length := by omega
        rw [hM] at ht
        clear hM
        generalize O.drop j = R at ht hdr
        have HR : Hid (R.length = O.length - (O.length : Nat)) := hdr
        clear hdr
        have HD : Hid ((R.length : Int) = (O.length : Int) - (O.length : Int)) := by have := HR.out; show (R.length : Int) = _; omega
        go_wp2_with fail
        refine (bat_any b g R (O.length : Nat) wr ht).mono ?_
        rintro e w2 ⟨rfl, rfl⟩
        go_wp2_with fail
        refine (bleft_any b g R (O.length : Nat) wr ht (by have := HR.out; omega)).mono ?_
        rintro e w2 ⟨v2, rfl, h2, g2, -⟩
        obtain ⟨a2, c2, rfl⟩ := h2.shape
        clear h2
        have hd := HD.out
        rw [Int.sub_self] at hd
        go_wp2_with fail
        refine (blives_any w2).mono ?_
        rintro e w3 ⟨rfl, g3⟩
        go_wp2
        go_ret
        exact ⟨rfl, (hgr.trans g2).trans g3⟩
end Go.Proofs.Ythgemalikenhfaa
