/-
  The walk of SlotsOwners. Conditions: the theorem's own.
-/
import Derived.Test.YtfbhngmolifkaaaSloDoc
import Derived.Test.YtfbhngmolifkaaaSloRow
namespace Go.Proofs.Ytfbhngmolifkaaa
open Go.RowKit
set_option linter.unusedVariables false
set_option linter.unusedSimpArgs false

set_option maxRecDepth 16000 in
set_option maxHeartbeats 4000000 in
theorem slotsOwners_walk (n t many : Int) (w : World) (hn : (Lit.int .i64 n).wf = true) (ht : (Lit.int .i64 t).wf = true) (hmany : (Lit.int .i64 many).wf = true) :
    Calls Try.prog 3 #[.int .i64 n, .int .i64 t, .int .i64 many] w fun e w' => e = .returned (.bool true) ∧ Grow w w' := by
  obtain ⟨i0, hi, hz0, hz1, hz2⟩ := info_parts Try.infoIq
  have har := around_any n 16 w hn (by omega) (by omega)
  have hab := around_bd n 16 (by omega)
  generalize around n 16 = r at har hab
  obtain ⟨k, hkr⟩ : ∃ k, k = 1 + r := ⟨_, rfl⟩
  have hw1 : IntKind.i64.wrap (1 + r) = k := by rw [IntKind.wrap_i64]; omega
  have h1 : 1 ≤ k := by omega
  have h2 : k ≤ 16 := by omega
  clear hkr hab
  have ha_a := fun u : World => around_any t 1099511627777 u ht (by omega) (by omega)
  obtain ⟨a0, a1⟩ := around_bd t 1099511627777 (by omega)
  generalize around t 1099511627777 = a at ha_a a0 a1
  have ha_f := fun u : World => around_any t 1000 u ht (by omega) (by omega)
  obtain ⟨f0, f1⟩ := around_bd t 1000 (by omega)
  generalize around t 1000 = f at ha_f f0 f1
  have ha_m := fun u : World => around_any many 41 u hmany (by omega) (by omega)
  obtain ⟨m0, m1⟩ := around_bd many 41 (by omega)
  generalize around many 41 = m at ha_m m0 m1
  obtain ⟨M, rfl⟩ := Int.eq_ofNat_of_zero_le m0
  go_enter Try.func3, Try.ntmps3
  go_wp2_with fail
  refine har.mono ?_
  rintro e w1 ⟨rfl, rfl⟩
  clear har
  go_wp2_with fail
  refine (new_yes k w h1 h2).mono ?_
  rintro e W1 ⟨b, rfl, s1, g1⟩
  have HS : Hid (SAt W1 b k) := s1
  have HG : Hid (Grow w W1) := g1
  clear s1 g1
  go_wp2_with fail
  refine (ha_a W1).mono ?_
  rintro e w1 ⟨rfl, rfl⟩
  go_wp2_with fail
  refine (ha_f W1).mono ?_
  rintro e w1 ⟨rfl, rfl⟩
  go_wp2_with fail
  refine (ha_m W1).mono ?_
  rintro e w1 ⟨rfl, rfl⟩
  clear ha_a ha_f ha_m
  have hM : M < 41 := by omega
  clear m0 m1
  go_wp2
  go_loopg [13, 14] M (fun g v x wr => ∃ j : Nat, g = M - j ∧ j ≤ M ∧ x = .int .i64 j ∧ Hid (OwnV (Value.int .i64) 0 (fun i => W1.heap.size ≤ i) wr v (owns k f j)) ∧ Hid (Grow W1 wr))
  case atStart => exact ⟨0, rfl, Nat.zero_le _, rfl, OwnV.nil _ _ _ _ _, Grow.refl _⟩
  case round =>
    obtain ⟨j, hk, hj, rfl, HO, HW⟩ := hrel
    have HJ : Hid (gk = M - j ∧ j ≤ M) := ⟨hk, hj⟩
    by_cases hlt : j < M
    · have hlt' : (j : Int) < (M : Int) := by omega
      have HL : Hid (j < M) := hlt
      have hw2 : IntKind.i64.wrap (f + (j : Int)) = f + (j : Int) := by rw [IntKind.wrap_i64]; omega
      have hw3 : IntKind.i64.wrap ((j : Int) + 1) = ((j + 1 : Nat) : Int) := by rw [IntKind.wrap_i64]; omega
      have ho := rowner_any wr k (f + j) h1 h2 (by omega) (by omega)
      have HE : Hid (owns k f (j + 1) = owns k f j ++ [(f + j) % k]) := owns_succ k f j
      have HLn : Hid ((owns k f j).length = j) := owns_len k f j
      clear hlt hk hj
      generalize (f + (j : Int)) % k = x at ho HE
      obtain ⟨av, cv, hv⟩ := HO.out.shape
      generalize hli : (owns k f j).length = li at hv
      clear hli
      subst hv
      have hlen : (owns k f j).length ≤ 1000 := by rw [HLn.out]; have := HL.out; omega
      have hoo := HO.out.grow ((Grow.refl wr).alloc (.cells #[(Value.int .i64) x] 3))
      go_wp2_with fail
      refine ho.mono ?_
      rintro e w1 ⟨rfl, rfl⟩
      go_wp2_with (at_builtin; refine wpList_appV (f := (Value.int .i64)) (d := 0) rfl (.tmp 40) (.tmp 46) 27 27 rfl i0 ((Value.int .i64) 0) 8 Try.underlying27 hi hz0 hz1 hz2 rfl rfl rfl hoo (Src.oneV (w := wr) Try.underlying27 (Value.int .i64) x (oneIq x) 3) (by simp only [maxLen, List.length_singleton]; omega) (by simp only [List.length_singleton]; omega) ?_)
      intro v' w' ho' hu'
      have HO2 : Hid (OwnV (Value.int .i64) 0 (fun i => W1.heap.size ≤ i) w' v' (owns k f (j + 1))) := by
        have ho2 := ho'.mono (q := fun i => W1.heap.size ≤ i) (fun i hi hp => hp.elim id (fun e => by have h1 := HW.out.size; have h2 : (wr.alloc (.cells #[(Value.int .i64) x] 3)).heap.size = wr.heap.size + 1 := World.size_alloc _ _; omega))
        rw [← HE.out] at ho2
        exact ho2
      have HG2 : Hid (Grow W1 w') := UpdS.new (HW.out.trans ((Grow.refl wr).alloc _)) hu' (fun i hi => hi)
      clear ho' hu' hoo ho hlen
      go_wp2
      go_roundg (M - (j + 1))
      case measure => have := HJ.out; have := HL.out; omega
      case rel => exact ⟨j + 1, rfl, HL.out, rfl, HO2, HG2⟩
    · have hlt' : ¬ (j : Int) < (M : Int) := by omega
      obtain rfl : M = j := by omega
      have HG1 : Hid (Grow w wr) := HG.out.trans HW.out
      have HS1 : Hid (SAt wr b k) := HS.out.grow HW.out
      obtain ⟨av, cv, hv⟩ := HO.out.shape
      generalize hli : (owns k f M).length = li at hv
      clear hli
      subst hv
      clear hlt hk hj
      have ho1 := owner_any wr b k HS1.out a h1 h2 a0
      have ho2 := rowner_any wr k a h1 h2 a0 (by omega)
      generalize a % k = y at ho1 ho2
      go_wp2_with fail
      refine ho1.mono ?_
      rintro e w1 ⟨rfl, rfl⟩
      go_wp2_with fail
      refine ho2.mono ?_
      rintro e w1 ⟨rfl, rfl⟩
      clear ho1 ho2
      go_wp2_with fail
      refine (row_any wr b k HS1.out f M h1 h2 f0 (by omega) (by omega)).mono ?_
      rintro e w2 ⟨v2, rfl, o2, g2⟩
      have HS2 : Hid (SAt w2 b k) := HS1.out.grow g2
      have HG2 : Hid (Grow w w2) := HG1.out.trans g2
      have hsm := samez_any v2 (.slice av li cv) _ _ _ _ w2 o2.rd (HO.out.grow g2).rd
      rw [decide_eq_true rfl] at hsm
      clear o2 g2
      go_wp2_with fail
      refine hsm.mono ?_
      rintro e w3 ⟨rfl, g3⟩
      have HS3 : Hid (SAt w3 b k) := HS2.out.grow g3
      have HG3 : Hid (Grow w w3) := HG2.out.trans g3
      clear g3 hsm
      go_wp2_with fail
      refine (len_any w3 b k HS3.out).mono ?_
      rintro e w4 ⟨rfl, rfl⟩
      have hr0 := row_any w3 b k HS3.out f 0 h1 h2 f0 (by omega) (by omega)
      have HZ : Hid (owns k f 0 = []) := rfl
      rw [HZ.out] at hr0
      go_wp2_with fail
      refine hr0.mono ?_
      rintro e w4 ⟨v4, rfl, o4, g4⟩
      obtain ⟨a4, c4, hv4⟩ := o4.shape
      simp only [List.length_nil] at hv4
      subst hv4
      have HG4 : Hid (Grow w w4) := HG3.out.trans g4
      clear o4 g4 hr0
      go_wp2_with fail
      refine (lives_any w4).mono ?_
      rintro e w5 ⟨rfl, g5⟩
      go_wp2
      go_ret
      exact ⟨rfl, HG4.out.trans g5⟩
end Go.Proofs.Ytfbhngmolifkaaa
