/-
  The walk of ArenaSums. Conditions: the theorem's own.
-/
import Derived.Test.YtgpigllimoafaaaAreL
import Derived.Deep.LoopGhost
namespace Go.Proofs.Ytgpigllimoafaaa
open Go.RowKit
set_option linter.unusedVariables false
set_option linter.unusedSimpArgs false

theorem repl_in15 {K : Nat} {m : Int} {i : Nat} (hi : i < K) : (List.replicate K m).getD i 0 = m := by simp [List.getD, hi]
theorem sm_repl {K : Nat} {m : Int} {n : Nat} (hn : n ≤ K) : sm (List.replicate K m) n = (n : Int) * m := by
  induction n with
  | zero => rw [sm_zero]; simp
  | succ n ih =>
    rw [sm_succ (by rw [List.length_replicate]; omega), ih (by omega), repl_in15 (by omega), Int.natCast_succ, Int.add_mul, Int.one_mul]
theorem repl_cut {K : Nat} {m : Int} (h1 : 1 ≤ K) (h2 : K ≤ 16) (h3 : 1 ≤ m) (h4 : m ≤ 8) : CutOk (List.replicate K m) ↔ (K : Int) * m ≤ 64 := by
  unfold CutOk
  rw [List.length_replicate, sm_repl (Nat.le_refl _)]
  constructor
  · intro h; exact h.2.2.2
  · intro h
    exact ⟨h1, h2, fun i hi => by rw [repl_in15 hi]; omega, h⟩
theorem mul_bd {K m : Int} (h1 : 1 ≤ K) (h2 : K ≤ 16) (h3 : 1 ≤ m) (h4 : m ≤ 8) : 1 ≤ K * m ∧ K * m ≤ 128 := by
  have x1 : 1 * 1 ≤ K * m := Int.mul_le_mul h1 h3 (by omega) (by omega)
  have x2 : K * m ≤ 16 * 8 := Int.mul_le_mul h2 h4 (by omega) (by omega)
  omega

set_option maxRecDepth 8000 in
set_option maxHeartbeats 4000000 in
theorem arenaSums_walk (n q : Int) (w : World) (hn : (Lit.int .i64 n).wf = true) (hq : (Lit.int .i64 q).wf = true) : Calls Try.prog 7 #[.int .i64 n, .int .i64 q] w fun e w' => e = .returned (.bool true) ∧ Grow w w' := by
  obtain ⟨i0, hi, hz0, hz1, hz2⟩ := info_parts infoTI15
  have ha := around_any n 16 w hn (by omega) (by omega)
  have hb := around_bd n 16 (by omega)
  have ha2 := around_any q 8 w hq (by omega) (by omega)
  have hb2 := around_bd q 8 (by omega)
  obtain ⟨K, hK⟩ : ∃ K : Nat, (K : Int) = 1 + around n 16 := ⟨(1 + around n 16).toNat, by omega⟩
  generalize around n 16 = z16 at ha hb hK
  generalize around q 8 = z8 at ha2 hb2
  have hw1 : IntKind.i64.wrap (1 + z16) = (K : Int) := by rw [IntKind.wrap_i64]; omega
  obtain ⟨m, hm⟩ : ∃ m, 1 + z8 = m := ⟨_, rfl⟩
  have hw2 : IntKind.i64.wrap (1 + z8) = m := by rw [IntKind.wrap_i64]; omega
  have hKb : 1 ≤ K ∧ K ≤ 16 := by omega
  have hmb : 1 ≤ m ∧ m ≤ 8 := by omega
  obtain ⟨z, hz⟩ : ∃ z : Int, (K : Int) * m = z := ⟨_, rfl⟩
  have hzb := mul_bd (K := (K : Int)) (m := m) (by omega) (by omega) hmb.1 hmb.2
  rw [hz] at hzb
  have hwz : IntKind.i64.wrap ((K : Int) * m) = z := by rw [hz, IntKind.wrap_i64]; omega
  obtain ⟨K1, hK1⟩ : ∃ K1, K = K1 + 1 := ⟨K - 1, by omega⟩
  have hwk : IntKind.i64.wrap ((K : Int) - 1) = (K1 : Int) := by rw [IntKind.wrap_i64]; omega
  have hsm : sm (List.replicate K m) K1 = (K1 : Int) * m := sm_repl (by omega)
  obtain ⟨y, hy⟩ : ∃ y : Int, (K1 : Int) * m = y := ⟨_, rfl⟩
  have hyz : y + m = z := by rw [← hy, ← hz, hK1, Int.natCast_succ, Int.add_mul, Int.one_mul]
  have hwy : IntKind.i64.wrap ((K1 : Int) * m) = y := by rw [hy, IntKind.wrap_i64]; omega
  rw [hy] at hsm
  have HS : Hid (1 ≤ K ∧ K ≤ 16 ∧ K1 < K ∧ sm (List.replicate K m) K1 = y ∧ sm (List.replicate K m) K = z ∧ (CutOk (List.replicate K m) ↔ z ≤ 64) ∧ 1 ≤ m ∧ m ≤ 8) := by
    refine ⟨hKb.1, hKb.2, by omega, hsm, by rw [← hz]; exact sm_repl (Nat.le_refl _), ?_, hmb⟩
    rw [← hz]; exact repl_cut hKb.1 hKb.2 hmb.1 hmb.2
  clear hb hK hb2 hm hKb hmb hz hzb hK1 hsm hy hyz hn hq
  go_enter Try.func7, Try.ntmps7
  go_wp2_with fail
  refine ha.mono ?_
  rintro e w1 ⟨rfl, rfl⟩
  go_wp2_with fail
  refine ha2.mono ?_
  rintro e w1 ⟨rfl, rfl⟩
  clear ha ha2
  go_wp2_with fail
  go_loopg [7, 8] K (fun g d iv wr => ∃ j : Nat, g = K - j ∧ j ≤ K ∧ iv = .int .i64 j ∧ OwnV (Value.int .i64) 0 (fun i => w.heap.size ≤ i) wr d (List.replicate j m) ∧ Hid (Grow w wr))
  case atStart => exact ⟨0, rfl, by omega, rfl, OwnV.nil _ _ _ _ _, Grow.refl _⟩
  case round =>
    obtain ⟨j, hj, hj2, rfl, ho, HW⟩ := hrel
    have HG : Hid (gk = K - j ∧ j ≤ K) := ⟨hj, hj2⟩
    clear hj
    by_cases hlt : (j : Int) < (K : Int)
    · have HJ : Hid (j < K) := by show j < K; omega
      have hw0 : IntKind.i64.wrap ((j : Int) + 1) = ((j + 1 : Nat) : Int) := by rw [IntKind.wrap_i64]; have := HS.out.2.1; omega
      have ho1 := ho.grow ((Grow.refl wr).alloc (.cells #[.int .i64 m] 3))
      have hll : (List.replicate j m).length ≤ 16 := by rw [List.length_replicate]; have := HS.out.2.1; omega
      have HD : Hid (List.replicate (j + 1) m = List.replicate j m ++ [m]) := List.replicate_succ'
      generalize List.replicate j m = D at ho1 hll HD
      obtain ⟨a3, c3, hsh⟩ := ho1.shape
      subst hsh
      clear ho
      go_wp2_with (at_builtin; refine wpList_appV (f := Value.int .i64) (d := 0) rfl (.tmp 22) (.tmp 24) 22 22 rfl i0 (.int .i64 0) 8 Try.underlying22 hi hz0 hz1 hz2 rfl rfl rfl ho1 (Src.oneV (w := wr) Try.underlying22 (Value.int .i64) m (oneI .i64 _) 3) (by simp only [maxLen, List.length_singleton]; omega) (by simp only [List.length_singleton]; omega) ?_)
      intro v' w' ho' hu'
      have HN : Hid (OwnV (Value.int .i64) 0 (fun i => w.heap.size ≤ i) w' v' (List.replicate (j + 1) m) ∧ Grow w w') := by
        have hg := HW.out.size
        refine ⟨?_, UpdS.new (HW.out.alloc _) hu' (fun i hi => hi)⟩
        rw [HD.out]
        exact ho'.mono (fun i _ hi => by rcases hi with hi | hi; exact hi; omega)
      clear ho' hu' ho1
      go_wp2
      go_roundg (K - (j + 1))
      case measure => have := HG.out; have := HJ.out; omega
      case rel => exact ⟨j + 1, rfl, by have := HJ.out; omega, by go_num, HN.out.1, HN.out.2⟩
    · obtain rfl : K = j := by have := HG.out.2; omega
      have hc := cut_any wr _ u7 _ ho.rd (fun x hx => by rw [List.eq_of_mem_replicate hx]; exact wfI (by have := HS.out.2.2.2.2.2.2; omega))
      clear ho HG hlt
      go_wp2_with fail
      refine hc.mono ?_
      rintro e w1 ⟨hp, g1⟩
      have HW1 : Hid (Grow w w1) := HW.out.trans g1
      have hlv := alives_any w1
      clear g1 hc
      rcases hp with ⟨hok, A, M, rfl, kA, hl, hnw⟩ | ⟨hno, rfl⟩
      · have hz64 : ¬ 64 < z := by have := HS.out.2.2.2.2.2.1.1 hok; omega
        have hmap := hnw.map hl (fun i hi => by rw [List.length_replicate] at hi; rw [repl_in15 hi]; exact HS.out.2.2.2.2.2.2.1)
        rw [List.length_replicate] at hl
        have HA : Hid (ArAt wr.heap.size w1 A M ∧ M.map PS.len = List.replicate K m ∧ M.length = K) := ⟨kA, hmap, hl⟩
        have hfr := frames_any _ w1 A M kA
        rw [hmap, hl, HS.out.2.2.2.2.1] at hfr
        clear kA hl hmap hnw hok hlv
        go_wp2_with fail
        refine hfr.mono ?_
        rintro e w2 ⟨rfl, g2⟩
        have hst := start_yes _ w2 A M (HA.out.1.grow g2) K1 (by rw [HA.out.2.2]; exact HS.out.2.2.1)
        rw [HA.out.2.1, HS.out.2.2.2.1] at hst
        have HA2 : Hid (ArAt wr.heap.size w2 A M ∧ M.length = K ∧ Grow w w2) := ⟨HA.out.1.grow g2, HA.out.2.2, HW1.out.trans g2⟩
        clear g2 hfr HA HW1
        go_wp2_with fail
        refine hst.mono ?_
        rintro e w3 ⟨rfl, g3⟩
        have hln := alen_any _ w3 A M (HA2.out.1.grow g3)
        rw [HA2.out.2.1] at hln
        have HW3 : Hid (Grow w w3) := HA2.out.2.2.trans g3
        have hlv := alives_any w3
        clear g3 hst HA2
        go_wp2_with fail
        refine hln.mono ?_
        rintro e w4 ⟨rfl, rfl⟩
        clear hln
        go_wp2_with fail
        refine hlv.mono ?_
        rintro e w5 ⟨rfl, g5⟩
        have HW5 : Hid (Grow w w5) := HW3.out.trans g5
        clear g5 hlv
        go_wp2
        go_ret
        exact ⟨rfl, HW5.out⟩
      · have hz64 : 64 < z := Int.not_le.1 (fun h => hno (HS.out.2.2.2.2.2.1.2 h))
        clear hno
        go_wp2_with fail
        refine hlv.mono ?_
        rintro e w5 ⟨rfl, g5⟩
        have HW5 : Hid (Grow w w5) := HW1.out.trans g5
        clear g5 hlv
        go_wp2
        go_ret
        exact ⟨rfl, HW5.out⟩
end Go.Proofs.Ytgpigllimoafaaa
