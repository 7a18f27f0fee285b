/-
  The walk of the document's Check. Conditions: the theorem's own.
-/
import Derived.Test.YtlcphhlimcnnaaaCfgCheck
namespace Go.Proofs.Ytlcphhlimcnnaaa
open Go.RowKit
set_option linter.unusedVariables false
set_option linter.unusedSimpArgs false

theorem at_zero {se : Int} {ps : List Pt} {j : Nat} {d : Pt} (hj : j < ps.length) (hd : ps.getD j Pt.zero = d) (hb : ∀ i, i < j → faultAt se ps i = 0) (ho : ownF d se = 0) (h : ∀ s' : Nat, (s' : Int) < se → ∀ k, k < j → ¬ (hasB d s' = true ∧ hasB (ps.getD k Pt.zero) s' = true)) : faultAt se ps j = 0 := by
  subst hd
  refine faultAt_no ho hj (fun k hk => ?_)
  have hx := ownF_zero (faultAt_zero (by omega) (hb k hk)).1
  have hy := ownF_zero ho
  exact not_meet (se := se) (by omega) (by omega) (fun s hs hh => h s hs k hk ⟨hh.2, hh.1⟩)

set_option maxHeartbeats 4000000 in
theorem rcheck_bad {p : Nat → Prop} (fr dp se : Int) (v : Value) (ps : List Pt) (w : World) (h : RdP p w v ps) (hn : numF ps.length fr dp se ≠ 0) :
    Calls Try.prog 38 #[.agg #[.int .i64 fr, .int .i64 dp, .int .i64 se, v]] w fun e w' => e = .returned (.tuple #[.string (wh (ck fr dp se ps).1), .int .i64 (ck fr dp se ps).2]) ∧ Grow w w' := by
  have HS : Hid (wh (ck fr dp se ps).1 = wh (numF ps.length fr dp se) ∧ (ck fr dp se ps).2 = 0) := by rw [ck_num hn]; exact ⟨rfl, rfl⟩
  have HG : Hid (Grow w (w.alloc (.cells #[.int .i64 fr, .int .i64 dp, .int .i64 se, v] 24))) := (Grow.refl w).alloc _
  obtain ⟨a, cp, rfl, h1, h2, -⟩ := h
  unfold maxLen at h2
  by_cases t0 : 1 ≤ (ps.length : Int) ∧ (ps.length : Int) ≤ 16
  · skip
    by_cases t1 : 1 ≤ fr ∧ fr ≤ 64
    · skip
      by_cases t2 : 1 ≤ dp ∧ dp ≤ 8
      · skip
        by_cases t3 : 1 ≤ se ∧ se ≤ 1024
        · skip
          exact absurd (numF_of (by omega)) hn
        · skip
          have e0 : decide (¬ (1 ≤ (ps.length : Int) ∧ (ps.length : Int) ≤ 16)) = false := by simp; omega
          have c0 := fun w' => out_any (ps.length : Int) 1 16 w'
          rw [e0] at c0
          clear e0
          have e1 : decide (¬ (1 ≤ fr ∧ fr ≤ 64)) = false := by simp; omega
          have c1 := fun w' => out_any fr 1 64 w'
          rw [e1] at c1
          clear e1
          have e2 : decide (¬ (1 ≤ dp ∧ dp ≤ 8)) = false := by simp; omega
          have c2 := fun w' => out_any dp 1 8 w'
          rw [e2] at c2
          clear e2
          have e3 : decide (¬ (1 ≤ se ∧ se ≤ 1024)) = true := by simp; omega
          have c3 := fun w' => out_any se 1 1024 w'
          rw [e3] at c3
          clear e3
          have en : numF ps.length fr dp se = 4 := by
            unfold numF
            rw [if_neg (by omega), if_neg (by omega), if_neg (by omega), if_pos (by omega)]
          rw [en] at HS
          clear en hn
          clear t0 t1 t2 t3
          go_enter Try.func38, Try.ntmps38
          go_wp2_with fail
          refine (c0 _).mono ?_
          rintro e w' ⟨rfl, rfl⟩
          go_wp2_with fail
          refine (c1 _).mono ?_
          rintro e w' ⟨rfl, rfl⟩
          go_wp2_with fail
          refine (c2 _).mono ?_
          rintro e w' ⟨rfl, rfl⟩
          go_wp2_with fail
          refine (c3 _).mono ?_
          rintro e w' ⟨rfl, rfl⟩
          go_wp2
          go_ret2
          exact ⟨ret_pair HS.out.1.symm HS.out.2.symm, HG.out⟩
      · skip
        have e0 : decide (¬ (1 ≤ (ps.length : Int) ∧ (ps.length : Int) ≤ 16)) = false := by simp; omega
        have c0 := fun w' => out_any (ps.length : Int) 1 16 w'
        rw [e0] at c0
        clear e0
        have e1 : decide (¬ (1 ≤ fr ∧ fr ≤ 64)) = false := by simp; omega
        have c1 := fun w' => out_any fr 1 64 w'
        rw [e1] at c1
        clear e1
        have e2 : decide (¬ (1 ≤ dp ∧ dp ≤ 8)) = true := by simp; omega
        have c2 := fun w' => out_any dp 1 8 w'
        rw [e2] at c2
        clear e2
        have en : numF ps.length fr dp se = 3 := by
          unfold numF
          rw [if_neg (by omega), if_neg (by omega), if_pos (by omega)]
        rw [en] at HS
        clear en hn
        clear t0 t1 t2
        go_enter Try.func38, Try.ntmps38
        go_wp2_with fail
        refine (c0 _).mono ?_
        rintro e w' ⟨rfl, rfl⟩
        go_wp2_with fail
        refine (c1 _).mono ?_
        rintro e w' ⟨rfl, rfl⟩
        go_wp2_with fail
        refine (c2 _).mono ?_
        rintro e w' ⟨rfl, rfl⟩
        go_wp2
        go_ret2
        exact ⟨ret_pair HS.out.1.symm HS.out.2.symm, HG.out⟩
    · skip
      have e0 : decide (¬ (1 ≤ (ps.length : Int) ∧ (ps.length : Int) ≤ 16)) = false := by simp; omega
      have c0 := fun w' => out_any (ps.length : Int) 1 16 w'
      rw [e0] at c0
      clear e0
      have e1 : decide (¬ (1 ≤ fr ∧ fr ≤ 64)) = true := by simp; omega
      have c1 := fun w' => out_any fr 1 64 w'
      rw [e1] at c1
      clear e1
      have en : numF ps.length fr dp se = 2 := by
        unfold numF
        rw [if_neg (by omega), if_pos (by omega)]
      rw [en] at HS
      clear en hn
      clear t0 t1
      go_enter Try.func38, Try.ntmps38
      go_wp2_with fail
      refine (c0 _).mono ?_
      rintro e w' ⟨rfl, rfl⟩
      go_wp2_with fail
      refine (c1 _).mono ?_
      rintro e w' ⟨rfl, rfl⟩
      go_wp2
      go_ret2
      exact ⟨ret_pair HS.out.1.symm HS.out.2.symm, HG.out⟩
  · skip
    have e0 : decide (¬ (1 ≤ (ps.length : Int) ∧ (ps.length : Int) ≤ 16)) = true := by simp; omega
    have c0 := fun w' => out_any (ps.length : Int) 1 16 w'
    rw [e0] at c0
    clear e0
    have en : numF ps.length fr dp se = 1 := by
      unfold numF
      rw [if_pos (by omega)]
    rw [en] at HS
    clear en hn
    clear t0
    go_enter Try.func38, Try.ntmps38
    go_wp2_with fail
    refine (c0 _).mono ?_
    rintro e w' ⟨rfl, rfl⟩
    go_wp2
    go_ret2
    exact ⟨ret_pair HS.out.1.symm HS.out.2.symm, HG.out⟩

set_option maxHeartbeats 8000000 in
theorem rcheck_good {p : Nat → Prop} (fr dp se : Int) (v : Value) (ps : List Pt) (w : World) (h : RdP p w v ps) (hn : numF ps.length fr dp se = 0) :
    Calls Try.prog 38 #[.agg #[.int .i64 fr, .int .i64 dp, .int .i64 se, v]] w fun e w' => e = .returned (.tuple #[.string (wh (ck fr dp se ps).1), .int .i64 (ck fr dp se ps).2]) ∧ Grow w w' := by
  have hb := numF_zero hn
  obtain ⟨N, rfl⟩ : ∃ N : Nat, se = N := ⟨se.toNat, by omega⟩
  have HR : Hid (RdP p w v ps ∧ 1 ≤ (N : Int) ∧ (N : Int) ≤ 1024) := ⟨h, by omega⟩
  have HC : Hid (((pf N ps).1 ≠ 0 → ck fr dp N ps = pf N ps) ∧ ((pf N ps).1 = 0 → qsum ps = fr → ck fr dp N ps = (0, 0)) ∧ ((pf N ps).1 = 0 → qsum ps ≠ fr → ck fr dp N ps = (9, 0))) := ⟨fun hp => ck_part hn hp, fun hp hs => ck_ok hn hp hs, fun hp hs => ck_sum hn hp hs⟩
  have HI : Hid (VarAt (w.alloc (.cells #[.int .i64 fr, .int .i64 dp, .int .i64 (N : Int), v] 24)) w.heap.size [.int .i64 fr, .int .i64 dp, .int .i64 (N : Int), v] ∧ Grow w (w.alloc (.cells #[.int .i64 fr, .int .i64 dp, .int .i64 (N : Int), v] 24))) := ⟨VarAt.new w [.int .i64 fr, .int .i64 dp, .int .i64 (N : Int), v] _, (Grow.refl w).alloc _⟩
  obtain ⟨a, cp, rfl, h1, h2, -⟩ := h
  unfold maxLen at h2
  have e0 : decide (¬ (1 ≤ (ps.length : Int) ∧ (ps.length : Int) ≤ 16)) = false := by simp; omega
  have c0 := fun w' => out_any (ps.length : Int) 1 16 w'
  rw [e0] at c0
  clear e0
  have e1 : decide (¬ (1 ≤ fr ∧ fr ≤ 64)) = false := by simp; omega
  have c1 := fun w' => out_any fr 1 64 w'
  rw [e1] at c1
  clear e1
  have e2 : decide (¬ (1 ≤ dp ∧ dp ≤ 8)) = false := by simp; omega
  have c2 := fun w' => out_any dp 1 8 w'
  rw [e2] at c2
  clear e2
  have e3 : decide (¬ (1 ≤ (N : Int) ∧ (N : Int) ≤ 1024)) = false := by simp; omega
  have c3 := fun w' => out_any (N : Int) 1 1024 w'
  rw [e3] at c3
  clear e3
  have hlen : ps.length ≤ 16 := by omega
  clear hn hb
  go_enter Try.func38, Try.ntmps38
  go_wp2_with fail
  refine (c0 _).mono ?_
  rintro e w' ⟨rfl, rfl⟩
  go_wp2_with fail
  refine (c1 _).mono ?_
  rintro e w' ⟨rfl, rfl⟩
  go_wp2_with fail
  refine (c2 _).mono ?_
  rintro e w' ⟨rfl, rfl⟩
  go_wp2_with fail
  refine (c3 _).mono ?_
  rintro e w' ⟨rfl, rfl⟩
  clear c0 c1 c2 c3
  go_wp2
  generalize w.alloc (.cells #[.int .i64 fr, .int .i64 dp, .int .i64 (N : Int), .slice a ps.length cp] 24) = w1 at HI ⊢
  generalize w.heap.size = b1 at HI ⊢
  go_loopg [4, 5] ps.length (fun m sv iv wr => ∃ (j : Nat) (S : Int), m = ps.length - j ∧ j ≤ ps.length ∧ sv = .int .i64 S ∧ iv = .int .i64 j ∧ 0 ≤ S ∧ S ≤ 64 * j ∧ Hid (VarAt wr b1 [.int .i64 fr, .int .i64 dp, .int .i64 (N : Int), .slice a ps.length cp] ∧ Grow w wr ∧ S = qsum (ps.take j) ∧ (∀ i, i < j → faultAt N ps i = 0) ∧ pfFrom N ps (ps.length - j) j = pf N ps))
  case atStart => exact ⟨0, 0, by omega, by omega, rfl, rfl, by omega, by omega, HI.out.1, HI.out.2, rfl, fun i hi => absurd hi (Nat.not_lt_zero _), rfl⟩
  case round =>
    obtain ⟨j, S, hk, hj, rfl, rfl, hs0, hs1, X⟩ := hrel
    by_cases hlt : j < ps.length
    · have hle : (j : Int) < (ps.length : Int) := by omega
      have HL : Hid (j < ps.length ∧ gk = ps.length - j) := ⟨hlt, hk⟩
      have hw1 : IntKind.i64.wrap ((j : Int) + 1) = (j : Int) + 1 := by rw [IntKind.wrap_i64]; omega
      obtain ⟨bb, oo, rfl, _, _, hin⟩ := rdP_at HR.out.1 hlt
      have hin' := hin.grow X.out.2.1
      have HF : Hid ((ownF (ps.getD j Pt.zero) N ≠ 0 → faultAt N ps j = ownF (ps.getD j Pt.zero) N) ∧ (ownF (ps.getD j Pt.zero) N = 0 → (∀ s' : Nat, (s' : Int) < N → ∀ k, k < j → ¬ (hasB (ps.getD j Pt.zero) s' = true ∧ hasB (ps.getD k Pt.zero) s' = true)) → faultAt N ps j = 0) ∧ (ownF (ps.getD j Pt.zero) N = 0 → ∀ i, i < j → ∀ s : Int, hasB (ps.getD j Pt.zero) s = true → hasB (ps.getD i Pt.zero) s = true → faultAt N ps j = 8) ∧ qsum (ps.take (j + 1)) = qsum (ps.take j) + (ps.getD j Pt.zero).q) :=
        ⟨faultAt_own, fun ho hm => at_zero hlt rfl X.out.2.2.2.1 ho hm, fun ho i hi s h1 h2 => faultAt_meet ho hi hlt (meet_of_has h2 h1), qsum_next ps j hlt⟩
      generalize ps.getD j Pt.zero = d at hin' HF
      clear hin hk hj hlt
      obtain ⟨k0, k1, k2⟩ := hin'
      obtain ⟨⟨m0, m1, m2, m3⟩, -⟩ := X.out.1.four
      have X1 : Hid (VarAt (wr.alloc (.cells #[.int .i64 d.q, .int .i64 d.b, .int .i64 d.g] 57)) b1 [.int .i64 fr, .int .i64 dp, .int .i64 (N : Int), .slice (some ⟨bb, oo, none⟩) ps.length cp] ∧ VarAt (wr.alloc (.cells #[.int .i64 d.q, .int .i64 d.b, .int .i64 d.g] 57)) wr.heap.size [.int .i64 d.q, .int .i64 d.b, .int .i64 d.g] ∧ Grow w (wr.alloc (.cells #[.int .i64 d.q, .int .i64 d.b, .int .i64 d.g] 57)) ∧ S = qsum (ps.take j) ∧ (∀ i, i < j → faultAt N ps i = 0) ∧ pfFrom N ps (ps.length - j) j = pf N ps) :=
        ⟨X.out.1.grow ((Grow.refl _).alloc _), VarAt.new wr [.int .i64 d.q, .int .i64 d.b, .int .i64 d.g] _, X.out.2.1.alloc _, X.out.2.2⟩
      clear X
      obtain ⟨⟨n0, n1, n2, n3⟩, -⟩ := X1.out.1.four
      by_cases hq : 1 ≤ d.q ∧ d.q ≤ 64
      · skip
        by_cases hg : 1 ≤ d.g ∧ d.g ≤ 64
        · skip
          have hwg : IntKind.i64.wrap (2 * d.g) = 2 * d.g := by rw [IntKind.wrap_i64]; omega
          have hwb : IntKind.i64.wrap ((N : Int) - 2 * d.g) = (N : Int) - 2 * d.g := by have := HR.out.2; rw [IntKind.wrap_i64]; omega
          by_cases hbb : 0 ≤ d.b ∧ d.b ≤ (N : Int) - 2 * d.g
          · skip
            have e0 : decide (¬ (1 ≤ d.q ∧ d.q ≤ 64)) = false := by simp; omega
            have c0 := fun w' => out_any d.q 1 (64) w'
            rw [e0] at c0
            clear e0
            have e1 : decide (¬ (1 ≤ d.g ∧ d.g ≤ 64)) = false := by simp; omega
            have c1 := fun w' => out_any d.g 1 (64) w'
            rw [e1] at c1
            clear e1
            have e2 : decide (¬ (0 ≤ d.b ∧ d.b ≤ (N : Int) - 2 * d.g)) = false := by simp; omega
            have c2 := fun w' => out_any d.b 0 ((N : Int) - 2 * d.g) w'
            rw [e2] at c2
            clear e2
            have HO : Hid (ownF d N = 0 ∧ 0 ≤ d.g ∧ d.g ≤ 1000 ∧ 0 ≤ d.b ∧ d.b ≤ 100000 ∧ 1 ≤ d.q ∧ d.q ≤ 64) := by
              have := HR.out.2
              exact ⟨ownF_of (by omega), by omega, by omega, by omega, by omega, by omega, by omega⟩
            clear hq hg hbb
            go_wp2_with fail
            refine (c0 _).mono ?_
            rintro e w' ⟨rfl, rfl⟩
            go_wp2_with fail
            refine (c1 _).mono ?_
            rintro e w' ⟨rfl, rfl⟩
            go_wp2_with fail
            refine (c2 _).mono ?_
            rintro e w' ⟨rfl, rfl⟩
            have X2 : Hid (VarAt (wr.alloc (.cells #[.int .i64 d.q, .int .i64 d.b, .int .i64 d.g] 57)) b1 [.int .i64 fr, .int .i64 dp, .int .i64 (N : Int), .slice (some ⟨bb, oo, none⟩) ps.length cp] ∧ VarAt (wr.alloc (.cells #[.int .i64 d.q, .int .i64 d.b, .int .i64 d.g] 57)) wr.heap.size [.int .i64 d.q, .int .i64 d.b, .int .i64 d.g] ∧ Grow w (wr.alloc (.cells #[.int .i64 d.q, .int .i64 d.b, .int .i64 d.g] 57))) := ⟨X1.out.1, X1.out.2.1, X1.out.2.2.1⟩
            have X3 : Hid (S = qsum (ps.take j) ∧ (∀ i, i < j → faultAt N ps i = 0) ∧ pfFrom N ps (ps.length - j) j = pf N ps) := X1.out.2.2.2
            clear X1 c0 c1 c2
            go_wp2
            clear k0 k1 k2 m0 m1 m2 m3 n0 n1 n2 n3
            generalize wr.alloc (.cells #[.int .i64 d.q, .int .i64 d.b, .int .i64 d.g] 57) = w2 at X2 ⊢
            generalize wr.heap.size = b6 at X2 ⊢
            clear wr
            go_loopg [7] N (fun m tv wr => ∃ s : Nat, m = N - s ∧ s ≤ N ∧ tv = .int .i64 s ∧ Hid (VarAt wr b1 [.int .i64 fr, .int .i64 dp, .int .i64 (N : Int), .slice (some ⟨bb, oo, none⟩) ps.length cp] ∧ VarAt wr b6 [.int .i64 d.q, .int .i64 d.b, .int .i64 d.g] ∧ Grow w wr ∧ ∀ s' : Nat, s' < s → ∀ k, k < j → ¬ (hasB d s' = true ∧ hasB (ps.getD k Pt.zero) s' = true)))
            case atStart => exact ⟨0, by omega, by omega, rfl, X2.out.1, X2.out.2.1, X2.out.2.2, fun s hs => absurd hs (Nat.not_lt_zero _)⟩
            case round =>
              obtain ⟨s, hk, hsN, rfl, Y⟩ := hrel
              clear X2
              obtain ⟨⟨m0, m1, m2, m3⟩, -⟩ := Y.out.1.four
              obtain ⟨⟨d0, d1, d2⟩, -⟩ := Y.out.2.1.three
              by_cases hst : s < N
              · have hle2 : (s : Int) < (N : Int) := by omega
                have HK : Hid (s < N ∧ gk = N - s) := ⟨hst, hk⟩
                have hw2 : IntKind.i64.wrap ((s : Int) + 1) = (s : Int) + 1 := by have := HR.out.2; rw [IntKind.wrap_i64]; omega
                have hh := fun w' => has_any d s w' HO.out.2.1 HO.out.2.2.1 HO.out.2.2.2.1 HO.out.2.2.2.2.1
                clear hk hsN hst
                obtain ⟨t, ht⟩ : ∃ t, t = hasB d s := ⟨_, rfl⟩
                have HT : Hid (t = hasB d s) := ht
                rw [← ht] at hh
                clear ht
                go_wp2_with fail
                refine (hh _).mono ?_
                rintro e w3 ⟨rfl, g3⟩
                have Y2 : Hid (VarAt w3 b1 [.int .i64 fr, .int .i64 dp, .int .i64 (N : Int), .slice (some ⟨bb, oo, none⟩) ps.length cp] ∧ VarAt w3 b6 [.int .i64 d.q, .int .i64 d.b, .int .i64 d.g] ∧ Grow w w3) := ⟨Y.out.1.grow g3, Y.out.2.1.grow g3, Y.out.2.2.1.trans g3⟩
                have Y3 : Hid (∀ s' : Nat, s' < s → ∀ k, k < j → ¬ (hasB d s' = true ∧ hasB (ps.getD k Pt.zero) s' = true)) := Y.out.2.2.2
                clear Y g3 m0 m1 m2 m3 d0 d1 d2 hh hle2
                clear wr
                go_wp2
                go_loopg [9] j (fun m kv wr => ∃ k : Nat, m = j - k ∧ k ≤ j ∧ kv = .int .i64 k ∧ Hid (VarAt wr b1 [.int .i64 fr, .int .i64 dp, .int .i64 (N : Int), .slice (some ⟨bb, oo, none⟩) ps.length cp] ∧ VarAt wr b6 [.int .i64 d.q, .int .i64 d.b, .int .i64 d.g] ∧ Grow w wr ∧ ∀ k', k' < k → ¬ (hasB d s = true ∧ hasB (ps.getD k' Pt.zero) s = true)))
                case atStart => exact ⟨0, by omega, by omega, rfl, Y2.out.1, Y2.out.2.1, Y2.out.2.2, fun s hs => absurd hs (Nat.not_lt_zero _)⟩
                case round =>
                  obtain ⟨k, hk, hkj, rfl, Z⟩ := hrel
                  clear Y2
                  by_cases hkl : k < j
                  · have hle3 : (k : Int) < (j : Int) := by omega
                    cases t with
                    | true =>
                      have hkp : k < ps.length := by have := HL.out.1; omega
                      have hle4 : (k : Int) < (ps.length : Int) := by omega
                      have hw3 : IntKind.i64.wrap ((k : Int) + 1) = (k : Int) + 1 := by rw [IntKind.wrap_i64]; omega
                      have HK3 : Hid (k < j ∧ gk = j - k) := ⟨hkl, hk⟩
                      obtain ⟨bb', oo', he', _, _, hin⟩ := rdP_at HR.out.1 hkp
                      injection he' with he'
                      injection he' with eb eo
                      subst eb; subst eo
                      obtain ⟨k0, k1, k2⟩ := hin.grow Z.out.2.2.1
                      have hxb : 0 ≤ (ps.getD k Pt.zero).g ∧ (ps.getD k Pt.zero).g ≤ 1000 ∧ 0 ≤ (ps.getD k Pt.zero).b ∧ (ps.getD k Pt.zero).b ≤ 100000 := by
                        have := ownF_zero (faultAt_zero hkp (X3.out.2.1 k hkl)).1
                        have := HR.out.2
                        exact ⟨by omega, by omega, by omega, by omega⟩
                      have hh := fun w' => has_any (ps.getD k Pt.zero) s w' hxb.1 hxb.2.1 hxb.2.2.1 hxb.2.2.2
                      have HM : Hid ((hasB (ps.getD k Pt.zero) s = true → faultAt N ps j = 8) ∧ (hasB (ps.getD k Pt.zero) s = false → ∀ k', k' < k + 1 → ¬ (hasB d s = true ∧ hasB (ps.getD k' Pt.zero) s = true))) :=
                        ⟨fun hm => HF.out.2.2.1 HO.out.1 k hkl s HT.out.symm hm, fun hm k' hk' => by
                          by_cases e : k' = k
                          · rw [e, hm]; simp
                          · exact Z.out.2.2.2 k' (by omega)⟩
                      clear hin hkl hk hkj hkp hxb
                      obtain ⟨⟨m0, m1, m2, m3⟩, -⟩ := Z.out.1.four
                      generalize ps.getD k Pt.zero = x at k0 k1 k2 hh HM
                      cases hm : hasB x s with
                      | true =>
                        rw [hm] at hh
                        have HQ : Hid (ck fr dp N ps = (8, (j : Int))) := by
                          have hf := HM.out.1 hm
                          have hp := pf_hit HL.out.1 (by rw [hf]; omega)
                          rw [X3.out.2.2, hf] at hp
                          rw [HC.out.1 (by rw [hp]; simp), hp]; exact rfl
                        clear hm
                        go_wp2_with fail
                        refine (hh _).mono ?_
                        rintro e w4 ⟨rfl, g4⟩
                        go_wp2
                        try rw [Exit.noGoto_ret]
                        go_ret2
                        exact ⟨ret_pair (by rw [HQ.out]; rfl) (by rw [HQ.out]), Z.out.2.2.1.trans g4⟩
                      | false =>
                        rw [hm] at hh
                        have HN : Hid (∀ k', k' < k + 1 → ¬ (hasB d s = true ∧ hasB (ps.getD k' Pt.zero) s = true)) := HM.out.2 hm
                        clear hm
                        go_wp2_with fail
                        refine (hh _).mono ?_
                        rintro e w4 ⟨rfl, g4⟩
                        go_wp2
                        go_roundg (j - (k + 1))
                        case measure => have := HK3.out; omega
                        case rel => exact ⟨k + 1, rfl, by have := HK3.out; omega, by go_num, Z.out.1.grow g4, Z.out.2.1.grow g4, Z.out.2.2.1.trans g4, HN.out⟩
                    | false =>
                      go_wp2
                      go_roundg (N - (s + 1))
                      case measure => have := HK.out; omega
                      case rel => exact ⟨s + 1, rfl, by have := HK.out; omega, by go_num, Z.out.1, Z.out.2.1, Z.out.2.2.1, fun s' hs' k' hk' => by
                        by_cases e : s' = s
                        · rw [e, ← HT.out]; simp
                        · exact Y3.out s' (by omega) k' hk'⟩
                  · have hle3 : ¬ (k : Int) < (j : Int) := by omega
                    obtain rfl : k = j := by omega
                    go_wp2
                    go_roundg (N - (s + 1))
                    case measure => have := HK.out; omega
                    case rel => exact ⟨s + 1, rfl, by have := HK.out; omega, by go_num, Z.out.1, Z.out.2.1, Z.out.2.2.1, fun s' hs' k' hk' => by
                      by_cases e : s' = s
                      · rw [e]; exact Z.out.2.2.2 k' hk'
                      · exact Y3.out s' (by omega) k' hk'⟩
              · have hle2 : ¬ (s : Int) < (N : Int) := by omega
                have HE : Hid (faultAt N ps j = 0) := HF.out.2.1 HO.out.1 (fun s' hs' k hk => Y.out.2.2.2 s' (by omega) k hk)
                have hdq := HO.out.2.2.2.2.2
                have hw2 : IntKind.i64.wrap (S + d.q) = S + d.q := by have := HL.out; rw [IntKind.wrap_i64]; omega
                have HS1 : Hid (0 ≤ S + d.q ∧ S + d.q ≤ 64 * ((j + 1 : Nat) : Int) ∧ S + d.q = qsum (ps.take (j + 1))) := ⟨by omega, by omega, by rw [HF.out.2.2.2, X3.out.1]⟩
                clear hk hsN hst hdq
                go_wp2
                go_roundg (ps.length - (j + 1))
                case measure => have := HL.out; omega
                case rel =>
                  exact ⟨j + 1, S + d.q, rfl, HL.out.1, rfl, by go_num, HS1.out.1, HS1.out.2.1, Y.out.1, Y.out.2.2.1, HS1.out.2.2, fun i' hi' => by
                    by_cases e : i' = j
                    · rw [e]; exact HE.out
                    · exact X3.out.2.1 i' (by omega), by rw [← pf_step HL.out.1 HE.out]; exact X3.out.2.2⟩
          · skip
            have e0 : decide (¬ (1 ≤ d.q ∧ d.q ≤ 64)) = false := by simp; omega
            have c0 := fun w' => out_any d.q 1 (64) w'
            rw [e0] at c0
            clear e0
            have e1 : decide (¬ (1 ≤ d.g ∧ d.g ≤ 64)) = false := by simp; omega
            have c1 := fun w' => out_any d.g 1 (64) w'
            rw [e1] at c1
            clear e1
            have e2 : decide (¬ (0 ≤ d.b ∧ d.b ≤ (N : Int) - 2 * d.g)) = true := by simp; omega
            have c2 := fun w' => out_any d.b 0 ((N : Int) - 2 * d.g) w'
            rw [e2] at c2
            clear e2
            have HQ : Hid (ck fr dp N ps = (7, (j : Int))) := by
              have ho : ownF d N = 7 := by unfold ownF; rw [if_neg (by omega), if_neg (by omega), if_pos (by omega)]
              have hf := HF.out.1 (by rw [ho]; omega)
              have hp := pf_hit HL.out.1 (by rw [hf, ho]; omega)
              rw [X1.out.2.2.2.2.2, hf, ho] at hp
              rw [HC.out.1 (by rw [hp]; simp), hp]; exact rfl
            clear hq hg hbb
            go_wp2_with fail
            refine (c0 _).mono ?_
            rintro e w' ⟨rfl, rfl⟩
            go_wp2_with fail
            refine (c1 _).mono ?_
            rintro e w' ⟨rfl, rfl⟩
            go_wp2_with fail
            refine (c2 _).mono ?_
            rintro e w' ⟨rfl, rfl⟩
            go_wp2
            try rw [Exit.noGoto_ret]
            go_ret2
            exact ⟨ret_pair (by rw [HQ.out]; rfl) (by rw [HQ.out]), X1.out.2.2.1⟩
        · skip
          have e0 : decide (¬ (1 ≤ d.q ∧ d.q ≤ 64)) = false := by simp; omega
          have c0 := fun w' => out_any d.q 1 (64) w'
          rw [e0] at c0
          clear e0
          have e1 : decide (¬ (1 ≤ d.g ∧ d.g ≤ 64)) = true := by simp; omega
          have c1 := fun w' => out_any d.g 1 (64) w'
          rw [e1] at c1
          clear e1
          have HQ : Hid (ck fr dp N ps = (6, (j : Int))) := by
            have ho : ownF d N = 6 := by unfold ownF; rw [if_neg (by omega), if_pos (by omega)]
            have hf := HF.out.1 (by rw [ho]; omega)
            have hp := pf_hit HL.out.1 (by rw [hf, ho]; omega)
            rw [X1.out.2.2.2.2.2, hf, ho] at hp
            rw [HC.out.1 (by rw [hp]; simp), hp]; exact rfl
          clear hq hg
          go_wp2_with fail
          refine (c0 _).mono ?_
          rintro e w' ⟨rfl, rfl⟩
          go_wp2_with fail
          refine (c1 _).mono ?_
          rintro e w' ⟨rfl, rfl⟩
          go_wp2
          try rw [Exit.noGoto_ret]
          go_ret2
          exact ⟨ret_pair (by rw [HQ.out]; rfl) (by rw [HQ.out]), X1.out.2.2.1⟩
      · skip
        have e0 : decide (¬ (1 ≤ d.q ∧ d.q ≤ 64)) = true := by simp; omega
        have c0 := fun w' => out_any d.q 1 (64) w'
        rw [e0] at c0
        clear e0
        have HQ : Hid (ck fr dp N ps = (5, (j : Int))) := by
          have ho : ownF d N = 5 := by unfold ownF; rw [if_pos (by omega)]
          have hf := HF.out.1 (by rw [ho]; omega)
          have hp := pf_hit HL.out.1 (by rw [hf, ho]; omega)
          rw [X1.out.2.2.2.2.2, hf, ho] at hp
          rw [HC.out.1 (by rw [hp]; simp), hp]; exact rfl
        clear hq
        go_wp2_with fail
        refine (c0 _).mono ?_
        rintro e w' ⟨rfl, rfl⟩
        go_wp2
        try rw [Exit.noGoto_ret]
        go_ret2
        exact ⟨ret_pair (by rw [HQ.out]; rfl) (by rw [HQ.out]), X1.out.2.2.1⟩
    · have hle : ¬ (j : Int) < (ps.length : Int) := by omega
      obtain rfl : j = ps.length := by omega
      have HP : Hid ((pf N ps).1 = 0) := by rw [← X.out.2.2.2.2, pf_end]; exact rfl
      have hS : S = qsum ps := by have := X.out.2.2.1; rwa [List.take_length] at this
      obtain ⟨⟨m0, m1, m2, m3⟩, -⟩ := X.out.1.four
      by_cases hs : S = fr
      · have hd : (S == fr) = true := by simp [hs]
        have hd2 : (S != fr) = false := by simp [hs]
        have HQ : Hid (ck fr dp N ps = (0, 0)) := HC.out.2.1 HP.out (by rw [← hS]; exact hs)
        clear hs hS hs0 hs1
        go_wp2
        go_ret2
        exact ⟨ret_pair (by rw [HQ.out]; rfl) (by rw [HQ.out]), X.out.2.1⟩
      · have hd : (S == fr) = false := by simp [hs]
        have hd2 : (S != fr) = true := by simp [hs]
        have HQ : Hid (ck fr dp N ps = (9, 0)) := HC.out.2.2 HP.out (by rw [← hS]; exact hs)
        clear hs hS hs0 hs1
        go_wp2
        go_ret2
        exact ⟨ret_pair (by rw [HQ.out]; rfl) (by rw [HQ.out]), X.out.2.1⟩

theorem rcheck_any {p : Nat → Prop} (fr dp se : Int) (v : Value) (ps : List Pt) (w : World) (h : RdP p w v ps) :
    Calls Try.prog 38 #[.agg #[.int .i64 fr, .int .i64 dp, .int .i64 se, v]] w fun e w' => e = .returned (.tuple #[.string (wh (ck fr dp se ps).1), .int .i64 (ck fr dp se ps).2]) ∧ Grow w w' := by
  by_cases hn : numF ps.length fr dp se = 0
  · exact rcheck_good fr dp se v ps w h hn
  · exact rcheck_bad fr dp se v ps w h hn
end Go.Proofs.Ytlcphhlimcnnaaa
