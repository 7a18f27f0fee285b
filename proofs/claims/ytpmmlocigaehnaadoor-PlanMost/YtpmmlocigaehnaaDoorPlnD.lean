/-
  The walk of the document's Decimal. Conditions: each theorem's own.
-/
import Derived.Test.YtpmmlocigaehnaaDoorPlnU
import Derived.WalkArith
namespace Go.Proofs.YtpmmlocigaehnaaDoor
open Go.RowKit
set_option linter.unusedVariables false
set_option linter.unusedSimpArgs false

theorem one_str (w : World) (d : Nat) (hd : d < 10) : (convert 49 9 (.slice (some ⟨w.heap.size, 0, none⟩) 1 1)).run Tryd.prog (w.alloc (.cells #[.int .u8 (48 + (d : Int))] 5)) = .ok (.string (tx [UInt8.ofNat (48 + d)])) (w.alloc (.cells #[.int .u8 (48 + (d : Int))] 5)) := by
  have h : Rd .u8 (w.heap.size + 1) (w.alloc (.cells #[.int .u8 (48 + (d : Int))] 5)) (.slice (some ⟨w.heap.size, 0, none⟩) ([48 + (d : Int)] : List Int).length 1) [48 + (d : Int)] :=
    ⟨_, 1, rfl, Nat.le_refl _, by simp [maxLen], fun i hi => ⟨w.heap.size, 0, rfl, by omega, by
      obtain rfl : i = 0 := by simpa using hi
      exact World.cell?_alloc_new w _ _ 0⟩⟩
  have := h.string (P := Tryd.prog) 49 9 5 Tryd.underlying49 Tryd.underlying5 Tryd.underlying9
  have e : strOfNums [48 + (d : Int)] = tx [UInt8.ofNat (48 + d)] := by
    unfold strOfNums tx
    rw [List.map_cons, List.map_nil, show (48 + (d : Int)).toNat = 48 + d by omega]
  rw [e] at this
  exact this

/-- what the walk asks of a number's last digit -/
theorem wrap_dig (d : Nat) (hd : d < 10) : IntKind.i64.wrap (48 + (d : Int)) = 48 + (d : Int) ∧ IntKind.u8.wrap (48 + (d : Int)) = 48 + (d : Int) := ⟨by rw [IntKind.wrap_i64]; omega, by rw [IntKind.wrap_u8]; omega⟩

set_option maxHeartbeats 4000000 in
theorem dec_a (n : Int) (d : Nat) (w : World) (hb : -9223372036854775808 ≤ n ∧ n ≤ 9223372036854775807) (hd : d = n.natAbs % 10) (hS : -10 < n ∧ n < 10) (hA : n < 0 ∧ 0 < d) :
    Calls Tryd.prog 23 #[.int .i64 n] w fun e w' => e = .returned (.string (tx (Lib.itoa n))) ∧ Grow w w' := by
  have hd10 : d < 10 := by omega
  obtain ⟨hw1, hw2⟩ := wrap_dig d hd10
  have cs := one_str w d hd10
  have HE : Hid (UInt8.ofNat (48 + d) = lastD n) := by show _ = _; unfold lastD; rw [hd]
  have g1 : Grow w (w.alloc (.cells #[.int .u8 (48 + (d : Int))] 5)) := (Grow.refl w).alloc _
  obtain ⟨m, hm⟩ : ∃ m, n.tmod 10 = m := ⟨_, rfl⟩
  have hmd : m = -(d : Int) := by
    obtain ⟨u, rfl⟩ : ∃ u : Nat, n = -(u : Int) := ⟨n.natAbs, by omega⟩
    rw [← hm, Int.neg_tmod, Int.tmod_eq_emod_of_nonneg (by omega)]
    rw [Int.natAbs_neg, Int.natAbs_natCast] at hd
    omega
  have hm0 : m < 0 := by omega
  have hneg : IntKind.i64.wrap (-m) = (d : Int) := by rw [IntKind.wrap_i64]; omega
  have f1 : -10 < n := by omega
  have f2 : n < 10 := by omega
  have f3 : n < 0 := by omega
  have HT : Hid (Lib.itoa n = [45] ++ [UInt8.ofNat (48 + d)]) := by show _ = _; rw [itoa_small f1 f2, if_pos f3, HE.out]; rfl
  have q1 := tx_add [45] [UInt8.ofNat (48 + d)] (by simp)
  have e0 : tx [45] = ⟨#[45]⟩ := rfl
  rw [e0] at q1
  rw [HT.out]
  clear e0
  generalize tx [UInt8.ofNat (48 + d)] = S at cs q1 ⊢
  generalize tx ([45] ++ [UInt8.ofNat (48 + d)]) = T at q1 ⊢
  have HG := hid g1
  clear g1 hb hd HE HT hmd hA hS
  go_enter Tryd.func23, Tryd.ntmps23
  go_wp2
  go_ret
  exact ⟨rfl, HG.out⟩

set_option maxHeartbeats 4000000 in
theorem dec_b (n : Int) (d : Nat) (w : World) (hb : -9223372036854775808 ≤ n ∧ n ≤ 9223372036854775807) (hd : d = n.natAbs % 10) (hS : -10 < n ∧ n < 10) (h0 : 0 ≤ n) (hB : n.tmod 10 = (d : Int)) :
    Calls Tryd.prog 23 #[.int .i64 n] w fun e w' => e = .returned (.string (tx (Lib.itoa n))) ∧ Grow w w' := by
  have hd10 : d < 10 := by omega
  obtain ⟨hw1, hw2⟩ := wrap_dig d hd10
  have cs := one_str w d hd10
  have HE : Hid (UInt8.ofNat (48 + d) = lastD n) := by show _ = _; unfold lastD; rw [hd]
  have g1 : Grow w (w.alloc (.cells #[.int .u8 (48 + (d : Int))] 5)) := (Grow.refl w).alloc _
  have hm : n.tmod 10 = (d : Int) := hB
  have hm0 : ¬ (d : Int) < 0 := by omega
  have f1 : -10 < n := by omega
  have f2 : n < 10 := by omega
  have f3 : ¬ n < 0 := by omega
  have HT : Hid (Lib.itoa n = [UInt8.ofNat (48 + d)]) := by show _ = _; rw [itoa_small f1 f2, if_neg f3, HE.out]
  rw [HT.out]
  generalize tx [UInt8.ofNat (48 + d)] = S at cs ⊢
  have HG := hid g1
  clear g1 hb hd HE HT hB hS
  go_enter Tryd.func23, Tryd.ntmps23
  go_wp2
  go_ret
  exact ⟨rfl, HG.out⟩

set_option maxHeartbeats 4000000 in
theorem dec_c (n : Int) (d : Nat) (w : World) (hb : -9223372036854775808 ≤ n ∧ n ≤ 9223372036854775807) (hd : d = n.natAbs % 10) (hL : n ≤ -10) (hA : n < 0 ∧ 0 < d)
    (kd : ∀ u : World, Calls Tryd.prog 23 #[.int .i64 (n.tdiv 10)] u fun e w' => e = .returned (.string (tx (Lib.itoa (n.tdiv 10)))) ∧ Grow u w') :
    Calls Tryd.prog 23 #[.int .i64 n] w fun e w' => e = .returned (.string (tx (Lib.itoa n))) ∧ Grow w w' := by
  have hd10 : d < 10 := by omega
  obtain ⟨hw1, hw2⟩ := wrap_dig d hd10
  have cs := one_str w d hd10
  have HE : Hid (UInt8.ofNat (48 + d) = lastD n) := by show _ = _; unfold lastD; rw [hd]
  have g1 : Grow w (w.alloc (.cells #[.int .u8 (48 + (d : Int))] 5)) := (Grow.refl w).alloc _
  obtain ⟨m, hm⟩ : ∃ m, n.tmod 10 = m := ⟨_, rfl⟩
  have hmd : m = -(d : Int) := by
    obtain ⟨u, rfl⟩ : ∃ u : Nat, n = -(u : Int) := ⟨n.natAbs, by omega⟩
    rw [← hm, Int.neg_tmod, Int.tmod_eq_emod_of_nonneg (by omega)]
    rw [Int.natAbs_neg, Int.natAbs_natCast] at hd
    omega
  have hm0 : m < 0 := by omega
  have hneg : IntKind.i64.wrap (-m) = (d : Int) := by rw [IntKind.wrap_i64]; omega
  have f1 : ¬ -10 < n := by omega
  have HT : Hid (Lib.itoa n = Lib.itoa (n.tdiv 10) ++ [UInt8.ofNat (48 + d)]) := by show _ = _; rw [itoa_big (by omega), HE.out]
  have hwf : (Lit.int .i64 (n.tdiv 10)).wf = true := by
    have : n.tdiv 10 = if n < 0 then -((-n) / 10) else n / 10 := by
      split
      · obtain ⟨u, rfl⟩ : ∃ u : Nat, n = -(u : Int) := ⟨n.natAbs, by omega⟩
        rw [Int.neg_tdiv, Int.tdiv_eq_ediv_of_nonneg (by omega)]; omega
      · rw [Int.tdiv_eq_ediv_of_nonneg (by omega)]
    rw [this]
    exact WalkArith.wf_i64 ⟨by split <;> omega, by split <;> omega⟩
  have hbq := bounds_i64 hwf
  have q1 := tx_add (Lib.itoa (n.tdiv 10)) [UInt8.ofNat (48 + d)] (by have := itoa_len _ hwf; simp; omega)
  rw [HT.out]
  generalize Lib.itoa (n.tdiv 10) ++ [UInt8.ofNat (48 + d)] = M at q1 ⊢
  generalize Lib.itoa (n.tdiv 10) = Q at q1 kd
  obtain ⟨q, hq⟩ : ∃ q, n.tdiv 10 = q := ⟨_, rfl⟩
  rw [hq] at kd hbq
  have hqw : IntKind.i64.wrap q = q := by rw [IntKind.wrap_i64]; omega
  have HK := hid kd
  clear kd hwf hbq
  generalize tx [UInt8.ofNat (48 + d)] = S at cs q1 
  generalize tx Q = TQ at q1 HK
  generalize tx M = T at q1 ⊢
  have HG := hid g1
  clear g1 hb hd HE HT hmd hA hL
  go_enter Tryd.func23, Tryd.ntmps23
  go_wp2_with fail
  refine (HK.out _).mono ?_
  rintro e w2 ⟨rfl, g2⟩
  have z1 := q1 w2
  go_wp2
  go_ret
  exact ⟨rfl, HG.out.trans g2⟩

set_option maxHeartbeats 4000000 in
theorem dec_d (n : Int) (d : Nat) (w : World) (hb : -9223372036854775808 ≤ n ∧ n ≤ 9223372036854775807) (hd : d = n.natAbs % 10) (hL : n ≤ -10) (hB : n.tmod 10 = (d : Int))
    (kd : ∀ u : World, Calls Tryd.prog 23 #[.int .i64 (n.tdiv 10)] u fun e w' => e = .returned (.string (tx (Lib.itoa (n.tdiv 10)))) ∧ Grow u w') :
    Calls Tryd.prog 23 #[.int .i64 n] w fun e w' => e = .returned (.string (tx (Lib.itoa n))) ∧ Grow w w' := by
  have hd10 : d < 10 := by omega
  obtain ⟨hw1, hw2⟩ := wrap_dig d hd10
  have cs := one_str w d hd10
  have HE : Hid (UInt8.ofNat (48 + d) = lastD n) := by show _ = _; unfold lastD; rw [hd]
  have g1 : Grow w (w.alloc (.cells #[.int .u8 (48 + (d : Int))] 5)) := (Grow.refl w).alloc _
  have hm : n.tmod 10 = (d : Int) := hB
  have hm0 : ¬ (d : Int) < 0 := by omega
  have f1 : ¬ -10 < n := by omega
  have HT : Hid (Lib.itoa n = Lib.itoa (n.tdiv 10) ++ [UInt8.ofNat (48 + d)]) := by show _ = _; rw [itoa_big (by omega), HE.out]
  have hwf : (Lit.int .i64 (n.tdiv 10)).wf = true := by
    have : n.tdiv 10 = if n < 0 then -((-n) / 10) else n / 10 := by
      split
      · obtain ⟨u, rfl⟩ : ∃ u : Nat, n = -(u : Int) := ⟨n.natAbs, by omega⟩
        rw [Int.neg_tdiv, Int.tdiv_eq_ediv_of_nonneg (by omega)]; omega
      · rw [Int.tdiv_eq_ediv_of_nonneg (by omega)]
    rw [this]
    exact WalkArith.wf_i64 ⟨by split <;> omega, by split <;> omega⟩
  have hbq := bounds_i64 hwf
  have q1 := tx_add (Lib.itoa (n.tdiv 10)) [UInt8.ofNat (48 + d)] (by have := itoa_len _ hwf; simp; omega)
  rw [HT.out]
  generalize Lib.itoa (n.tdiv 10) ++ [UInt8.ofNat (48 + d)] = M at q1 ⊢
  generalize Lib.itoa (n.tdiv 10) = Q at q1 kd
  obtain ⟨q, hq⟩ : ∃ q, n.tdiv 10 = q := ⟨_, rfl⟩
  rw [hq] at kd hbq
  have hqw : IntKind.i64.wrap q = q := by rw [IntKind.wrap_i64]; omega
  have HK := hid kd
  clear kd hwf hbq
  generalize tx [UInt8.ofNat (48 + d)] = S at cs q1 
  generalize tx Q = TQ at q1 HK
  generalize tx M = T at q1 ⊢
  have HG := hid g1
  clear g1 hb hd HE HT hB hL
  go_enter Tryd.func23, Tryd.ntmps23
  go_wp2_with fail
  refine (HK.out _).mono ?_
  rintro e w2 ⟨rfl, g2⟩
  have z1 := q1 w2
  go_wp2
  go_ret
  exact ⟨rfl, HG.out.trans g2⟩

set_option maxHeartbeats 4000000 in
theorem dec_e (n : Int) (d : Nat) (w : World) (hb : -9223372036854775808 ≤ n ∧ n ≤ 9223372036854775807) (hd : d = n.natAbs % 10) (hL : 10 ≤ n) (hB : n.tmod 10 = (d : Int))
    (kd : ∀ u : World, Calls Tryd.prog 23 #[.int .i64 (n.tdiv 10)] u fun e w' => e = .returned (.string (tx (Lib.itoa (n.tdiv 10)))) ∧ Grow u w') :
    Calls Tryd.prog 23 #[.int .i64 n] w fun e w' => e = .returned (.string (tx (Lib.itoa n))) ∧ Grow w w' := by
  have hd10 : d < 10 := by omega
  obtain ⟨hw1, hw2⟩ := wrap_dig d hd10
  have cs := one_str w d hd10
  have HE : Hid (UInt8.ofNat (48 + d) = lastD n) := by show _ = _; unfold lastD; rw [hd]
  have g1 : Grow w (w.alloc (.cells #[.int .u8 (48 + (d : Int))] 5)) := (Grow.refl w).alloc _
  have hm : n.tmod 10 = (d : Int) := hB
  have hm0 : ¬ (d : Int) < 0 := by omega
  have f1 : -10 < n := by omega
  have f2 : ¬ n < 10 := by omega
  have HT : Hid (Lib.itoa n = Lib.itoa (n.tdiv 10) ++ [UInt8.ofNat (48 + d)]) := by show _ = _; rw [itoa_big (by omega), HE.out]
  have hwf : (Lit.int .i64 (n.tdiv 10)).wf = true := by
    have : n.tdiv 10 = if n < 0 then -((-n) / 10) else n / 10 := by
      split
      · obtain ⟨u, rfl⟩ : ∃ u : Nat, n = -(u : Int) := ⟨n.natAbs, by omega⟩
        rw [Int.neg_tdiv, Int.tdiv_eq_ediv_of_nonneg (by omega)]; omega
      · rw [Int.tdiv_eq_ediv_of_nonneg (by omega)]
    rw [this]
    exact WalkArith.wf_i64 ⟨by split <;> omega, by split <;> omega⟩
  have hbq := bounds_i64 hwf
  have q1 := tx_add (Lib.itoa (n.tdiv 10)) [UInt8.ofNat (48 + d)] (by have := itoa_len _ hwf; simp; omega)
  rw [HT.out]
  generalize Lib.itoa (n.tdiv 10) ++ [UInt8.ofNat (48 + d)] = M at q1 ⊢
  generalize Lib.itoa (n.tdiv 10) = Q at q1 kd
  obtain ⟨q, hq⟩ : ∃ q, n.tdiv 10 = q := ⟨_, rfl⟩
  rw [hq] at kd hbq
  have hqw : IntKind.i64.wrap q = q := by rw [IntKind.wrap_i64]; omega
  have HK := hid kd
  clear kd hwf hbq
  generalize tx [UInt8.ofNat (48 + d)] = S at cs q1 
  generalize tx Q = TQ at q1 HK
  generalize tx M = T at q1 ⊢
  have HG := hid g1
  clear g1 hb hd HE HT hB hL
  go_enter Tryd.func23, Tryd.ntmps23
  go_wp2_with fail
  refine (HK.out _).mono ?_
  rintro e w2 ⟨rfl, g2⟩
  have z1 := q1 w2
  go_wp2
  go_ret
  exact ⟨rfl, HG.out.trans g2⟩

theorem decimal_all : ∀ (N : Nat) (n : Int) (w : World), n.natAbs ≤ N → (Lit.int .i64 n).wf = true → Calls Tryd.prog 23 #[.int .i64 n] w fun e w' => e = .returned (.string (tx (Lib.itoa n))) ∧ Grow w w' := by
  intro N
  induction N using Nat.strongRecOn with
  | _ N ih =>
    intro n w hN hn
    have hb := bounds_i64 hn
    have kd : ¬ (-10 < n ∧ n < 10) → ∀ u : World, Calls Tryd.prog 23 #[.int .i64 (n.tdiv 10)] u fun e w' => e = .returned (.string (tx (Lib.itoa (n.tdiv 10)))) ∧ Grow u w' := fun h u => by
      have e : (n.tdiv 10).natAbs = n.natAbs / 10 := by rw [Int.natAbs_tdiv]; rfl
      exact ih (n.natAbs / 10) (by omega) (n.tdiv 10) u (by omega) (WalkArith.wf_i64 ⟨by omega, by omega⟩)
    by_cases hs : -10 < n ∧ n < 10
    · by_cases h0 : n < 0
      · exact dec_a n _ w hb rfl hs ⟨h0, by omega⟩
      · exact dec_b n _ w hb rfl hs (by omega) (by rw [Int.tmod_eq_emod_of_nonneg (by omega)]; omega)
    · by_cases h0 : n < 0
      · by_cases hz : n.natAbs % 10 = 0
        · refine dec_d n _ w hb rfl (by omega) ?_ (kd hs)
          obtain ⟨u, rfl⟩ : ∃ u : Nat, n = -(u : Int) := ⟨n.natAbs, by omega⟩
          rw [Int.natAbs_neg, Int.natAbs_natCast] at hz ⊢
          rw [Int.neg_tmod, Int.tmod_eq_emod_of_nonneg (by omega)]
          omega
        · exact dec_c n _ w hb rfl (by omega) ⟨h0, by omega⟩ (kd hs)
      · exact dec_e n _ w hb rfl (by omega) (by rw [Int.tmod_eq_emod_of_nonneg (by omega)]; omega) (kd hs)
theorem decimal_any (n : Int) (w : World) (hn : (Lit.int .i64 n).wf = true) : Calls Tryd.prog 23 #[.int .i64 n] w fun e w' => e = .returned (.string (tx (Lib.itoa n))) ∧ Grow w w' := decimal_all _ n w (Nat.le_refl _) hn
end Go.Proofs.YtpmmlocigaehnaaDoor
