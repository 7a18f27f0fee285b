/-
  The walk of DeviceTurns. Conditions: the theorem's own.
-/
import Derived.Test.YtpkoiogdkaklfaaDevLive
import Derived.Test.YtpkoiogdkaklfaaDevTurn
import Derived.Test.YtpkoiogdkaklfaaDevCom
import Derived.Test.YtpkoiogdkaklfaaCelFill
namespace Go.Proofs.Ytpkoiogdkaklfaa
open Go.RowKit
set_option linter.unusedVariables false
set_option linter.unusedSimpArgs false

set_option maxRecDepth 16000 in
set_option maxHeartbeats 8000000 in
theorem deviceTurns_walk (at0 pl0 y0 : Int) (v : Value) (zs : List Int) (w : World) (hat : (Lit.int .i64 at0).wf = true) (hpl : (Lit.int .i64 pl0).wf = true) (hy : 0 ≤ y0 ∧ y0 < 256) (hv : Rd .u8 w.heap.size w v zs) (hz : Oct zs) :
    Calls Try.prog 7 #[.int .i64 at0, .int .i64 pl0, .int .u8 y0, v] w fun e w' => e = .returned (.bool true) ∧ Grow w w' := by
  have hN : Calls Try.prog 10 #[.int .i64 4] w fun e w' => ∃ b, e = .returned (.tuple #[.pointer (some ⟨b, 0, none⟩), .int .i64 0]) ∧ ∃ bl bt, DevAt w' (fun i => i ≠ b ∧ i ≠ bl ∧ i ≠ bt) b bl bt 0 (List.replicate 4 zcell) (List.replicate 4 []) [] ∧ Grow w w' ∧ w.heap.size ≤ b ∧ w.heap.size ≤ bl ∧ w.heap.size ≤ bt := dnew_yes 4 w (by omega) (by omega)
  have hva : ∃ a c, v = .slice a zs.length c := by obtain ⟨a, c, e, -⟩ := hv; exact ⟨a, c, e⟩
  obtain ⟨av, cv, rfl⟩ := hva
  by_cases hy0 : y0 = 0
  · subst hy0
    go_enter Try.func7, Try.ntmps7
    go_wp2_with fail
    refine hN.mono ?_
    rintro e w1 ⟨b, rfl, bl, bt, hD1, hg1, hb, hbl, hbt⟩
    have H1 : Hid (DevAt w1 (fun i => i ≠ b ∧ i ≠ bl ∧ i ≠ bt) b bl bt 0 (List.replicate 4 zcell) (List.replicate 4 []) [] ∧ Grow w w1 ∧ True) := ⟨hD1, hg1, trivial⟩
    have HB : Hid (w.heap.size ≤ b ∧ w.heap.size ≤ bl ∧ w.heap.size ≤ bt) := ⟨hb, hbl, hbt⟩
    clear hD1 hg1 hb hbl hbt hN hy
    go_wp2_with fail
    refine (around_any at0 4 w1 hat (by omega) (by omega)).mono ?_
    rintro e w2 ⟨rfl, rfl⟩
    have hi4 := around_bd at0 4 (by omega)
    obtain ⟨i, hi⟩ := Int.eq_ofNat_of_zero_le hi4.1
    rw [hi] at hi4 ⊢
    clear hi
    have HI : Hid (i < 4) := by show i < 4; omega
    have hi0 : (i : Int) < 4 := hi4.2
    clear hi4
    go_wp2_with fail
    refine (around_any pl0 20 w1 hpl (by omega) (by omega)).mono ?_
    rintro e w2 ⟨rfl, rfl⟩
    have hj4 := around_bd pl0 20 (by omega)
    obtain ⟨j, hj⟩ := Int.eq_ofNat_of_zero_le hj4.1
    rw [hj] at hj4 ⊢
    clear hj
    have HJ : Hid (j < 20) := by show j < 20; omega
    have hj0 : (j : Int) < 20 := hj4.2
    clear hj4
    have hki : (Lit.int .i64 (i : Int)).wf = true := wfI (by omega)
    have hkj : (Lit.int .i64 (j : Int)).wf = true := wfI (by omega)
    have hfl := fill_any (.slice av zs.length cv) zs 16 16 _ w1 rfl (Rd.below hv.size H1.out.2.1) (by omega)
    have HO : Hid ((fillL zs 16).length = 16 ∧ Oct (fillL zs 16)) := ⟨fillL_length _ _, oct_fill hz 16⟩
    generalize fillL zs 16 = os at hfl HO
    go_wp2_with fail
    refine hfl.mono ?_
    rintro e w2 ⟨vo, rfl, ho2, hb2⟩
    obtain ⟨ao, co, hvo⟩ := ho2.shape
    rw [HO.out.1] at hvo
    subst hvo
    have H2 : Hid (DevAt w2 (fun i => i ≠ b ∧ i ≠ bl ∧ i ≠ bt) b bl bt 0 (List.replicate 4 zcell) (List.replicate 4 []) [] ∧ RdV (Value.int .u8) 0 (fun i => i ≠ b ∧ i ≠ bl ∧ i ≠ bt) w2 (.slice ao 16 co) os ∧ Grow w w2) :=
      ⟨H1.out.1.grow hb2, ho2.v.rd.mono (fun k _ hk => by have h1 := H1.out.1.lt; omega), H1.out.2.1.trans hb2⟩
    have HZ : Hid ((os ++ le 4 (chk 0 os : Nat)).length = 20 ∧ Oct (os ++ le 4 (chk 0 os : Nat)) ∧ opened (os ++ le 4 (chk 0 os : Nat)) = (os, 0) ∧ (opened (turned (os ++ le 4 (chk 0 os : Nat)) j 1)) = ([], 9)) := by
      have h20 : (os ++ le 4 (chk 0 os : Nat)).length = 20 := by rw [List.length_append, le_length, HO.out.1]
      refine ⟨h20, oct_seal HO.out.2, opened_sealed os HO.out.1, opened_turned HO.out.1 HO.out.2 HJ.out (by omega) (by omega)⟩
    have hw2 := dwrite_any w2 _ b bl bt 0 _ _ _ H2.out.1 i hki _ os _ H2.out.2.1.i HO.out.2 (by omega) (fun k hk => by have h1 := H2.out.1.lt; omega)
    rw [HO.out.1, writeL_ok (by simpa using HI.out) HO.out.1, writeE_ok (by simpa using HI.out)] at hw2
    obtain ⟨Z, hZe⟩ : ∃ Z, os ++ le 4 (chk 0 os : Nat) = Z := ⟨_, rfl⟩
    have HZe : Hid (os ++ le 4 (chk 0 os : Nat) = Z) := hZe
    rw [hZe] at hw2 HZ
    clear hZe
    have Y1 : Hid (OneAt ((List.replicate 4 []).set i Z) i Z ∧ (List.replicate 4 zcell).length = 4) := ⟨OneAt.put (NoneAt.new 4) (by simpa using HI.out) (fun e => by have := HZ.out.1; rw [e] at this; simp at this), by simp⟩
    generalize (List.replicate 4 ([] : List Int)).set i Z = lat1 at hw2 Y1
    generalize List.replicate 4 zcell = las0 at hw2 Y1 H2
    clear hfl ho2 hb2 H1 hv
    go_wp2_with fail
    refine hw2.mono ?_
    rintro e w3 ⟨rfl, hD3, hu3⟩
    have H3 : Hid (DevAt w3 (fun i => i ≠ b ∧ i ≠ bl ∧ i ≠ bt) b bl bt (0 + 1) las0 lat1 [] ∧ RdV (Value.int .u8) 0 (fun i => i ≠ b ∧ i ≠ bl ∧ i ≠ bt) w3 (.slice ao 16 co) os ∧ Grow w w3) := ⟨hD3, H2.out.2.1.upd hu3 (fun k _ hk => hk.2.2), UpdS.new H2.out.2.2 hu3 (fun k hk => by have := HB.out; omega)⟩
    have HL3 : Hid (lat1.length = las0.length) := hD3.ok.1
    have hb3 := dbarrier_any w3 _ b bl bt _ _ _ _ H3.out.1 0 4 (by decide) (by decide)
    rw [laterL_one Y1.out.1 (by have h1 := HL3.out; have h2 := Y1.out.2; have h3 := HI.out; omega) (by omega) (by have := HI.out; omega)] at hb3
    have Y3 : Hid ((las0.set i (lat1.getD i [])).getD i [] = Z ∧ (las0.set i (lat1.getD i [])).length = 4 ∧ NoneAt (lat1.set i [])) := by
      have h2 := Y1.out.2
      have h3 := HI.out
      exact ⟨by rw [getD_set _ _ _ _ _ (by omega), if_pos rfl]; exact Y1.out.1.2, by simpa using h2, Y1.out.1.del⟩
    have hb3' : Calls Try.prog 20 #[.pointer (some ⟨b, 0, none⟩), .int .i64 0, .int .i64 4] w3 fun e w' => e = .returned (.tuple #[]) ∧ DevAt w' (fun i => i ≠ b ∧ i ≠ bl ∧ i ≠ bt) b bl bt (0 + 1) (las0.set i (lat1.getD i [])) (lat1.set i []) [] ∧ UpdS (fun i => i = bl ∨ i = bt) w3 w' := hb3
    generalize las0.set i (lat1.getD i []) = las2 at hb3' Y3
    generalize lat1.set i [] = lat2 at hb3' Y3
    clear hb3 hw2 hD3 hu3
    go_wp2_with fail
    refine hb3'.mono ?_
    rintro e w4 ⟨rfl, hD4, hu4⟩
    have H4 : Hid (DevAt w4 (fun i => i ≠ b ∧ i ≠ bl ∧ i ≠ bt) b bl bt (0 + 1) las2 lat2 [] ∧ RdV (Value.int .u8) 0 (fun i => i ≠ b ∧ i ≠ bl ∧ i ≠ bt) w4 (.slice ao 16 co) os ∧ Grow w w4) := ⟨hD4, H3.out.2.1.upd hu4 (fun k _ hk hh => by omega), UpdS.new H3.out.2.2 hu4 (fun k hk => by have := HB.out; omega)⟩
    have ht4 := dturn_any w4 _ b bl bt _ _ _ _ H4.out.1 i j 1 hki hkj (by omega) (fun k hk => by have h1 := H4.out.1.lt; omega)
    have hte : turnE las2 i j = 0 := if_pos ⟨⟨by omega, by have := Y3.out.2.1; omega⟩, by omega, hj0⟩
    have htl : turnL las2 i j 1 = las2.set i (turned Z j 1) := by
      unfold turnL
      rw [if_pos hte]
      have e : las2.getD i [] = Z := Y3.out.1
      simp only [Int.toNat_natCast]
      rw [e]
    rw [hte, htl] at ht4
    have Y4 : Hid ((las2.set i (turned Z j 1)).getD i [] = turned Z j 1 ∧ (las2.set i (turned Z j 1)).length = 4) := ⟨by rw [getD_set _ _ _ _ _ (by have h1 := Y3.out.2.1; have h2 := HI.out; omega), if_pos rfl], by simpa using Y3.out.2.1⟩
    generalize las2.set i (turned Z j 1) = las3 at ht4 Y4
    clear hte htl hD4 hu4 hb3'
    go_wp2_with fail
    refine ht4.mono ?_
    rintro e w5 ⟨rfl, hD5, hu5⟩
    have H5 : Hid (DevAt w5 (fun i => i ≠ b ∧ i ≠ bl ∧ i ≠ bt) b bl bt (0 + 1) las3 lat2 [] ∧ RdV (Value.int .u8) 0 (fun i => i ≠ b ∧ i ≠ bl ∧ i ≠ bt) w5 (.slice ao 16 co) os ∧ Grow w w5) := ⟨hD5, H4.out.2.1.upd hu5 (fun k _ hk => hk.2.1), UpdS.new H4.out.2.2 hu5 (fun k hk => by have := HB.out; omega)⟩
    have hr5 := dread_any w5 _ b bl bt _ _ _ _ H5.out.1 i hki
    rw [readL_at (Y3.out.2.2 i) (by have h1 := Y4.out.2; have h2 := HI.out; omega), Y4.out.1, HZ.out.2.2.2] at hr5
    clear hD5 hu5 ht4
    go_wp2_with fail
    refine hr5.mono ?_
    rintro e w6 ⟨vx, rfl, hox, hb6⟩
    obtain ⟨ax, cx, hvx⟩ := hox.shape
    simp only [List.length_nil] at hvx
    subst hvx
    have H6 : Hid (DevAt w6 (fun i => i ≠ b ∧ i ≠ bl ∧ i ≠ bt) b bl bt (0 + 1) las3 lat2 [] ∧ RdV (Value.int .u8) 0 (fun i => i ≠ b ∧ i ≠ bl ∧ i ≠ bt) w6 (.slice ao 16 co) os ∧ Grow w w6) := ⟨H5.out.1.grow hb6, H5.out.2.1.grow hb6, H5.out.2.2.trans hb6⟩
    have hw6 := dwrite_any w6 _ b bl bt _ _ _ _ H6.out.1 i hki _ os _ H6.out.2.1.i HO.out.2 (by omega) (fun k hk => by have h1 := H6.out.1.lt; omega)
    rw [HO.out.1, writeL_ok (by have h1 := Y4.out.2; have h2 := HI.out; omega) HO.out.1, writeE_ok (by have h1 := Y4.out.2; have h2 := HI.out; omega)] at hw6
    rw [HZe.out] at hw6
    have HL2 : Hid (lat2.length = las3.length) := H6.out.1.ok.1
    have Y6 : Hid (OneAt (lat2.set i Z) i Z) := OneAt.put Y3.out.2.2 (by have h0 := HL2.out; have h1 := Y4.out.2; have h2 := HI.out; omega) (fun e => by have := HZ.out.1; rw [e] at this; simp at this)
    generalize lat2.set i Z = lat4 at hw6 Y6
    clear hox hb6 hr5
    go_wp2_with fail
    refine hw6.mono ?_
    rintro e w7 ⟨rfl, hD7, hu7⟩
    have H7 : Hid (DevAt w7 (fun i => i ≠ b ∧ i ≠ bl ∧ i ≠ bt) b bl bt (0 + 1 + 1) las3 lat4 [] ∧ RdV (Value.int .u8) 0 (fun i => i ≠ b ∧ i ≠ bl ∧ i ≠ bt) w7 (.slice ao 16 co) os ∧ Grow w w7) := ⟨hD7, H6.out.2.1.upd hu7 (fun k _ hk => hk.2.2), UpdS.new H6.out.2.2 hu7 (fun k hk => by have := HB.out; omega)⟩
    have HL4 : Hid (lat4.length = las3.length) := hD7.ok.1
    have hr7 := dread_any w7 _ b bl bt _ _ _ _ H7.out.1 i hki
    rw [readL_later (Y6.out.ne) (by have h0 := HL4.out; have h1 := Y4.out.2; have h2 := HI.out; omega), Y6.out.2, HZ.out.2.2.1] at hr7
    clear hD7 hu7 hw6
    go_wp2_with fail
    refine hr7.mono ?_
    rintro e w8 ⟨vy, rfl, hoy, hb8⟩
    obtain ⟨ay, cy, hvy⟩ := hoy.shape
    rw [HO.out.1] at hvy
    subst hvy
    have H8 : Hid ((DevAt w8 (fun i => i ≠ b ∧ i ≠ bl ∧ i ≠ bt) b bl bt (0 + 1 + 1) las3 lat4 [] ∧ RdV (Value.int .u8) 0 (fun i => i ≠ b ∧ i ≠ bl ∧ i ≠ bt) w8 (.slice ao 16 co) os ∧ Grow w w8) ∧ RdV (Value.int .u8) 0 (fun i => i ≠ b ∧ i ≠ bl ∧ i ≠ bt) w8 (.slice ay 16 cy) os) := ⟨⟨H7.out.1.grow hb8, H7.out.2.1.grow hb8, H7.out.2.2.trans hb8⟩, hoy.v.rd.mono (fun k _ hk => by have h1 := H7.out.1.lt; omega)⟩
    have hl8 := dlasting_any w8 _ b bl bt _ _ _ _ H8.out.1.1 i hki
    rw [lastingL_at (by have h1 := Y4.out.2; have h2 := HI.out; omega), Y4.out.1, HZ.out.2.2.2] at hl8
    clear hoy hb8 hr7
    go_wp2_with fail
    refine hl8.mono ?_
    rintro e w9 ⟨vl, rfl, hol, hb9⟩
    have H9 : Hid ((DevAt w9 (fun i => i ≠ b ∧ i ≠ bl ∧ i ≠ bt) b bl bt (0 + 1 + 1) las3 lat4 [] ∧ RdV (Value.int .u8) 0 (fun i => i ≠ b ∧ i ≠ bl ∧ i ≠ bt) w9 (.slice ao 16 co) os ∧ Grow w w9) ∧ RdV (Value.int .u8) 0 (fun i => i ≠ b ∧ i ≠ bl ∧ i ≠ bt) w9 (.slice ay 16 cy) os) := ⟨⟨H8.out.1.1.grow hb9, H8.out.1.2.1.grow hb9, H8.out.1.2.2.trans hb9⟩, H8.out.2.grow hb9⟩
    have hwi : IntKind.i64.wrap ((i : Int) + 1) = (i : Int) + 1 := by rw [IntKind.wrap_i64]; omega
    have hb9 := dbarrier_any w9 _ b bl bt _ _ _ _ H9.out.1.1 i (i + 1) hki (wfI (by omega))
    rw [laterL_one Y6.out (by have h0 := HL4.out; have h1 := Y4.out.2; have h2 := HI.out; omega) (by omega) (by omega)] at hb9
    have hb9' : Calls Try.prog 20 #[.pointer (some ⟨b, 0, none⟩), .int .i64 i, .int .i64 ((i : Int) + 1)] w9 fun e w' => e = .returned (.tuple #[]) ∧ DevAt w' (fun i => i ≠ b ∧ i ≠ bl ∧ i ≠ bt) b bl bt (0 + 1 + 1) (las3.set i (lat4.getD i [])) (lat4.set i []) [] ∧ UpdS (fun i => i = bl ∨ i = bt) w9 w' := hb9
    have Y9 : Hid ((las3.set i (lat4.getD i [])).getD i [] = Z ∧ (las3.set i (lat4.getD i [])).length = 4) := by
      have h2 := Y4.out.2
      have h3 := HI.out
      exact ⟨by rw [getD_set _ _ _ _ _ (by omega), if_pos rfl]; exact Y6.out.2, by simpa using h2⟩
    generalize las3.set i (lat4.getD i []) = las5 at hb9' Y9
    generalize lat4.set i [] = lat5 at hb9'
    clear hb9 hol hl8
    go_wp2_with fail
    refine hb9'.mono ?_
    rintro e wa ⟨rfl, hDa, hua⟩
    have Ha : Hid ((DevAt wa (fun i => i ≠ b ∧ i ≠ bl ∧ i ≠ bt) b bl bt (0 + 1 + 1) las5 lat5 [] ∧ RdV (Value.int .u8) 0 (fun i => i ≠ b ∧ i ≠ bl ∧ i ≠ bt) wa (.slice ao 16 co) os ∧ Grow w wa) ∧ RdV (Value.int .u8) 0 (fun i => i ≠ b ∧ i ≠ bl ∧ i ≠ bt) wa (.slice ay 16 cy) os) := ⟨⟨hDa, H9.out.1.2.1.upd hua (fun k _ hk hh => by omega), UpdS.new H9.out.1.2.2 hua (fun k hk => by have := HB.out; omega)⟩, H9.out.2.upd hua (fun k _ hk hh => by omega)⟩
    have hla := dlasting_any wa _ b bl bt _ _ _ _ Ha.out.1.1 i hki
    rw [lastingL_at (by have h1 := Y9.out.2; have h2 := HI.out; omega), Y9.out.1, HZ.out.2.2.1] at hla
    clear hDa hua hb9'
    go_wp2_with fail
    refine hla.mono ?_
    rintro e wb ⟨vz, rfl, hoz, hbb⟩
    obtain ⟨az, cz, hvz⟩ := hoz.shape
    rw [HO.out.1] at hvz
    subst hvz
    have s1 := ((Ha.out.2.grow hbb).i).string (P := Try.prog) 29 9 5 Try.underlying29 Try.underlying5 Try.underlying9
    have s2 := ((Ha.out.1.2.1.grow hbb).i).string (P := Try.prog) 29 9 5 Try.underlying29 Try.underlying5 Try.underlying9
    have s3 := hoz.rd.string (P := Try.prog) 29 9 5 Try.underlying29 Try.underlying5 Try.underlying9
    have HGb : Hid (Grow w wb) := Ha.out.1.2.2.trans hbb
    clear hoz hbb hla
    go_wp2_with fail
    refine (dlives_any wb).mono ?_
    rintro e wc ⟨rfl, hgc⟩
    go_wp2
    go_ret
    exact ⟨rfl, HGb.out.trans hgc⟩
  · have hy1 : (y0 == 0) = false := by rw [beq_eq_false_iff_ne]; exact hy0
    have hypos : 0 < y0 := by omega
    go_enter Try.func7, Try.ntmps7
    go_wp2_with fail
    refine hN.mono ?_
    rintro e w1 ⟨b, rfl, bl, bt, hD1, hg1, hb, hbl, hbt⟩
    have H1 : Hid (DevAt w1 (fun i => i ≠ b ∧ i ≠ bl ∧ i ≠ bt) b bl bt 0 (List.replicate 4 zcell) (List.replicate 4 []) [] ∧ Grow w w1 ∧ True) := ⟨hD1, hg1, trivial⟩
    have HB : Hid (w.heap.size ≤ b ∧ w.heap.size ≤ bl ∧ w.heap.size ≤ bt) := ⟨hb, hbl, hbt⟩
    clear hD1 hg1 hb hbl hbt hN
    go_wp2_with fail
    refine (around_any at0 4 w1 hat (by omega) (by omega)).mono ?_
    rintro e w2 ⟨rfl, rfl⟩
    have hi4 := around_bd at0 4 (by omega)
    obtain ⟨i, hi⟩ := Int.eq_ofNat_of_zero_le hi4.1
    rw [hi] at hi4 ⊢
    clear hi
    have HI : Hid (i < 4) := by show i < 4; omega
    have hi0 : (i : Int) < 4 := hi4.2
    clear hi4
    go_wp2_with fail
    refine (around_any pl0 20 w1 hpl (by omega) (by omega)).mono ?_
    rintro e w2 ⟨rfl, rfl⟩
    have hj4 := around_bd pl0 20 (by omega)
    obtain ⟨j, hj⟩ := Int.eq_ofNat_of_zero_le hj4.1
    rw [hj] at hj4 ⊢
    clear hj
    have HJ : Hid (j < 20) := by show j < 20; omega
    have hj0 : (j : Int) < 20 := hj4.2
    clear hj4
    have hki : (Lit.int .i64 (i : Int)).wf = true := wfI (by omega)
    have hkj : (Lit.int .i64 (j : Int)).wf = true := wfI (by omega)
    have hfl := fill_any (.slice av zs.length cv) zs 16 16 _ w1 rfl (Rd.below hv.size H1.out.2.1) (by omega)
    have HO : Hid ((fillL zs 16).length = 16 ∧ Oct (fillL zs 16)) := ⟨fillL_length _ _, oct_fill hz 16⟩
    generalize fillL zs 16 = os at hfl HO
    go_wp2_with fail
    refine hfl.mono ?_
    rintro e w2 ⟨vo, rfl, ho2, hb2⟩
    obtain ⟨ao, co, hvo⟩ := ho2.shape
    rw [HO.out.1] at hvo
    subst hvo
    have H2 : Hid (DevAt w2 (fun i => i ≠ b ∧ i ≠ bl ∧ i ≠ bt) b bl bt 0 (List.replicate 4 zcell) (List.replicate 4 []) [] ∧ RdV (Value.int .u8) 0 (fun i => i ≠ b ∧ i ≠ bl ∧ i ≠ bt) w2 (.slice ao 16 co) os ∧ Grow w w2) :=
      ⟨H1.out.1.grow hb2, ho2.v.rd.mono (fun k _ hk => by have h1 := H1.out.1.lt; omega), H1.out.2.1.trans hb2⟩
    have HZ : Hid ((os ++ le 4 (chk 0 os : Nat)).length = 20 ∧ Oct (os ++ le 4 (chk 0 os : Nat)) ∧ opened (os ++ le 4 (chk 0 os : Nat)) = (os, 0) ∧ (opened (turned (os ++ le 4 (chk 0 os : Nat)) j y0)) = ([], 9)) := by
      have h20 : (os ++ le 4 (chk 0 os : Nat)).length = 20 := by rw [List.length_append, le_length, HO.out.1]
      refine ⟨h20, oct_seal HO.out.2, opened_sealed os HO.out.1, opened_turned HO.out.1 HO.out.2 HJ.out (by omega) (by omega)⟩
    have hw2 := dwrite_any w2 _ b bl bt 0 _ _ _ H2.out.1 i hki _ os _ H2.out.2.1.i HO.out.2 (by omega) (fun k hk => by have h1 := H2.out.1.lt; omega)
    rw [HO.out.1, writeL_ok (by simpa using HI.out) HO.out.1, writeE_ok (by simpa using HI.out)] at hw2
    obtain ⟨Z, hZe⟩ : ∃ Z, os ++ le 4 (chk 0 os : Nat) = Z := ⟨_, rfl⟩
    have HZe : Hid (os ++ le 4 (chk 0 os : Nat) = Z) := hZe
    rw [hZe] at hw2 HZ
    clear hZe
    have Y1 : Hid (OneAt ((List.replicate 4 []).set i Z) i Z ∧ (List.replicate 4 zcell).length = 4) := ⟨OneAt.put (NoneAt.new 4) (by simpa using HI.out) (fun e => by have := HZ.out.1; rw [e] at this; simp at this), by simp⟩
    generalize (List.replicate 4 ([] : List Int)).set i Z = lat1 at hw2 Y1
    generalize List.replicate 4 zcell = las0 at hw2 Y1 H2
    clear hfl ho2 hb2 H1 hv
    go_wp2_with fail
    refine hw2.mono ?_
    rintro e w3 ⟨rfl, hD3, hu3⟩
    have H3 : Hid (DevAt w3 (fun i => i ≠ b ∧ i ≠ bl ∧ i ≠ bt) b bl bt (0 + 1) las0 lat1 [] ∧ RdV (Value.int .u8) 0 (fun i => i ≠ b ∧ i ≠ bl ∧ i ≠ bt) w3 (.slice ao 16 co) os ∧ Grow w w3) := ⟨hD3, H2.out.2.1.upd hu3 (fun k _ hk => hk.2.2), UpdS.new H2.out.2.2 hu3 (fun k hk => by have := HB.out; omega)⟩
    have HL3 : Hid (lat1.length = las0.length) := hD3.ok.1
    have hb3 := dbarrier_any w3 _ b bl bt _ _ _ _ H3.out.1 0 4 (by decide) (by decide)
    rw [laterL_one Y1.out.1 (by have h1 := HL3.out; have h2 := Y1.out.2; have h3 := HI.out; omega) (by omega) (by have := HI.out; omega)] at hb3
    have Y3 : Hid ((las0.set i (lat1.getD i [])).getD i [] = Z ∧ (las0.set i (lat1.getD i [])).length = 4 ∧ NoneAt (lat1.set i [])) := by
      have h2 := Y1.out.2
      have h3 := HI.out
      exact ⟨by rw [getD_set _ _ _ _ _ (by omega), if_pos rfl]; exact Y1.out.1.2, by simpa using h2, Y1.out.1.del⟩
    have hb3' : Calls Try.prog 20 #[.pointer (some ⟨b, 0, none⟩), .int .i64 0, .int .i64 4] w3 fun e w' => e = .returned (.tuple #[]) ∧ DevAt w' (fun i => i ≠ b ∧ i ≠ bl ∧ i ≠ bt) b bl bt (0 + 1) (las0.set i (lat1.getD i [])) (lat1.set i []) [] ∧ UpdS (fun i => i = bl ∨ i = bt) w3 w' := hb3
    generalize las0.set i (lat1.getD i []) = las2 at hb3' Y3
    generalize lat1.set i [] = lat2 at hb3' Y3
    clear hb3 hw2 hD3 hu3
    go_wp2_with fail
    refine hb3'.mono ?_
    rintro e w4 ⟨rfl, hD4, hu4⟩
    have H4 : Hid (DevAt w4 (fun i => i ≠ b ∧ i ≠ bl ∧ i ≠ bt) b bl bt (0 + 1) las2 lat2 [] ∧ RdV (Value.int .u8) 0 (fun i => i ≠ b ∧ i ≠ bl ∧ i ≠ bt) w4 (.slice ao 16 co) os ∧ Grow w w4) := ⟨hD4, H3.out.2.1.upd hu4 (fun k _ hk hh => by omega), UpdS.new H3.out.2.2 hu4 (fun k hk => by have := HB.out; omega)⟩
    have ht4 := dturn_any w4 _ b bl bt _ _ _ _ H4.out.1 i j y0 hki hkj (by omega) (fun k hk => by have h1 := H4.out.1.lt; omega)
    have hte : turnE las2 i j = 0 := if_pos ⟨⟨by omega, by have := Y3.out.2.1; omega⟩, by omega, hj0⟩
    have htl : turnL las2 i j y0 = las2.set i (turned Z j y0) := by
      unfold turnL
      rw [if_pos hte]
      have e : las2.getD i [] = Z := Y3.out.1
      simp only [Int.toNat_natCast]
      rw [e]
    rw [hte, htl] at ht4
    have Y4 : Hid ((las2.set i (turned Z j y0)).getD i [] = turned Z j y0 ∧ (las2.set i (turned Z j y0)).length = 4) := ⟨by rw [getD_set _ _ _ _ _ (by have h1 := Y3.out.2.1; have h2 := HI.out; omega), if_pos rfl], by simpa using Y3.out.2.1⟩
    generalize las2.set i (turned Z j y0) = las3 at ht4 Y4
    clear hte htl hD4 hu4 hb3'
    go_wp2_with fail
    refine ht4.mono ?_
    rintro e w5 ⟨rfl, hD5, hu5⟩
    have H5 : Hid (DevAt w5 (fun i => i ≠ b ∧ i ≠ bl ∧ i ≠ bt) b bl bt (0 + 1) las3 lat2 [] ∧ RdV (Value.int .u8) 0 (fun i => i ≠ b ∧ i ≠ bl ∧ i ≠ bt) w5 (.slice ao 16 co) os ∧ Grow w w5) := ⟨hD5, H4.out.2.1.upd hu5 (fun k _ hk => hk.2.1), UpdS.new H4.out.2.2 hu5 (fun k hk => by have := HB.out; omega)⟩
    have hr5 := dread_any w5 _ b bl bt _ _ _ _ H5.out.1 i hki
    rw [readL_at (Y3.out.2.2 i) (by have h1 := Y4.out.2; have h2 := HI.out; omega), Y4.out.1, HZ.out.2.2.2] at hr5
    clear hD5 hu5 ht4
    go_wp2_with fail
    refine hr5.mono ?_
    rintro e w6 ⟨vx, rfl, hox, hb6⟩
    obtain ⟨ax, cx, hvx⟩ := hox.shape
    simp only [List.length_nil] at hvx
    subst hvx
    have H6 : Hid (DevAt w6 (fun i => i ≠ b ∧ i ≠ bl ∧ i ≠ bt) b bl bt (0 + 1) las3 lat2 [] ∧ RdV (Value.int .u8) 0 (fun i => i ≠ b ∧ i ≠ bl ∧ i ≠ bt) w6 (.slice ao 16 co) os ∧ Grow w w6) := ⟨H5.out.1.grow hb6, H5.out.2.1.grow hb6, H5.out.2.2.trans hb6⟩
    have hw6 := dwrite_any w6 _ b bl bt _ _ _ _ H6.out.1 i hki _ os _ H6.out.2.1.i HO.out.2 (by omega) (fun k hk => by have h1 := H6.out.1.lt; omega)
    rw [HO.out.1, writeL_ok (by have h1 := Y4.out.2; have h2 := HI.out; omega) HO.out.1, writeE_ok (by have h1 := Y4.out.2; have h2 := HI.out; omega)] at hw6
    rw [HZe.out] at hw6
    have HL2 : Hid (lat2.length = las3.length) := H6.out.1.ok.1
    have Y6 : Hid (OneAt (lat2.set i Z) i Z) := OneAt.put Y3.out.2.2 (by have h0 := HL2.out; have h1 := Y4.out.2; have h2 := HI.out; omega) (fun e => by have := HZ.out.1; rw [e] at this; simp at this)
    generalize lat2.set i Z = lat4 at hw6 Y6
    clear hox hb6 hr5
    go_wp2_with fail
    refine hw6.mono ?_
    rintro e w7 ⟨rfl, hD7, hu7⟩
    have H7 : Hid (DevAt w7 (fun i => i ≠ b ∧ i ≠ bl ∧ i ≠ bt) b bl bt (0 + 1 + 1) las3 lat4 [] ∧ RdV (Value.int .u8) 0 (fun i => i ≠ b ∧ i ≠ bl ∧ i ≠ bt) w7 (.slice ao 16 co) os ∧ Grow w w7) := ⟨hD7, H6.out.2.1.upd hu7 (fun k _ hk => hk.2.2), UpdS.new H6.out.2.2 hu7 (fun k hk => by have := HB.out; omega)⟩
    have HL4 : Hid (lat4.length = las3.length) := hD7.ok.1
    have hr7 := dread_any w7 _ b bl bt _ _ _ _ H7.out.1 i hki
    rw [readL_later (Y6.out.ne) (by have h0 := HL4.out; have h1 := Y4.out.2; have h2 := HI.out; omega), Y6.out.2, HZ.out.2.2.1] at hr7
    clear hD7 hu7 hw6
    go_wp2_with fail
    refine hr7.mono ?_
    rintro e w8 ⟨vy, rfl, hoy, hb8⟩
    obtain ⟨ay, cy, hvy⟩ := hoy.shape
    rw [HO.out.1] at hvy
    subst hvy
    have H8 : Hid ((DevAt w8 (fun i => i ≠ b ∧ i ≠ bl ∧ i ≠ bt) b bl bt (0 + 1 + 1) las3 lat4 [] ∧ RdV (Value.int .u8) 0 (fun i => i ≠ b ∧ i ≠ bl ∧ i ≠ bt) w8 (.slice ao 16 co) os ∧ Grow w w8) ∧ RdV (Value.int .u8) 0 (fun i => i ≠ b ∧ i ≠ bl ∧ i ≠ bt) w8 (.slice ay 16 cy) os) := ⟨⟨H7.out.1.grow hb8, H7.out.2.1.grow hb8, H7.out.2.2.trans hb8⟩, hoy.v.rd.mono (fun k _ hk => by have h1 := H7.out.1.lt; omega)⟩
    have hl8 := dlasting_any w8 _ b bl bt _ _ _ _ H8.out.1.1 i hki
    rw [lastingL_at (by have h1 := Y4.out.2; have h2 := HI.out; omega), Y4.out.1, HZ.out.2.2.2] at hl8
    clear hoy hb8 hr7
    go_wp2_with fail
    refine hl8.mono ?_
    rintro e w9 ⟨vl, rfl, hol, hb9⟩
    have H9 : Hid ((DevAt w9 (fun i => i ≠ b ∧ i ≠ bl ∧ i ≠ bt) b bl bt (0 + 1 + 1) las3 lat4 [] ∧ RdV (Value.int .u8) 0 (fun i => i ≠ b ∧ i ≠ bl ∧ i ≠ bt) w9 (.slice ao 16 co) os ∧ Grow w w9) ∧ RdV (Value.int .u8) 0 (fun i => i ≠ b ∧ i ≠ bl ∧ i ≠ bt) w9 (.slice ay 16 cy) os) := ⟨⟨H8.out.1.1.grow hb9, H8.out.1.2.1.grow hb9, H8.out.1.2.2.trans hb9⟩, H8.out.2.grow hb9⟩
    have hwi : IntKind.i64.wrap ((i : Int) + 1) = (i : Int) + 1 := by rw [IntKind.wrap_i64]; omega
    have hb9 := dbarrier_any w9 _ b bl bt _ _ _ _ H9.out.1.1 i (i + 1) hki (wfI (by omega))
    rw [laterL_one Y6.out (by have h0 := HL4.out; have h1 := Y4.out.2; have h2 := HI.out; omega) (by omega) (by omega)] at hb9
    have hb9' : Calls Try.prog 20 #[.pointer (some ⟨b, 0, none⟩), .int .i64 i, .int .i64 ((i : Int) + 1)] w9 fun e w' => e = .returned (.tuple #[]) ∧ DevAt w' (fun i => i ≠ b ∧ i ≠ bl ∧ i ≠ bt) b bl bt (0 + 1 + 1) (las3.set i (lat4.getD i [])) (lat4.set i []) [] ∧ UpdS (fun i => i = bl ∨ i = bt) w9 w' := hb9
    have Y9 : Hid ((las3.set i (lat4.getD i [])).getD i [] = Z ∧ (las3.set i (lat4.getD i [])).length = 4) := by
      have h2 := Y4.out.2
      have h3 := HI.out
      exact ⟨by rw [getD_set _ _ _ _ _ (by omega), if_pos rfl]; exact Y6.out.2, by simpa using h2⟩
    generalize las3.set i (lat4.getD i []) = las5 at hb9' Y9
    generalize lat4.set i [] = lat5 at hb9'
    clear hb9 hol hl8
    go_wp2_with fail
    refine hb9'.mono ?_
    rintro e wa ⟨rfl, hDa, hua⟩
    have Ha : Hid ((DevAt wa (fun i => i ≠ b ∧ i ≠ bl ∧ i ≠ bt) b bl bt (0 + 1 + 1) las5 lat5 [] ∧ RdV (Value.int .u8) 0 (fun i => i ≠ b ∧ i ≠ bl ∧ i ≠ bt) wa (.slice ao 16 co) os ∧ Grow w wa) ∧ RdV (Value.int .u8) 0 (fun i => i ≠ b ∧ i ≠ bl ∧ i ≠ bt) wa (.slice ay 16 cy) os) := ⟨⟨hDa, H9.out.1.2.1.upd hua (fun k _ hk hh => by omega), UpdS.new H9.out.1.2.2 hua (fun k hk => by have := HB.out; omega)⟩, H9.out.2.upd hua (fun k _ hk hh => by omega)⟩
    have hla := dlasting_any wa _ b bl bt _ _ _ _ Ha.out.1.1 i hki
    rw [lastingL_at (by have h1 := Y9.out.2; have h2 := HI.out; omega), Y9.out.1, HZ.out.2.2.1] at hla
    clear hDa hua hb9'
    go_wp2_with fail
    refine hla.mono ?_
    rintro e wb ⟨vz, rfl, hoz, hbb⟩
    obtain ⟨az, cz, hvz⟩ := hoz.shape
    rw [HO.out.1] at hvz
    subst hvz
    have s1 := ((Ha.out.2.grow hbb).i).string (P := Try.prog) 29 9 5 Try.underlying29 Try.underlying5 Try.underlying9
    have s2 := ((Ha.out.1.2.1.grow hbb).i).string (P := Try.prog) 29 9 5 Try.underlying29 Try.underlying5 Try.underlying9
    have s3 := hoz.rd.string (P := Try.prog) 29 9 5 Try.underlying29 Try.underlying5 Try.underlying9
    have HGb : Hid (Grow w wb) := Ha.out.1.2.2.trans hbb
    clear hoz hbb hla
    go_wp2_with fail
    refine (dlives_any wb).mono ?_
    rintro e wc ⟨rfl, hgc⟩
    go_wp2
    go_ret
    exact ⟨rfl, HGb.out.trans hgc⟩
end Go.Proofs.Ytpkoiogdkaklfaa
