/-
  The walk of CapsPlays. Conditions: the theorem's own.
-/
import Derived.Test.YtoobohbghobfhaaCapX
import Derived.Test.YtoobohbghobfhaaCapQ
namespace Go.Proofs.Ytoobohbghobfhaa
open Go.RowKit
set_option linter.unusedVariables false
set_option linter.unusedSimpArgs false

theorem own_C1 (w : World) (x y : Int) : OwnS Cp.cs 2 (fun i => i = w.heap.size) (w.alloc (.cells #[.int .i64 x, .int .i64 y] 33)) (.slice (some ⟨w.heap.size, 0, none⟩) 1 1) [⟨x, y⟩] := by
  have hv := VarAt.new w [.int .i64 x, .int .i64 y] 33
  refine .inr ⟨w.heap.size, 0, 1, rfl, rfl, by simp, by omega, Nat.le_refl _, by simp [maxLen], fun j hj => ?_, fun j hj => ?_⟩
  · rw [Nat.zero_add]; exact (hv.2 j (by simpa using hj)).1
  · rw [Nat.zero_add]
    obtain ⟨h1, h2⟩ := hv.2 j (by simpa using hj)
    rw [h1]
    refine ⟨?_, h2⟩
    rw [List.getElem?_eq_getElem (by simpa using hj)]; rfl

set_option maxRecDepth 16000 in
set_option maxHeartbeats 8000000 in
theorem capsPlays_walk (e0 : Int) (v0 : Value) (os : List OC) (w : World) (he : (Lit.int .i64 e0).wf = true) (hl : RdS OC.cs 5 (fun i => i < w.heap.size) w v0 os) (hos : ∀ z ∈ os, OC.Ok z) :
    Calls Try.prog 3 #[.int .i64 e0, v0] w fun e w' => e = .returned (.bool true) ∧ Grow w w' := by
  obtain ⟨i0, hi, hz0, hz1, hz2⟩ := info_parts infoC
  have hll := hl.len
  unfold maxLen at hll
  have HR : Hid (RdS OC.cs 5 (fun i => i < w.heap.size) w v0 os ∧ ∀ z ∈ os, OC.Ok z) := ⟨hl, hos⟩
  obtain ⟨a0, c0, rfl⟩ := hl.shape
  clear hl hos
  have hae := fun u => around_any e0 9 u he (by omega) (by omega)
  have hbe := around_bd e0 9 (by omega)
  generalize around e0 9 = r0 at hae hbe
  obtain ⟨k, hk⟩ : ∃ k, k = 1 + r0 := ⟨_, rfl⟩
  have hwk : IntKind.i64.wrap (1 + r0) = k := by rw [IntKind.wrap_i64]; omega
  have hk1 : 1 ≤ k := by omega
  have hk2 : k ≤ 1073741824 := by omega
  have HK : Hid (1 ≤ k ∧ k ≤ 1073741824) := ⟨hk1, hk2⟩
  clear hbe hk he
  have h1 := new_in k w hk1 hk2
  obtain ⟨b, hb⟩ : ∃ b, b = w.heap.size := ⟨_, rfl⟩
  have HB : Hid (b = w.heap.size) := hb
  rw [← hb] at h1
  clear hb
  have HO0 := hid (newS_ok hk1 hk2)
  have HD0 := hid (fun u => rnew_any k u hk1 hk2)
  have HR0 := hid (fun u (hu : TbAt u b (newS k) k 1) => rootR_any b (newS k) k 1 u hu HO0.out)
  have HA0 : Hid (allS (newS k) = [⟨0, k * 1048576, 15⟩]) := by
    show allS (newS k) = _
    have hne : ¬ k * 1048576 = 0 := by omega
    have h0 : (⟨0, k * 1048576, 15⟩ : Sl).emp = false := by simp [Sl.emp, hne]
    unfold newS
    rw [allS_yes h0]; rfl
  clear hk1 hk2
  go_enter Try.func3, Try.ntmps3
  go_wp2_with fail
  refine (hae w).mono ?_
  rintro e w1 ⟨rfl, rfl⟩
  clear hae
  go_wp2_with fail
  refine h1.mono ?_
  rintro e w1 ⟨rfl, t1, g1⟩
  have T1 := hid t1
  have G1 := hid g1
  clear h1 t1 g1
  go_wp2_with fail
  refine (HD0.out w1).mono ?_
  rintro e w2 ⟨v2, rfl, hv2, g2⟩
  obtain ⟨ad, cd, hsd⟩ := RdS.shape hv2
  subst hsd
  replace hv2 : RdL (fun i => w1.heap.size ≤ i) w2 (.slice ad 1 cd) (allS (newS k)) := by rw [HA0.out]; exact hv2
  obtain ⟨W3, hW3⟩ : ∃ W3, W3 = w2.alloc (.cells #[.int .i64 k, .int .i64 1, .slice ad 1 cd] 30) := ⟨_, rfl⟩
  obtain ⟨b8, hb8⟩ : ∃ b8, b8 = w2.heap.size := ⟨_, rfl⟩
  have g3 : Grow w2 W3 := by rw [hW3]; exact (Grow.refl w2).alloc _
  have T3 := hid ((T1.out.grow g2).grow g3)
  have H3 : Hid (VarAt W3 b8 [.int .i64 k, .int .i64 1, .slice ad 1 cd] ∧ RdL (fun i => w1.heap.size ≤ i ∧ i < b8) W3 (.slice ad 1 cd) (allS (newS k)) ∧ Grow w W3 ∧ b < w1.heap.size ∧ w1.heap.size ≤ b8 ∧ b8 < W3.heap.size) :=
    ⟨by rw [hW3, hb8]; exact VarAt.new w2 [.int .i64 k, .int .i64 1, .slice ad 1 cd] _, RdL.grow (RdS.mono hv2 (fun i hl hi => ⟨hi, by omega⟩)) g3, (G1.out.trans g2).trans g3, T1.out.lt, by rw [hb8]; exact g2.size, by rw [hW3, hb8]; simp⟩
  have kr := HR0.out W3 T3.out
  clear hv2 g2 g3 T1
  go_upto_region 6 with fail
  rw [← hW3, ← hb8]
  clear hW3 hb8
  go_wp2_with fail
  refine kr.mono ?_
  rintro e w4 ⟨rfl, g4⟩
  obtain ⟨W5, hW5⟩ : ∃ W5, W5 = w4.alloc (.cells #[.int .i64 0, .int .i64 (k * 1048576)] 33) := ⟨_, rfl⟩
  obtain ⟨b9, hb9⟩ : ∃ b9, b9 = w4.heap.size := ⟨_, rfl⟩
  have HX : Hid (PlAt w W5 b b8 k (newS k) 1 (newS k) 1 (.slice ad 1 cd) (.slice (some ⟨b9, 0, none⟩) 1 1) [rootC k]) := by
    have g5 : Grow w4 W5 := by rw [hW5]; exact (Grow.refl w4).alloc _
    have g35 := g4.trans g5
    have ho : OwnS Cp.cs 2 (fun i => i = b9) W5 (.slice (some ⟨b9, 0, none⟩) 1 1) [rootC k] := by rw [hW5, hb9]; exact own_C1 w4 0 (k * 1048576)
    have hz : W5.heap.size = w4.heap.size + 1 := by rw [hW5]; exact World.size_alloc _ _
    have hz4 := g4.size
    have hH := H3.out
    have hwB := HB.out
    have hg1 := G1.out.size
    exact ⟨fun i => i = b9, fun i => w1.heap.size ≤ i ∧ i < b8, T3.out.grow g35, hH.1.grow g35, hH.2.1.grow g35, ho, fun i hi => ⟨by omega, by omega, by omega, by omega, by omega⟩, fun i hi => ⟨by omega, by omega, by omega, by omega⟩, hH.2.2.1.trans g35, by omega, by omega⟩
  clear kr g4 T3 H3 G1
  go_upto_region 7 with fail
  rw [← hW5, ← hb9]
  clear hW5 hb9
  go_wp2
  go_loopg [9, 10] os.length (fun m av iv wr => ∃ (j : Nat) (S : List Sl) (n : Int) (v : Value) (A : List Cp), m = os.length - j ∧ j ≤ os.length ∧ j ≤ 24 ∧ iv = .int .i64 j ∧ Hid (TbOk S k n ∧ n ≤ (j : Int) + 1 ∧ 0 < A.length ∧ A.length ≤ j + 1 ∧ PlAt w wr b b8 k S n S n v av A))
  case atStart => exact ⟨0, newS k, 1, _, [rootC k], rfl, Nat.zero_le _, Nat.zero_le _, rfl, HO0.out, by omega, by simp, by simp, HX.out⟩
  case round =>
    clear HX HO0 HR0 HA0 HD0
    obtain ⟨j, S, n, v, A, hk, hj, hj24, rfl, HX⟩ := hrel
    by_cases hgo : j < os.length ∧ j < 24
    · obtain ⟨hlt, h24⟩ := hgo
      have hlt' : (j : Int) < (os.length : Int) := by omega
      have h24' : (j : Int) < 24 := by omega
      have HJ : Hid (j < os.length ∧ j < 24 ∧ gk = os.length - j) := ⟨hlt, h24, hk⟩
      obtain ⟨bo, oo, z, eo, hbo, hz, hc⟩ := oc_at HR.out.1 HR.out.2 hlt
      subst eo
      obtain ⟨p, q, hpl⟩ := HX.out.2.2.2.2
      have HP := hid hpl
      obtain ⟨av, cv, hsh⟩ := hpl.2.2.2.1.shape
      subst hsh
      have hvl := hpl.2.2.1.shape
      obtain ⟨ad, cd, hsd⟩ := hvl
      subst hsd
      obtain ⟨f0, f1, f2, f3, f4⟩ := hc wr hpl.2.2.2.2.2.2.1
      obtain ⟨zd, zi, zv, zs, zn⟩ := z
      obtain ⟨hzd, hzi, hzv, hzs, hzn⟩ := hz
      simp only at f0 f1 f2 f3 f4 hzd hzi hzv hzs hzn
      have HA : Hid (0 < A.length ∧ A.length ≤ 25) := ⟨HX.out.2.2.1, by have := HX.out.2.2.2.1; omega⟩
      have HSn : Hid (TbOk S k n ∧ n ≤ (j : Int) + 1 ∧ A.length ≤ j + 1) := ⟨HX.out.1, HX.out.2.1, HX.out.2.2.2.1⟩
      have HZ : Hid ((Lit.int .i64 zd).wf = true ∧ (Lit.int .i64 zi).wf = true ∧ (Lit.int .i64 zv).wf = true ∧ (Lit.int .i64 zs).wf = true ∧ (Lit.int .i64 zn).wf = true) := ⟨hzd, hzi, hzv, hzs, hzn⟩
      have har := fun u => around_any zd 5 u hzd (by omega) (by omega)
      have hbd := around_bd zd 5 (by omega)
      generalize around zd 5 = tg at har hbd
      clear hc hpl hlt h24 hk hj hj24 HX hzd hzi hzv hzs hzn hbo
      -- what is done, and by which one
      obtain ⟨W1, hW1⟩ : ∃ W1, W1 = wr.alloc (.cells #[.int .i64 zd, .int .i64 zi, .int .i64 zv, .int .i64 zs, .int .i64 zn] 37) := ⟨_, rfl⟩
      obtain ⟨b11, hb11⟩ : ∃ b11, b11 = wr.heap.size := ⟨_, rfl⟩
      have g1 : Grow wr W1 := by rw [hW1]; exact (Grow.refl wr).alloc _
      have HV : Hid (VarAt W1 b11 [.int .i64 zd, .int .i64 zi, .int .i64 zv, .int .i64 zs, .int .i64 zn] ∧ b8 < b11) := ⟨by rw [hW1, hb11]; exact VarAt.new wr [.int .i64 zd, .int .i64 zi, .int .i64 zv, .int .i64 zs, .int .i64 zn] _, by rw [hb11]; exact HP.out.2.1.lt⟩
      have HP1 := hid (HP.out.grow g1)
      clear HP g1
      go_upto_region 11 with fail
      rw [← hW1, ← hb11]
      clear hW1 hb11 f0 f1 f2 f3 f4
      obtain ⟨o0, o1, o2, o3, o4⟩ := five_c HV.out.1
      have kp := rpick_any _ A zi zn W1 HP1.out.2.2.2.1.rd HA.out.1 (by have := HA.out.2; omega) HZ.out.2.1 HZ.out.2.2.2.2
      go_wp2_with fail
      refine kp.mono ?_
      rintro e w2 ⟨rfl, g2⟩
      generalize pickC A zi zn = c at *
      obtain ⟨cs, cg⟩ := c
      obtain ⟨W3, hW3⟩ : ∃ W3, W3 = w2.alloc (.cells #[.int .i64 cs, .int .i64 cg] 33) := ⟨_, rfl⟩
      obtain ⟨b12, hb12⟩ : ∃ b12, b12 = w2.heap.size := ⟨_, rfl⟩
      have g3 : Grow w2 W3 := by rw [hW3]; exact (Grow.refl w2).alloc _
      have HV3 : Hid (VarAt W3 b11 [.int .i64 zd, .int .i64 zi, .int .i64 zv, .int .i64 zs, .int .i64 zn] ∧ VarAt W3 b12 [.int .i64 cs, .int .i64 cg] ∧ b8 < b11 ∧ b11 < b12) := ⟨(HV.out.1.grow g2).grow g3, by rw [hW3, hb12]; exact VarAt.new w2 [.int .i64 cs, .int .i64 cg] _, HV.out.2, by rw [hb12]; exact (HV.out.1.grow g2).lt⟩
      have HP3 := hid ((HP1.out.grow g2).grow g3)
      clear kp g2 g3 HV HP1 o0 o1 o2 o3 o4
      go_upto_region 12 with fail
      rw [← hW3, ← hb12]
      clear hW3 hb12
      obtain ⟨o0, o1, o2, o3, o4⟩ := five_c HV3.out.1
      go_wp2_with fail
      refine (har W3).mono ?_
      rintro e w4 ⟨rfl, rfl⟩
      clear har
      go_upto_block 2 with fail
      go_cut [9] from 45 to 197 (fun xv wx => ∃ (S' : List Sl) (n' : Int) (v' : Value) (A' : List Cp), Hid (TbOk S' k n' ∧ n' ≤ n + 1 ∧ 0 < A'.length ∧ A'.length ≤ A.length + 1 ∧ PlAt w wx b b8 k S' n' S' n' v' xv A'))
      case first =>
        by_cases t3 : tg = 3
        · have q3 := eqs t3
          clear t3 hbd
          have kp := rpick_any _ A zv zn W3 HP3.out.2.2.2.1.rd HA.out.1 (by have := HA.out.2; omega) HZ.out.2.2.1 HZ.out.2.2.2.2
          go_wp2_with fail
          refine kp.mono ?_
          rintro e w5 ⟨rfl, g5⟩
          generalize pickC A zv zn = d at *
          obtain ⟨ds, dg⟩ := d
          obtain ⟨W6, hW6⟩ : ∃ W6, W6 = w5.alloc (.cells #[.int .i64 ds, .int .i64 dg] 33) := ⟨_, rfl⟩
          obtain ⟨b13, hb13⟩ : ∃ b13, b13 = w5.heap.size := ⟨_, rfl⟩
          have g6 : Grow w5 W6 := by rw [hW6]; exact (Grow.refl w5).alloc _
          have HV6 : Hid (VarAt W6 b12 [.int .i64 cs, .int .i64 cg] ∧ VarAt W6 b13 [.int .i64 ds, .int .i64 dg] ∧ b8 < b12 ∧ b8 < b13) := ⟨(HV3.out.2.1.grow g5).grow g6, by rw [hW6, hb13]; exact VarAt.new w5 [.int .i64 ds, .int .i64 dg] _, by have := HV3.out.2.2; omega, by have := HV3.out.2.2; have := (HV3.out.2.1.grow g5).lt; omega⟩
          have HP6 := hid ((HP3.out.grow g5).grow g6)
          clear kp g5 g6 o0 o1 o2 o3 o4 HV3 HP3
          go_upto_region 25 with fail
          rw [← hW6, ← hb13]
          clear hW6 hb13
          obtain ⟨⟨m0, m1, m2⟩, -⟩ := HP6.out.2.1.three
          obtain ⟨⟨n0, n1⟩, -⟩ := HV6.out.1.two
          obtain ⟨⟨r0, r1⟩, -⟩ := HV6.out.2.1.two
          have kd := rrevoke_any k n _ S ⟨cs, cg⟩ ⟨ds, dg⟩ W6 HP6.out.2.2.1 HSn.out.1
          go_wp2_with fail
          refine kd.mono ?_
          rintro e w7 ⟨v7, rfl, hv7, g7⟩
          obtain ⟨a7, c7, hs7⟩ := RdS.shape hv7
          have HL7 := hid hv7
          generalize (allS (setR S ⟨cs, cg⟩ ⟨ds, dg⟩)).length = l7 at hs7
          subst hs7
          obtain ⟨W8, hW8⟩ : ∃ W8, W8 = w7.alloc (.cells #[.int .i64 k, .int .i64 n, .slice a7 l7 c7] 30) := ⟨_, rfl⟩
          obtain ⟨b14, hb14⟩ : ∃ b14, b14 = w7.heap.size := ⟨_, rfl⟩
          have g8 : Grow w7 W8 := by rw [hW8]; exact (Grow.refl w7).alloc _
          have g68 := g7.trans g8
          have hdoc := HP6.out.doc (n2' := n) g68 (HL7.out.grow g8)
          have HV8 : Hid (VarAt W8 b12 [.int .i64 cs, .int .i64 cg] ∧ VarAt W8 b13 [.int .i64 ds, .int .i64 dg] ∧ VarAt W8 b14 [.int .i64 k, .int .i64 n, .slice a7 l7 c7] ∧ VarAt W8 b8 [.int .i64 k, .int .i64 n, .slice ad (allS S).length cd] ∧ b8 < b12 ∧ b8 < b13) := ⟨HV6.out.1.grow g68, HV6.out.2.1.grow g68, by rw [hW8, hb14]; exact VarAt.new w7 [.int .i64 k, .int .i64 n, .slice a7 l7 c7] _, HP6.out.2.1.grow g68, HV6.out.2.2.1, HV6.out.2.2.2⟩
          have HDo := hid hdoc
          clear kd g7 g8 g68 hdoc hv7 m0 m1 m2 n0 n1 r0 r1 HV6 HP6 HL7
          go_upto_region 26 with fail
          rw [← hW8, ← hb14]
          clear hW8 hb14
          obtain ⟨⟨m0, m1, m2⟩, -⟩ := HV8.out.2.2.1.three
          obtain ⟨⟨n0, n1, n2⟩, s0, s1, s2⟩ := HV8.out.2.2.2.1.three
          obtain ⟨W9, hW9⟩ : ∃ W9, W9 = ((W8.setCell ⟨b8, 0, none⟩ (.int .i64 k)).setCell ⟨b8, 1, none⟩ (.int .i64 n)).setCell ⟨b8, 2, none⟩ (.slice a7 l7 c7) := ⟨_, rfl⟩
          rw [← hW9] at HDo
          have HV9 : Hid (VarAt W9 b12 [.int .i64 cs, .int .i64 cg] ∧ VarAt W9 b13 [.int .i64 ds, .int .i64 dg]) := ⟨HV8.out.1.upd HDo.out.2 (by have := HV8.out.2.2.2.2; omega), HV8.out.2.1.upd HDo.out.2 (by have := HV8.out.2.2.2.2; omega)⟩
          go_upto_region 27 with fail
          rw [← hW9]
          clear hW9 m0 m1 m2 n0 n1 n2 s0 s1 s2 HV8
          obtain ⟨⟨n0, n1⟩, -⟩ := HV9.out.1.two
          obtain ⟨⟨r0, r1⟩, -⟩ := HV9.out.2.two
          obtain ⟨p9, q9, hp9⟩ := HDo.out.1
          have kt := revoke_any b S k n ⟨cs, cg⟩ ⟨ds, dg⟩ W9 hp9.1 HSn.out.1
          have HDa := hid HDo.out.1
          have HOk := hid (HSn.out.1.revoke ⟨cs, cg⟩ ⟨ds, dg⟩)
          clear hp9
          go_wp2_with fail
          refine kt.mono ?_
          rintro e wa ⟨rfl, ta, ua⟩
          have HF := hid (HDa.out.tab ta ua)
          clear kt ta ua n0 n1 r0 r1
          go_wp2
          go_meet
          exact ⟨_, n, _, A, HOk.out, by omega, HA.out.1, by omega, HF.out⟩
        · have q3 := neqs t3
          by_cases t4 : tg = 4
          · have q4 := eqs t4
            clear t3 t4 hbd
            have ha16 := around_any zs 16 W3 HZ.out.2.2.2.1 (by omega) (by omega)
            have hb16 := around_bd zs 16 (by omega)
            generalize around zs 16 = s0 at ha16 hb16
            obtain ⟨s, rfl⟩ := Int.eq_ofNat_of_zero_le hb16.1
            have hs : s < 16 := by omega
            have kg := rights_any b S k n ⟨cs, cg⟩ W3 HP3.out.1 HSn.out.1.len
            have KF := hid (fun u (hu : Grow W3 u) => rfind_any k n _ (allS S) ⟨cs, cg⟩ u (HP3.out.2.2.1.grow hu))
            have KC := hid (fun u (hu : Grow W3 u) => check_any b S k n ⟨cs, cg⟩ s u (HP3.out.1.grow hu) HSn.out.1 hs)
            have KD := hid (fun u (hu : Grow W3 u) => rcheck_any k n _ (allS S) ⟨cs, cg⟩ s u (HP3.out.2.2.1.grow hu) (allS_rlt HSn.out.1) hs)
            rw [HSn.out.1.check] at KD
            clear hb16 hs
            rcases HSn.out.1.find ⟨cs, cg⟩ with ⟨hg, hf, hat⟩ | ⟨hg, hf⟩
            · skip
              have ef : findL (allS S) ⟨cs, cg⟩ = (fidx ⟨cs, cg⟩ (allS S) : Int) := by unfold findL; rw [if_pos hf]
              have er : rgtS S ⟨cs, cg⟩ = (atS S ⟨cs, cg⟩).r := by unfold rgtS; rw [hg]; rfl
              rw [ef] at KF
              rw [er, hg] at kg
              obtain ⟨bL, oL, eL, -, hcL⟩ := rdL_at HP3.out.2.2.1 hf
              subst eL
              rw [hat] at hcL
              have HCL := hid hcL
              generalize fidx ⟨cs, cg⟩ (allS S) = qn at KF hf HCL
              generalize (atS S ⟨cs, cg⟩).r = rr at kg HCL
              generalize chkS S ⟨cs, cg⟩ s = E at KC KD
              have hq0 : ¬ (qn : Int) < 0 := by omega
              have hq1 : (0 : Int) ≤ (qn : Int) := by omega
              have hq2 : (qn : Int) < ((allS S).length : Int) := by omega
              have hmx : max (qn : Int) 0 = (qn : Int) := by omega
              clear ef er hg hf hat hcL
              go_wp2_with fail
              refine ha16.mono ?_
              rintro e w5 ⟨rfl, rfl⟩
              clear ha16
              obtain ⟨⟨n0, n1⟩, -⟩ := HV3.out.2.1.two
              go_wp2_with fail
              refine kg.mono ?_
              rintro e w5 ⟨rfl, g5⟩
              have kf := KF.out w5 g5
              have HG5 := hid g5
              clear kg g5 o0 o1 o2 o3 o4 n0 n1 KF
              obtain ⟨⟨m0, m1, m2⟩, -⟩ := (HP3.out.2.1.grow HG5.out).three
              obtain ⟨⟨n0, n1⟩, -⟩ := (HV3.out.2.1.grow HG5.out).two
              go_wp2_with fail
              refine kf.mono ?_
              rintro e w6 ⟨rfl, g6⟩
              have HG6 := hid ((HG5.out.trans g6).drew)
              clear kf g6 m0 m1 m2 n0 n1
              have fz : ∀ w', Grow w6.drew w' → (w'.cell? ⟨b8, 0, none⟩ = some (.int .i64 k) ∧ w'.cell? ⟨b8, 1, none⟩ = some (.int .i64 n) ∧ w'.cell? ⟨b8, 2, none⟩ = some (.slice (some ⟨bL, oL, none⟩) (allS S).length cd)) ∧ (w'.cell? ⟨b12, 0, none⟩ = some (.int .i64 cs) ∧ w'.cell? ⟨b12, 1, none⟩ = some (.int .i64 cg)) := fun w' hu => ⟨(HP3.out.2.1.grow (HG6.out.trans hu)).three.1, (HV3.out.2.1.grow (HG6.out.trans hu)).two.1⟩
              have kc := KC.out w6.drew HG6.out
              go_wp2
              refine wp_region_sched (by kernel_rfl) [(0, false), (1, false), (2, false), (4, false), (5, false), (6, false), (3, true), (7, true), (8, false), (9, false), (10, false), (11, false), (12, false), (13, false), (14, false), (15, false), (16, false), (17, false), (18, false), (19, false), (20, false), (21, false), (22, false), (23, false), (24, false), (25, false), (26, false), (27, false)] (by kernel_rfl) (by kernel_rfl) rfl (fun _ _ d _ _ h => by cases d <;> exact h) ?_
              simp only [inOrder, List.filterMap_cons, List.filterMap_nil, List.getElem?_toArray, List.getElem?_cons_zero, List.getElem?_cons_succ, Option.map_some]
              generalize w6.drew = u6 at fz kc HG6 ⊢
              repeat (first
                | (refine wpS_move rfl ?_; simp only [Act.eval, Act.put, Array.getD_eq_getD_getElem?, List.getElem?_toArray, List.getElem?_cons_zero, List.getElem?_cons_succ, Option.getD_some, List.setIfInBounds_toArray, List.set_cons_zero, List.set_cons_succ])
                | (refine wpS_assign rfl ?_; simp only [Act.eval, Act.put, Array.getD_eq_getD_getElem?, List.getElem?_toArray, List.getElem?_cons_zero, List.getElem?_cons_succ, Option.getD_some, List.setIfInBounds_toArray, List.set_cons_zero, List.set_cons_succ])
                | (refine wpS_read (v := ?_) rfl ?_ ?_; rotate_left; (focus (intro w' hG; obtain ⟨⟨x0, x1, x2⟩, x3, x4⟩ := fz w' hG; go_simp; try (with_reducible rfl))); simp only [Act.put, List.setIfInBounds_toArray, List.set_cons_zero, List.set_cons_succ])
                | (refine wpS_skip rfl ?_; simp only [Act.put, List.setIfInBounds_toArray, List.set_cons_zero, List.set_cons_succ]))
              refine wpS_call (f := ?_) (args := ?_) (by rfl) ?_ ?_
              rotate_left 2; focus (go_simp; constructor <;> with_reducible rfl)
              refine (kc).mono ?_
              rintro e w7 ⟨rfl, g7⟩
              refine ⟨_, rfl, g7, ?_⟩
              simp only [Act.put, List.setIfInBounds_toArray, List.set_cons_zero, List.set_cons_succ]
              have HG7 := hid (HG6.out.trans g7)
              clear kc g7
              repeat (first
                | (refine wpS_move rfl ?_; simp only [Act.eval, Act.put, Array.getD_eq_getD_getElem?, List.getElem?_toArray, List.getElem?_cons_zero, List.getElem?_cons_succ, Option.getD_some, List.setIfInBounds_toArray, List.set_cons_zero, List.set_cons_succ])
                | (refine wpS_assign rfl ?_; simp only [Act.eval, Act.put, Array.getD_eq_getD_getElem?, List.getElem?_toArray, List.getElem?_cons_zero, List.getElem?_cons_succ, Option.getD_some, List.setIfInBounds_toArray, List.set_cons_zero, List.set_cons_succ])
                | (refine wpS_read (v := ?_) rfl ?_ ?_; rotate_left; (focus (intro w' hG; go_simp; try (with_reducible rfl))); simp only [Act.put, List.setIfInBounds_toArray, List.set_cons_zero, List.set_cons_succ])
                | (refine wpS_skip rfl ?_; simp only [Act.put, List.setIfInBounds_toArray, List.set_cons_zero, List.set_cons_succ]))
              refine wpS_call (f := ?_) (args := ?_) (by rfl) ?_ ?_
              rotate_left 2; focus (go_simp; constructor <;> with_reducible rfl)
              refine ((KD.out w7 HG7.out)).mono ?_
              rintro e w8 ⟨rfl, g8⟩
              refine ⟨_, rfl, g8, ?_⟩
              simp only [Act.put, List.setIfInBounds_toArray, List.set_cons_zero, List.set_cons_succ]
              have HG8 := hid (HG7.out.trans g8)
              clear g8 KD HG6 HG7 HG5
              repeat (first
                | (refine wpS_move rfl ?_; simp only [Act.eval, Act.put, Array.getD_eq_getD_getElem?, List.getElem?_toArray, List.getElem?_cons_zero, List.getElem?_cons_succ, Option.getD_some, List.setIfInBounds_toArray, List.set_cons_zero, List.set_cons_succ])
                | (refine wpS_assign rfl ?_; simp only [Act.eval, Act.put, Array.getD_eq_getD_getElem?, List.getElem?_toArray, List.getElem?_cons_zero, List.getElem?_cons_succ, Option.getD_some, List.setIfInBounds_toArray, List.set_cons_zero, List.set_cons_succ])
                | (refine wpS_read (v := ?_) rfl ?_ ?_; rotate_left; (focus (intro w' hG; go_simp; try (with_reducible rfl))); simp only [Act.put, List.setIfInBounds_toArray, List.set_cons_zero, List.set_cons_succ])
                | (refine wpS_skip rfl ?_; simp only [Act.put, List.setIfInBounds_toArray, List.set_cons_zero, List.set_cons_succ]))
              refine wpS_nil ?_
              clear fz
              obtain ⟨-, -, y5⟩ := HCL.out w8 HG8.out
              obtain ⟨⟨m0, m1, m2⟩, -⟩ := (HP3.out.2.1.grow HG8.out).three
              have HF := hid (HP3.out.at.grow HG8.out)
              clear HCL HP3 HV3
              go_wp2
              go_meet
              exact ⟨S, n, _, A, HSn.out.1, by omega, HA.out.1, by omega, HF.out⟩
            · skip
              have ef : findL (allS S) ⟨cs, cg⟩ = -1 := by unfold findL; rw [if_neg hf]
              have er : rgtS S ⟨cs, cg⟩ = 0 := by unfold rgtS; rw [hg]; rfl
              rw [ef] at KF
              rw [er, hg] at kg
              generalize chkS S ⟨cs, cg⟩ s = E at KC KD
              clear ef er hg hf
              go_wp2_with fail
              refine ha16.mono ?_
              rintro e w5 ⟨rfl, rfl⟩
              clear ha16
              obtain ⟨⟨n0, n1⟩, -⟩ := HV3.out.2.1.two
              go_wp2_with fail
              refine kg.mono ?_
              rintro e w5 ⟨rfl, g5⟩
              have kf := KF.out w5 g5
              have HG5 := hid g5
              clear kg g5 o0 o1 o2 o3 o4 n0 n1 KF
              obtain ⟨⟨m0, m1, m2⟩, -⟩ := (HP3.out.2.1.grow HG5.out).three
              obtain ⟨⟨n0, n1⟩, -⟩ := (HV3.out.2.1.grow HG5.out).two
              go_wp2_with fail
              refine kf.mono ?_
              rintro e w6 ⟨rfl, g6⟩
              have HG6 := hid ((HG5.out.trans g6).drew)
              clear kf g6 m0 m1 m2 n0 n1
              have fz : ∀ w', Grow w6.drew w' → (w'.cell? ⟨b8, 0, none⟩ = some (.int .i64 k) ∧ w'.cell? ⟨b8, 1, none⟩ = some (.int .i64 n) ∧ w'.cell? ⟨b8, 2, none⟩ = some (.slice ad (allS S).length cd)) ∧ (w'.cell? ⟨b12, 0, none⟩ = some (.int .i64 cs) ∧ w'.cell? ⟨b12, 1, none⟩ = some (.int .i64 cg)) := fun w' hu => ⟨(HP3.out.2.1.grow (HG6.out.trans hu)).three.1, (HV3.out.2.1.grow (HG6.out.trans hu)).two.1⟩
              have kc := KC.out w6.drew HG6.out
              go_wp2
              refine wp_region_sched (by kernel_rfl) [(0, false), (1, false), (2, false), (4, false), (5, false), (6, false), (3, true), (7, true), (8, false), (9, false), (10, false), (11, false), (12, false), (13, false), (14, false), (15, false), (16, false), (17, false), (18, false), (19, false), (20, false), (21, false), (22, false), (23, false), (24, false), (25, false), (26, false), (27, false)] (by kernel_rfl) (by kernel_rfl) rfl (fun _ _ d _ _ h => by cases d <;> exact h) ?_
              simp only [inOrder, List.filterMap_cons, List.filterMap_nil, List.getElem?_toArray, List.getElem?_cons_zero, List.getElem?_cons_succ, Option.map_some]
              generalize w6.drew = u6 at fz kc HG6 ⊢
              repeat (first
                | (refine wpS_move rfl ?_; simp only [Act.eval, Act.put, Array.getD_eq_getD_getElem?, List.getElem?_toArray, List.getElem?_cons_zero, List.getElem?_cons_succ, Option.getD_some, List.setIfInBounds_toArray, List.set_cons_zero, List.set_cons_succ])
                | (refine wpS_assign rfl ?_; simp only [Act.eval, Act.put, Array.getD_eq_getD_getElem?, List.getElem?_toArray, List.getElem?_cons_zero, List.getElem?_cons_succ, Option.getD_some, List.setIfInBounds_toArray, List.set_cons_zero, List.set_cons_succ])
                | (refine wpS_read (v := ?_) rfl ?_ ?_; rotate_left; (focus (intro w' hG; obtain ⟨⟨x0, x1, x2⟩, x3, x4⟩ := fz w' hG; go_simp; try (with_reducible rfl))); simp only [Act.put, List.setIfInBounds_toArray, List.set_cons_zero, List.set_cons_succ])
                | (refine wpS_skip rfl ?_; simp only [Act.put, List.setIfInBounds_toArray, List.set_cons_zero, List.set_cons_succ]))
              refine wpS_call (f := ?_) (args := ?_) (by rfl) ?_ ?_
              rotate_left 2; focus (go_simp; constructor <;> with_reducible rfl)
              refine (kc).mono ?_
              rintro e w7 ⟨rfl, g7⟩
              refine ⟨_, rfl, g7, ?_⟩
              simp only [Act.put, List.setIfInBounds_toArray, List.set_cons_zero, List.set_cons_succ]
              have HG7 := hid (HG6.out.trans g7)
              clear kc g7
              repeat (first
                | (refine wpS_move rfl ?_; simp only [Act.eval, Act.put, Array.getD_eq_getD_getElem?, List.getElem?_toArray, List.getElem?_cons_zero, List.getElem?_cons_succ, Option.getD_some, List.setIfInBounds_toArray, List.set_cons_zero, List.set_cons_succ])
                | (refine wpS_assign rfl ?_; simp only [Act.eval, Act.put, Array.getD_eq_getD_getElem?, List.getElem?_toArray, List.getElem?_cons_zero, List.getElem?_cons_succ, Option.getD_some, List.setIfInBounds_toArray, List.set_cons_zero, List.set_cons_succ])
                | (refine wpS_read (v := ?_) rfl ?_ ?_; rotate_left; (focus (intro w' hG; go_simp; try (with_reducible rfl))); simp only [Act.put, List.setIfInBounds_toArray, List.set_cons_zero, List.set_cons_succ])
                | (refine wpS_skip rfl ?_; simp only [Act.put, List.setIfInBounds_toArray, List.set_cons_zero, List.set_cons_succ]))
              refine wpS_call (f := ?_) (args := ?_) (by rfl) ?_ ?_
              rotate_left 2; focus (go_simp; constructor <;> with_reducible rfl)
              refine ((KD.out w7 HG7.out)).mono ?_
              rintro e w8 ⟨rfl, g8⟩
              refine ⟨_, rfl, g8, ?_⟩
              simp only [Act.put, List.setIfInBounds_toArray, List.set_cons_zero, List.set_cons_succ]
              have HG8 := hid (HG7.out.trans g8)
              clear g8 KD HG6 HG7 HG5
              repeat (first
                | (refine wpS_move rfl ?_; simp only [Act.eval, Act.put, Array.getD_eq_getD_getElem?, List.getElem?_toArray, List.getElem?_cons_zero, List.getElem?_cons_succ, Option.getD_some, List.setIfInBounds_toArray, List.set_cons_zero, List.set_cons_succ])
                | (refine wpS_assign rfl ?_; simp only [Act.eval, Act.put, Array.getD_eq_getD_getElem?, List.getElem?_toArray, List.getElem?_cons_zero, List.getElem?_cons_succ, Option.getD_some, List.setIfInBounds_toArray, List.set_cons_zero, List.set_cons_succ])
                | (refine wpS_read (v := ?_) rfl ?_ ?_; rotate_left; (focus (intro w' hG; go_simp; try (with_reducible rfl))); simp only [Act.put, List.setIfInBounds_toArray, List.set_cons_zero, List.set_cons_succ])
                | (refine wpS_skip rfl ?_; simp only [Act.put, List.setIfInBounds_toArray, List.set_cons_zero, List.set_cons_succ]))
              refine wpS_nil ?_
              clear fz
              have HF := hid (HP3.out.at.grow HG8.out)
              clear HP3 HV3
              go_wp2
              go_meet
              exact ⟨S, n, _, A, HSn.out.1, by omega, HA.out.1, by omega, HF.out⟩
          · have q4 := neqs t4
            clear t3 t4 hbd
            have ha16 := around_any zs 16 W3 HZ.out.2.2.2.1 (by omega) (by omega)
            have hb16 := around_bd zs 16 (by omega)
            generalize around zs 16 = s0 at ha16 hb16
            obtain ⟨s, rfl⟩ := Int.eq_ofNat_of_zero_le hb16.1
            have HW1 := hid (wf_small s (by omega))
            have hbt := bounds_i64 HZ.out.2.2.2.2
            have hwt : IntKind.i64.wrap (zn.tmod 7) = zn.tmod 7 := by
              rw [IntKind.wrap_i64]
              have h1 := Int.tmod_lt_of_pos zn (show (0 : Int) < 7 by omega)
              have h2 : -7 < zn.tmod 7 := by
                have := Int.tmod_lt_of_pos (-zn) (show (0 : Int) < 7 by omega)
                rw [Int.neg_tmod] at this
                omega
              omega
            clear hb16 hbt
            by_cases h6 : zn.tmod 7 = 6
            · have q6 := eqs h6
              have HWx : Hid ((Lit.int .i64 zs).wf = true) := HZ.out.2.2.2.1
              clear h6 HW1
              go_wp2_with fail
              refine ha16.mono ?_
              rintro e w5 ⟨rfl, rfl⟩
              clear ha16
              have kd := rmint_any k n _ S ⟨cs, cg⟩ zs W3 HP3.out.2.2.1 HSn.out.1
              have HOk := hid (HSn.out.1.mint ⟨cs, cg⟩ zs)
              have HKt := hid (fun u (hu : TbAt u b S k n) => mint_any b S k n ⟨cs, cg⟩ zs u hu HSn.out.1 HWx.out)
              have HNm : Hid (numM S n ⟨cs, cg⟩ zs ≤ n + 1) := by
                show numM S n ⟨cs, cg⟩ zs ≤ n + 1
                unfold numM
                split <;> omega
              generalize capM S k n ⟨cs, cg⟩ zs = cm at kd HKt
              generalize errM S n ⟨cs, cg⟩ zs = E at kd HKt
              generalize numM S n ⟨cs, cg⟩ zs = n1 at kd HKt HOk HNm
              generalize setM S k n ⟨cs, cg⟩ zs = S1 at kd HKt HOk
              obtain ⟨ms, mg⟩ := cm
              obtain ⟨⟨m0, m1, m2⟩, -⟩ := HP3.out.2.1.three
              obtain ⟨⟨n0, n3⟩, -⟩ := HV3.out.2.1.two
              go_wp2_with fail
              refine kd.mono ?_
              rintro e w5 ⟨v5, rfl, hv5, g5⟩
              obtain ⟨a5, c5, hs5⟩ := RdS.shape hv5
              have HL5 := hid hv5
              generalize (allS S1).length = l5 at hs5
              subst hs5
              obtain ⟨W6, hW6⟩ : ∃ W6, W6 = (w5.alloc (.cells #[.int .i64 k, .int .i64 n1, .slice a5 l5 c5] 30)).alloc (.cells #[.int .i64 ms, .int .i64 mg] 33) := ⟨_, rfl⟩
              obtain ⟨b22, hb22⟩ : ∃ b22, b22 = w5.heap.size + 1 := ⟨_, rfl⟩
              obtain ⟨b21, hb21⟩ : ∃ b21, b21 = w5.heap.size := ⟨_, rfl⟩
              have g56 : Grow w5 W6 := by rw [hW6]; exact ((Grow.refl w5).alloc _).alloc _
              have g36 := g5.trans g56
              have hdoc := HP3.out.doc (n2' := n1) g36 (HL5.out.grow g56)
              have hb12l := (HV3.out.2.1.grow g5).lt
              have HV6 : Hid (VarAt W6 b12 [.int .i64 cs, .int .i64 cg] ∧ VarAt W6 b21 [.int .i64 k, .int .i64 n1, .slice a5 l5 c5] ∧ VarAt W6 b22 [.int .i64 ms, .int .i64 mg] ∧ VarAt W6 b8 [.int .i64 k, .int .i64 n, .slice ad (allS S).length cd] ∧ b8 < b12 ∧ b8 < b21 ∧ b8 < b22) := ⟨HV3.out.2.1.grow g36, by rw [hW6, hb21]; exact (VarAt.new w5 [.int .i64 k, .int .i64 n1, .slice a5 l5 c5] _).old _, by rw [hW6, hb22]; exact VarAt.new2 w5 _ [.int .i64 ms, .int .i64 mg] _, HP3.out.2.1.grow g36, by have := HV3.out.2.2; omega, by have := HV3.out.2.2; omega, by have := HV3.out.2.2; omega⟩
              have HDo := hid hdoc
              have HBB : Hid (b < b8) := HP3.out.2.2.2.2.2.2.2.2
              clear kd g5 g56 g36 hdoc hv5 m0 m1 m2 n0 n3 HV3 HP3 HL5 hb12l o0 o1 o2 o3 o4 q6 hwt
              go_upto_region 17 with fail
              rw [← hW6, ← hb22, ← hb21]
              clear hW6 hb22 hb21
              obtain ⟨⟨m0, m1, m2⟩, -⟩ := HV6.out.2.1.three
              obtain ⟨⟨n0, n3, n2⟩, s0, s1, s2⟩ := HV6.out.2.2.2.1.three
              obtain ⟨W9, hW9⟩ : ∃ W9, W9 = ((W6.setCell ⟨b8, 0, none⟩ (.int .i64 k)).setCell ⟨b8, 1, none⟩ (.int .i64 n1)).setCell ⟨b8, 2, none⟩ (.slice a5 l5 c5) := ⟨_, rfl⟩
              rw [← hW9] at HDo
              have HV9 : Hid (VarAt W9 b12 [.int .i64 cs, .int .i64 cg] ∧ VarAt W9 b22 [.int .i64 ms, .int .i64 mg]) := ⟨HV6.out.1.upd HDo.out.2 (by have := HV6.out.2.2.2.2; omega), HV6.out.2.2.1.upd HDo.out.2 (by have := HV6.out.2.2.2.2; omega)⟩
              have HV822 : Hid (b8 < b22) := HV6.out.2.2.2.2.2.2
              go_upto_region 18 with fail
              rw [← hW9]
              clear hW9 m0 m1 m2 n0 n3 n2 s0 s1 s2 HV6
              obtain ⟨⟨n0, n3⟩, -⟩ := HV9.out.1.two
              obtain ⟨p9, q9, hp9⟩ := HDo.out.1
              have kt := HKt.out W9 hp9.1
              have HDa := hid HDo.out.1
              have H822 : Hid (b8 < b22) := HV822.out
              clear HKt HDo hp9
              go_wp2_with fail
              refine kt.mono ?_
              rintro e wa ⟨rfl, ta, ua⟩
              obtain ⟨Wb, hWb⟩ : ∃ Wb, Wb = wa.alloc (.cells #[.int .i64 ms, .int .i64 mg] 33) := ⟨_, rfl⟩
              obtain ⟨b24, hb24⟩ : ∃ b24, b24 = wa.heap.size := ⟨_, rfl⟩
              have gb : Grow wa Wb := by rw [hWb]; exact (Grow.refl wa).alloc _
              have HVb : Hid (VarAt Wb b22 [.int .i64 ms, .int .i64 mg] ∧ VarAt Wb b24 [.int .i64 ms, .int .i64 mg]) := ⟨(HV9.out.2.upd ua (by have := H822.out; have := HBB.out; omega)).grow gb, by rw [hWb, hb24]; exact VarAt.new wa [.int .i64 ms, .int .i64 mg] _⟩
              have HFb := hid ((HDa.out.tab ta ua).grow gb)
              clear kt ta ua gb n0 n3 HV9 HDa
              go_upto_region 19 with fail
              rw [← hWb, ← hb24]
              clear hWb hb24
              obtain ⟨⟨x0, x1⟩, -⟩ := HVb.out.1.two
              obtain ⟨⟨y0, y1⟩, -⟩ := HVb.out.2.two
              by_cases hE : E = 0
              · have qe := eqs hE
                clear hE
                obtain ⟨p2, q2, hp2⟩ := HFb.out
                have HP2 := hid hp2
                have ho := hp2.2.2.2.1.grow ((Grow.refl Wb).alloc (.cells #[.int .i64 ms, .int .i64 mg] 33))
                have hA25 : A.length ≤ 25 := HA.out.2
                clear hp2
                go_wp2_with (at_builtin; refine wpList_appS (f := Cp.cs) (k := 2) rfl (.tmp 103) (.tmp 105) 35 35 rfl cpk (by omega) i0 (.agg #[.int .i64 0, .int .i64 0]) 16 Try.underlying35 hi hz0 hz1 hz2 rfl rfl rfl ho (src_oneC Wb ms mg) (by simp only [maxLen, List.length_singleton]; omega) (by simp only [List.length_singleton]; omega) ?_)
                intro v' w' ho' hu'
                have HF := hid (HP2.out.app ho' hu')
                clear ho' hu' ho x0 x1 y0 y1 HVb HFb HP2 qe hA25
                go_wp2
                go_meet
                exact ⟨S1, n1, _, A ++ [(⟨ms, mg⟩ : Cp)], HOk.out, HNm.out, by simp, by simp, HF.out⟩
              · have qe := neqs hE
                clear hE
                go_wp2
                go_meet
                exact ⟨S1, n1, _, A, HOk.out, HNm.out, HA.out.1, by omega, HFb.out⟩
            · have q6 := neqs h6
              have HWx : Hid ((Lit.int .i64 (s : Int)).wf = true) := HW1.out
              clear h6 HW1
              go_wp2_with fail
              refine ha16.mono ?_
              rintro e w5 ⟨rfl, rfl⟩
              clear ha16
              have kd := rmint_any k n _ S ⟨cs, cg⟩ (s : Int) W3 HP3.out.2.2.1 HSn.out.1
              have HOk := hid (HSn.out.1.mint ⟨cs, cg⟩ (s : Int))
              have HKt := hid (fun u (hu : TbAt u b S k n) => mint_any b S k n ⟨cs, cg⟩ (s : Int) u hu HSn.out.1 HWx.out)
              have HNm : Hid (numM S n ⟨cs, cg⟩ (s : Int) ≤ n + 1) := by
                show numM S n ⟨cs, cg⟩ (s : Int) ≤ n + 1
                unfold numM
                split <;> omega
              generalize capM S k n ⟨cs, cg⟩ (s : Int) = cm at kd HKt
              generalize errM S n ⟨cs, cg⟩ (s : Int) = E at kd HKt
              generalize numM S n ⟨cs, cg⟩ (s : Int) = n1 at kd HKt HOk HNm
              generalize setM S k n ⟨cs, cg⟩ (s : Int) = S1 at kd HKt HOk
              obtain ⟨ms, mg⟩ := cm
              obtain ⟨⟨m0, m1, m2⟩, -⟩ := HP3.out.2.1.three
              obtain ⟨⟨n0, n3⟩, -⟩ := HV3.out.2.1.two
              go_wp2_with fail
              refine kd.mono ?_
              rintro e w5 ⟨v5, rfl, hv5, g5⟩
              obtain ⟨a5, c5, hs5⟩ := RdS.shape hv5
              have HL5 := hid hv5
              generalize (allS S1).length = l5 at hs5
              subst hs5
              obtain ⟨W6, hW6⟩ : ∃ W6, W6 = (w5.alloc (.cells #[.int .i64 k, .int .i64 n1, .slice a5 l5 c5] 30)).alloc (.cells #[.int .i64 ms, .int .i64 mg] 33) := ⟨_, rfl⟩
              obtain ⟨b22, hb22⟩ : ∃ b22, b22 = w5.heap.size + 1 := ⟨_, rfl⟩
              obtain ⟨b21, hb21⟩ : ∃ b21, b21 = w5.heap.size := ⟨_, rfl⟩
              have g56 : Grow w5 W6 := by rw [hW6]; exact ((Grow.refl w5).alloc _).alloc _
              have g36 := g5.trans g56
              have hdoc := HP3.out.doc (n2' := n1) g36 (HL5.out.grow g56)
              have hb12l := (HV3.out.2.1.grow g5).lt
              have HV6 : Hid (VarAt W6 b12 [.int .i64 cs, .int .i64 cg] ∧ VarAt W6 b21 [.int .i64 k, .int .i64 n1, .slice a5 l5 c5] ∧ VarAt W6 b22 [.int .i64 ms, .int .i64 mg] ∧ VarAt W6 b8 [.int .i64 k, .int .i64 n, .slice ad (allS S).length cd] ∧ b8 < b12 ∧ b8 < b21 ∧ b8 < b22) := ⟨HV3.out.2.1.grow g36, by rw [hW6, hb21]; exact (VarAt.new w5 [.int .i64 k, .int .i64 n1, .slice a5 l5 c5] _).old _, by rw [hW6, hb22]; exact VarAt.new2 w5 _ [.int .i64 ms, .int .i64 mg] _, HP3.out.2.1.grow g36, by have := HV3.out.2.2; omega, by have := HV3.out.2.2; omega, by have := HV3.out.2.2; omega⟩
              have HDo := hid hdoc
              have HBB : Hid (b < b8) := HP3.out.2.2.2.2.2.2.2.2
              clear kd g5 g56 g36 hdoc hv5 m0 m1 m2 n0 n3 HV3 HP3 HL5 hb12l o0 o1 o2 o3 o4 q6 hwt
              go_upto_region 17 with fail
              rw [← hW6, ← hb22, ← hb21]
              clear hW6 hb22 hb21
              obtain ⟨⟨m0, m1, m2⟩, -⟩ := HV6.out.2.1.three
              obtain ⟨⟨n0, n3, n2⟩, s0, s1, s2⟩ := HV6.out.2.2.2.1.three
              obtain ⟨W9, hW9⟩ : ∃ W9, W9 = ((W6.setCell ⟨b8, 0, none⟩ (.int .i64 k)).setCell ⟨b8, 1, none⟩ (.int .i64 n1)).setCell ⟨b8, 2, none⟩ (.slice a5 l5 c5) := ⟨_, rfl⟩
              rw [← hW9] at HDo
              have HV9 : Hid (VarAt W9 b12 [.int .i64 cs, .int .i64 cg] ∧ VarAt W9 b22 [.int .i64 ms, .int .i64 mg]) := ⟨HV6.out.1.upd HDo.out.2 (by have := HV6.out.2.2.2.2; omega), HV6.out.2.2.1.upd HDo.out.2 (by have := HV6.out.2.2.2.2; omega)⟩
              have HV822 : Hid (b8 < b22) := HV6.out.2.2.2.2.2.2
              go_upto_region 18 with fail
              rw [← hW9]
              clear hW9 m0 m1 m2 n0 n3 n2 s0 s1 s2 HV6
              obtain ⟨⟨n0, n3⟩, -⟩ := HV9.out.1.two
              obtain ⟨p9, q9, hp9⟩ := HDo.out.1
              have kt := HKt.out W9 hp9.1
              have HDa := hid HDo.out.1
              have H822 : Hid (b8 < b22) := HV822.out
              clear HKt HDo hp9
              go_wp2_with fail
              refine kt.mono ?_
              rintro e wa ⟨rfl, ta, ua⟩
              obtain ⟨Wb, hWb⟩ : ∃ Wb, Wb = wa.alloc (.cells #[.int .i64 ms, .int .i64 mg] 33) := ⟨_, rfl⟩
              obtain ⟨b24, hb24⟩ : ∃ b24, b24 = wa.heap.size := ⟨_, rfl⟩
              have gb : Grow wa Wb := by rw [hWb]; exact (Grow.refl wa).alloc _
              have HVb : Hid (VarAt Wb b22 [.int .i64 ms, .int .i64 mg] ∧ VarAt Wb b24 [.int .i64 ms, .int .i64 mg]) := ⟨(HV9.out.2.upd ua (by have := H822.out; have := HBB.out; omega)).grow gb, by rw [hWb, hb24]; exact VarAt.new wa [.int .i64 ms, .int .i64 mg] _⟩
              have HFb := hid ((HDa.out.tab ta ua).grow gb)
              clear kt ta ua gb n0 n3 HV9 HDa
              go_upto_region 19 with fail
              rw [← hWb, ← hb24]
              clear hWb hb24
              obtain ⟨⟨x0, x1⟩, -⟩ := HVb.out.1.two
              obtain ⟨⟨y0, y1⟩, -⟩ := HVb.out.2.two
              by_cases hE : E = 0
              · have qe := eqs hE
                clear hE
                obtain ⟨p2, q2, hp2⟩ := HFb.out
                have HP2 := hid hp2
                have ho := hp2.2.2.2.1.grow ((Grow.refl Wb).alloc (.cells #[.int .i64 ms, .int .i64 mg] 33))
                have hA25 : A.length ≤ 25 := HA.out.2
                clear hp2
                go_wp2_with (at_builtin; refine wpList_appS (f := Cp.cs) (k := 2) rfl (.tmp 103) (.tmp 105) 35 35 rfl cpk (by omega) i0 (.agg #[.int .i64 0, .int .i64 0]) 16 Try.underlying35 hi hz0 hz1 hz2 rfl rfl rfl ho (src_oneC Wb ms mg) (by simp only [maxLen, List.length_singleton]; omega) (by simp only [List.length_singleton]; omega) ?_)
                intro v' w' ho' hu'
                have HF := hid (HP2.out.app ho' hu')
                clear ho' hu' ho x0 x1 y0 y1 HVb HFb HP2 qe hA25
                go_wp2
                go_meet
                exact ⟨S1, n1, _, A ++ [(⟨ms, mg⟩ : Cp)], HOk.out, HNm.out, by simp, by simp, HF.out⟩
              · have qe := neqs hE
                clear hE
                go_wp2
                go_meet
                exact ⟨S1, n1, _, A, HOk.out, HNm.out, HA.out.1, by omega, HFb.out⟩
      case rest =>
        clear o0 o1 o2 o3 o4 HV3 HP3 hbd
        obtain ⟨S', n', v', A', HC⟩ := hcut
        obtain ⟨W6, rfl⟩ : ∃ W6, W6 = wc := ⟨_, rfl⟩
        have hA25 : A'.length ≤ 26 := by have := HC.out.2.2.2.1; have := HA.out.2; omega
        obtain ⟨p, q, hpl⟩ := HC.out.2.2.2.2
        obtain ⟨ad2, cd2, hsd⟩ := RdS.shape hpl.2.2.1
        subst hsd
        have HP := hid (hpl.grow (Grow.refl _).drew)
        have HL8 : Hid ((allS S').length ≤ 8) := by show _ ≤ 8; have := allS_len S'; rw [HC.out.1.len] at this; exact this
        have KL := hid (fun u (hu : TbAt u b S' k n') => live_any b S' k n' u hu HC.out.1.len)
        have ka := all_caps b S' k n' W6.drew HP.out.1 HC.out.1.len
        have KR := hid (fun u (hu : Grow W6.drew u) => rall_any k n' _ (allS S') u (HP.out.2.2.1.grow hu) HL8.out)
        have fz : ∀ w', Grow W6.drew w' → (w'.cell? ⟨b8, 0, none⟩ = some (.int .i64 k) ∧ w'.cell? ⟨b8, 1, none⟩ = some (.int .i64 n') ∧ w'.cell? ⟨b8, 2, none⟩ = some (.slice ad2 (allS S').length cd2)) := fun w' hu => (HP.out.2.1.grow hu).three.1
        have HFin : Hid (TbOk S' k n' ∧ n' ≤ ((j + 1 : Nat) : Int) + 1 ∧ 0 < A'.length ∧ A'.length ≤ j + 1 + 1) := ⟨HC.out.1, by have := HC.out.2.1; have := HSn.out.2.1; omega, HC.out.2.2.1, by have := HC.out.2.2.2.1; have := HSn.out.2.2; omega⟩
        have hw1 : IntKind.i64.wrap ((j : Int) + 1) = ((j + 1 : Nat) : Int) := by rw [IntKind.wrap_i64]; have := HJ.out; omega
        clear hpl HC hA25
        go_wp2
        refine wp_region_sched (by kernel_rfl) [(0, false), (2, false), (1, true), (3, true), (4, true), (5, false), (6, false), (7, false), (9, false), (10, false), (11, false), (8, true), (12, false), (13, false)] (by kernel_rfl) (by kernel_rfl) rfl (fun _ _ d _ _ h => by cases d <;> exact h) ?_
        simp only [inOrder, List.filterMap_cons, List.filterMap_nil, List.getElem?_toArray, List.getElem?_cons_zero, List.getElem?_cons_succ, Option.map_some]
        generalize W6.drew = u6 at HP ka KR fz ⊢
        repeat (first
          | (refine wpS_move rfl ?_; simp only [Act.eval, Act.put, Array.getD_eq_getD_getElem?, List.getElem?_toArray, List.getElem?_cons_zero, List.getElem?_cons_succ, Option.getD_some, List.setIfInBounds_toArray, List.set_cons_zero, List.set_cons_succ])
          | (refine wpS_assign rfl ?_; simp only [Act.eval, Act.put, Array.getD_eq_getD_getElem?, List.getElem?_toArray, List.getElem?_cons_zero, List.getElem?_cons_succ, Option.getD_some, List.setIfInBounds_toArray, List.set_cons_zero, List.set_cons_succ])
          | (refine wpS_read (v := ?_) rfl ?_ ?_; rotate_left; (focus (intro w' hG; obtain ⟨x0, x1, x2⟩ := fz w' hG; go_simp; try (with_reducible rfl))); simp only [Act.put, List.setIfInBounds_toArray, List.set_cons_zero, List.set_cons_succ])
          | (refine wpS_skip rfl ?_; simp only [Act.put, List.setIfInBounds_toArray, List.set_cons_zero, List.set_cons_succ]))
        refine wpS_call (f := ?_) (args := ?_) (by rfl) ?_ ?_
        rotate_left 2; focus (go_simp; constructor <;> with_reducible rfl)
        refine (ka).mono ?_
        rintro e w7 ⟨v7, rfl, ho7, g7⟩
        refine ⟨_, rfl, g7, ?_⟩
        simp only [Act.put, List.setIfInBounds_toArray, List.set_cons_zero, List.set_cons_succ]
        have kr := KR.out w7 g7
        have HG7 := hid g7
        clear ka KR g7
        repeat (first
          | (refine wpS_move rfl ?_; simp only [Act.eval, Act.put, Array.getD_eq_getD_getElem?, List.getElem?_toArray, List.getElem?_cons_zero, List.getElem?_cons_succ, Option.getD_some, List.setIfInBounds_toArray, List.set_cons_zero, List.set_cons_succ])
          | (refine wpS_assign rfl ?_; simp only [Act.eval, Act.put, Array.getD_eq_getD_getElem?, List.getElem?_toArray, List.getElem?_cons_zero, List.getElem?_cons_succ, Option.getD_some, List.setIfInBounds_toArray, List.set_cons_zero, List.set_cons_succ])
          | (refine wpS_read (v := ?_) rfl ?_ ?_; rotate_left; (focus (intro w' hG; go_simp; try (with_reducible rfl))); simp only [Act.put, List.setIfInBounds_toArray, List.set_cons_zero, List.set_cons_succ])
          | (refine wpS_skip rfl ?_; simp only [Act.put, List.setIfInBounds_toArray, List.set_cons_zero, List.set_cons_succ]))
        refine wpS_call (f := ?_) (args := ?_) (by rfl) ?_ ?_
        rotate_left 2; focus (go_simp; constructor <;> with_reducible rfl)
        refine (kr).mono ?_
        rintro e w8 ⟨v8, rfl, ho8, g8⟩
        refine ⟨_, rfl, g8, ?_⟩
        simp only [Act.put, List.setIfInBounds_toArray, List.set_cons_zero, List.set_cons_succ]
        have HG8 := hid (HG7.out.trans g8)
        have ks := rsame_any v7 v8 _ w8 (RdS.grow ho7.rd g8) ho8.rd
        clear kr g8 ho7 ho8 HG7
        repeat (first
          | (refine wpS_move rfl ?_; simp only [Act.eval, Act.put, Array.getD_eq_getD_getElem?, List.getElem?_toArray, List.getElem?_cons_zero, List.getElem?_cons_succ, Option.getD_some, List.setIfInBounds_toArray, List.set_cons_zero, List.set_cons_succ])
          | (refine wpS_assign rfl ?_; simp only [Act.eval, Act.put, Array.getD_eq_getD_getElem?, List.getElem?_toArray, List.getElem?_cons_zero, List.getElem?_cons_succ, Option.getD_some, List.setIfInBounds_toArray, List.set_cons_zero, List.set_cons_succ])
          | (refine wpS_read (v := ?_) rfl ?_ ?_; rotate_left; (focus (intro w' hG; go_simp; try (with_reducible rfl))); simp only [Act.put, List.setIfInBounds_toArray, List.set_cons_zero, List.set_cons_succ])
          | (refine wpS_skip rfl ?_; simp only [Act.put, List.setIfInBounds_toArray, List.set_cons_zero, List.set_cons_succ]))
        refine wpS_call (f := ?_) (args := ?_) (by rfl) ?_ ?_
        rotate_left 2; focus (go_simp; constructor <;> with_reducible rfl)
        refine (ks).mono ?_
        rintro e w9 ⟨rfl, g9⟩
        refine ⟨_, rfl, g9, ?_⟩
        simp only [Act.put, List.setIfInBounds_toArray, List.set_cons_zero, List.set_cons_succ]
        have HG9 := hid (HG8.out.trans g9)
        clear ks g9 HG8
        have fz2 : ∀ w', Grow w9 w' → (w'.cell? ⟨b8, 0, none⟩ = some (.int .i64 k) ∧ w'.cell? ⟨b8, 1, none⟩ = some (.int .i64 n') ∧ w'.cell? ⟨b8, 2, none⟩ = some (.slice ad2 (allS S').length cd2)) := fun w' hu => fz w' (HG9.out.trans hu)
        repeat (first
          | (refine wpS_move rfl ?_; simp only [Act.eval, Act.put, Array.getD_eq_getD_getElem?, List.getElem?_toArray, List.getElem?_cons_zero, List.getElem?_cons_succ, Option.getD_some, List.setIfInBounds_toArray, List.set_cons_zero, List.set_cons_succ])
          | (refine wpS_assign rfl ?_; simp only [Act.eval, Act.put, Array.getD_eq_getD_getElem?, List.getElem?_toArray, List.getElem?_cons_zero, List.getElem?_cons_succ, Option.getD_some, List.setIfInBounds_toArray, List.set_cons_zero, List.set_cons_succ])
          | (refine wpS_read (v := ?_) rfl ?_ ?_; rotate_left; (focus (intro w' hG; obtain ⟨x0, x1, x2⟩ := fz2 w' hG; go_simp; try (with_reducible rfl))); simp only [Act.put, List.setIfInBounds_toArray, List.set_cons_zero, List.set_cons_succ])
          | (refine wpS_skip rfl ?_; simp only [Act.put, List.setIfInBounds_toArray, List.set_cons_zero, List.set_cons_succ]))
        refine wpS_call (f := ?_) (args := ?_) (by rfl) ?_ ?_
        rotate_left 2; focus (go_simp; constructor <;> with_reducible rfl)
        refine ((KL.out w9 (HP.out.1.grow HG9.out))).mono ?_
        rintro e wa ⟨rfl, ga⟩
        refine ⟨_, rfl, ga, ?_⟩
        simp only [Act.put, List.setIfInBounds_toArray, List.set_cons_zero, List.set_cons_succ]
        have HF := hid ((HP.out.grow (HG9.out.trans ga)).at)
        clear ga HG9 KL fz fz2 HP
        repeat (first
          | (refine wpS_move rfl ?_; simp only [Act.eval, Act.put, Array.getD_eq_getD_getElem?, List.getElem?_toArray, List.getElem?_cons_zero, List.getElem?_cons_succ, Option.getD_some, List.setIfInBounds_toArray, List.set_cons_zero, List.set_cons_succ])
          | (refine wpS_assign rfl ?_; simp only [Act.eval, Act.put, Array.getD_eq_getD_getElem?, List.getElem?_toArray, List.getElem?_cons_zero, List.getElem?_cons_succ, Option.getD_some, List.setIfInBounds_toArray, List.set_cons_zero, List.set_cons_succ])
          | (refine wpS_read (v := ?_) rfl ?_ ?_; rotate_left; (focus (intro w' hG; go_simp; try (with_reducible rfl))); simp only [Act.put, List.setIfInBounds_toArray, List.set_cons_zero, List.set_cons_succ])
          | (refine wpS_skip rfl ?_; simp only [Act.put, List.setIfInBounds_toArray, List.set_cons_zero, List.set_cons_succ]))
        refine wpS_nil ?_
        go_wp2
        go_roundg (os.length - (j + 1))
        case measure => have := HJ.out; omega
        case rel => exact ⟨j + 1, S', n', _, A', rfl, HJ.out.1, HJ.out.2.1, by first | rfl | go_num, HFin.out.1, HFin.out.2.1, HFin.out.2.2.1, HFin.out.2.2.2, HF.out⟩
    · by_cases hlt : j < os.length
      · have hlt' : (j : Int) < (os.length : Int) := by omega
        have h24' : ¬ (j : Int) < 24 := by omega
        clear hgo hlt
        obtain ⟨p, q, hpl⟩ := HX.out.2.2.2.2
        have HG := hid hpl.2.2.2.2.2.2.1
        clear hpl HX hk hj hj24
        go_wp2_with fail
        refine (lives_any wr).mono ?_
        rintro e wd ⟨rfl, gd⟩
        go_wp2
        go_ret
        exact ⟨rfl, HG.out.trans gd⟩
      · have hlt' : ¬ (j : Int) < (os.length : Int) := by omega
        clear hgo hlt
        obtain ⟨p, q, hpl⟩ := HX.out.2.2.2.2
        have HG := hid hpl.2.2.2.2.2.2.1
        clear hpl HX hk hj hj24
        go_wp2_with fail
        refine (lives_any wr).mono ?_
        rintro e wd ⟨rfl, gd⟩
        go_wp2
        go_ret
        exact ⟨rfl, HG.out.trans gd⟩
end Go.Proofs.Ytoobohbghobfhaa
