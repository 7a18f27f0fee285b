/-
  The walk of PartKeeps. Conditions: the theorem's own.
-/
import Derived.Test.YthdhfojogckflaaW14Keeps
namespace Go.Proofs.Ythdhfojogckflaa
open Go.RowKit
set_option linter.unusedVariables false
set_option linter.unusedSimpArgs false

set_option maxRecDepth 16000 in
set_option maxHeartbeats 8000000 in
theorem partKeeps_walk (v0 : Value) (ys : List Int) (off : Int) (ao : Option Addr) (co : Nat) (os : List OD) (w : World) (h0 : Rd .u8 w.heap.size w v0 ys) (h0o : Oct ys) (hof : (Lit.int .i64 off).wf = true) (hos : RdS OD.cs 6 (fun i => i < w.heap.size) w (.slice ao os.length co) os) (hok : ∀ z ∈ os, OD.Ok w z) :
    Calls Try.prog 7 #[v0, .int .i64 off, .slice ao os.length co] w fun e w' => e = .returned (.bool true) ∧ Grow w w' := by
  have hol := hos.len
  unfold maxLen at hol
  have hn := new_yes 2 w (by omega) (by omega)
  have hr := fun w => around_any off 33 w hof (by omega) (by omega)
  have hrb := around_bd off 33 (by omega)
  obtain ⟨K, hK⟩ := Int.eq_ofNat_of_zero_le hrb.1
  rw [hK] at hrb
  simp only [hK] at hr
  have hK32 : K ≤ 32 := by omega
  have hwK : IntKind.i64.wrap (32 - (K : Int)) = 32 - (K : Int) := by rw [IntKind.wrap_i64]; omega
  have HA : Hid (K + (ys.take (32 - K)).length ≤ 32 ∧ Oct (ys.take (32 - K))) := ⟨by rw [List.length_take]; omega, h0o.take _⟩
  have hW := fun w' (g : Grow w w') => fewB_any v0 ys (32 - (K : Int)) (32 - K) _ w' (by omega) (h0.v.grow g).i (by omega)
  obtain ⟨av, cv, hv0⟩ := h0.v.shape
  generalize ys.take (32 - K) = A at hW HA
  generalize ys.length = yl at hv0
  subst hv0
  have HS : Hid (RdS OD.cs 6 (fun i => i < w.heap.size) w (.slice ao os.length co) os ∧ ∀ z ∈ os, OD.Ok w z) := ⟨hos, hok⟩
  clear hrb hK hof h0 h0o hos hok
  go_enter Try.func7, Try.ntmps7
  go_wp2_with fail
  refine hn.mono ?_
  rintro e w1 ⟨rfl, k1', g1⟩
  obtain ⟨P, hP⟩ : ∃ P, w.heap.size + 1 = P := ⟨_, rfl⟩
  obtain ⟨b, hbb⟩ : ∃ b, w.heap.size = b := ⟨_, rfl⟩
  rw [hP, hbb] at k1'
  rw [hP]
  have HPb : Hid (w.heap.size ≤ P ∧ w.heap.size ≤ b ∧ P < w1.heap.size ∧ b < w1.heap.size) := ⟨by omega, by omega, k1'.lt, k1'.2.2.1⟩
  have H1 : Hid (PtO w1 P b 0 (List.replicate 2 FS.empty) 0 ∧ Grow w w1) := ⟨k1', g1⟩
  have hW1 := hW w1 g1
  clear hn k1' g1 hP hbb hW
  go_wp2_with fail
  refine (hr _).mono ?_
  rintro e w1' ⟨rfl, rfl⟩
  clear hr
  go_wp2_with fail
  refine hW1.mono ?_
  rintro e w2 ⟨v2, rfl, ho2, g2⟩
  obtain ⟨a3, c3, hv3⟩ := ho2.v.shape
  subst hv3
  obtain ⟨v4, w4, hmk, ho4, g4⟩ := make32 w2
  obtain ⟨a4, c4, hv4⟩ := ho4.shape
  rw [z32_len] at hv4
  subst hv4
  have HF2 : Hid (RdV (Value.int .u8) 0 (fun i => i ≠ P ∧ i ≠ b) w4 (.slice a3 A.length c3) A ∧ Grow w w4) := ⟨(ho2.v.rd.grow g4).mono (fun i _ hi => by have := HPb.out; omega), (H1.out.2.trans g2).trans g4⟩
  have hld := load_any w4 P b 0 (List.replicate 2 FS.empty) 0 ((H1.out.1.grow g2).grow g4) (repl_ok (by omega) (by omega)) 0 0 _ z32 (ho4.rd.mono (fun i _ hi => by have := HPb.out; have := g2.size; omega))
  rw [kx_load] at hld
  clear hW1 ho2 g2 ho4 g4 H1
  go_wp2_with fail
  refine hld.mono ?_
  rintro e w5 ⟨rfl, k5, u5⟩
  have hpn := ppin_any w5 P b 0 k0 0 k5 k0_ok 0
  rw [kx_pin] at hpn
  have HF5 : Hid (RdV (Value.int .u8) 0 (fun i => i ≠ P ∧ i ≠ b) w5 (.slice a3 A.length c3) A ∧ Grow w w5) := ⟨HF2.out.1.upd u5 (fun i _ hi => by omega), UpdS.new HF2.out.2 u5 (fun i hi => by have := HPb.out; omega)⟩
  clear hld hmk k5 u5 HF2
  go_wp2_with fail
  refine hpn.mono ?_
  rintro e w6 ⟨rfl, k6, u6⟩
  have HF6 : Hid (RdV (Value.int .u8) 0 (fun i => i ≠ P ∧ i ≠ b) w6 (.slice a3 A.length c3) A ∧ Grow w w6) := ⟨HF5.out.1.upd u6 (fun i _ hi => by omega), UpdS.new HF5.out.2 u6 (fun i hi => by have := HPb.out; omega)⟩
  have hpt := pput_any w6 P b 0 k1 0 k6 k1_ok 0 (K : Int) _ A _ (wfI (by omega)) HF6.out.1
  rw [kx_put HA.out.1] at hpt
  clear hpn k6 u6 HF5
  go_wp2_with fail
  refine hpt.mono ?_
  rintro e w7 ⟨rfl, k7, u7⟩
  have H7 : Hid (∃ (L : List FS) (h : Nat), PtO w7 P b 0 L h ∧ PtOk L h ∧ KP (midL z32 K A) L ∧ RdV (Value.int .u8) 0 (fun i => i ≠ P ∧ i ≠ b) w7 (.slice a3 A.length c3) A ∧ Grow w w7) := ⟨k2 A K, 0, k7, k2_ok HA.out.1 HA.out.2, k2_kp A K, HF6.out.1.upd u7 (fun i _ hi => by omega), UpdS.new HF6.out.2 u7 (fun i hi => by have := HPb.out; omega)⟩
  clear hpt k7 u7 HF6
  go_wp2
  go_loopg [11] 8 (fun m iv wr => ∃ j : Nat, m = 8 - j ∧ j ≤ 8 ∧ iv = .int .i64 j ∧ Hid (∃ (L : List FS) (h : Nat), PtO wr P b 0 L h ∧ PtOk L h ∧ KP (midL z32 K A) L ∧ RdV (Value.int .u8) 0 (fun i => i ≠ P ∧ i ≠ b) wr (.slice a3 A.length c3) A ∧ Grow w wr))
  case atStart => exact ⟨0, rfl, by omega, rfl, H7⟩
  case round =>
    clear H7
    obtain ⟨j, hj, hj2, rfl, HI⟩ := hrel
    obtain ⟨L, h, i1, i2, i3, i4, i5⟩ := HI.out
    have HG : Hid (gk = 8 - j) := hj
    have HL : Hid (PtO wr P b 0 L h ∧ PtOk L h ∧ KP (midL z32 K A) L ∧ RdV (Value.int .u8) 0 (fun i => i ≠ P ∧ i ≠ b) wr (.slice a3 A.length c3) A ∧ Grow w wr) := ⟨i1, i2, i3, i4, i5⟩
    clear hj HI i1 i2 i3 i4 i5
    by_cases hgo : j < os.length ∧ j < 8
    · have hjo' : (j : Int) < (os.length : Int) := by omega
      have hj8 : (j : Int) < 8 := by omega
      have HJ : Hid (j < 8) := hgo.2
      have hw0 : IntKind.i64.wrap ((j : Int) + 1) = ((j + 1 : Nat) : Int) := by rw [IntKind.wrap_i64]; omega
      obtain ⟨bo, oo, z, rfl, hbo, hzok, -, hzc⟩ := od_at HS.out.1 HS.out.2 hgo.1
      obtain ⟨zd, zi, zp, zo, zn, zb⟩ := z
      obtain ⟨⟨hzd, hzi, hzp, hzo, hzn⟩, bs, hbs, hbo2⟩ := hzok
      simp only at hzc hzd hzi hzp hzo hzn hbs
      obtain ⟨ab, cb, hzb⟩ := hbs.shape
      subst hzb
      have HC : Hid (∀ w', Grow w w' → _) := hzc
      obtain ⟨p0, p1, p2, p3, p4, p5⟩ := hzc wr HL.out.2.2.2.2
      have hap := fun w' => around_any zp 4 w' hzp (by omega) (by omega)
      have had := fun w' => around_any zd 4 w' hzd (by omega) (by omega)
      have hpb := around_bd zp 4 (by omega)
      have hdb := around_bd zd 4 (by omega)
      have hby := fun w' (g : Grow w w') => qbytes_any zd zi zp zo zn ab cb w' bs _ (hbs.grow g) hzn
      have HBO : Hid (Oct (byL zn bs)) := byL_oct hbo2
      generalize byL zn bs = By at hby HBO
      generalize around zp 4 = zq at hap hpb
      generalize around zd 4 = kk at had hdb
      obtain ⟨q, hq⟩ : ∃ q, q = 1 + zq := ⟨_, rfl⟩
      have HQ : Hid (q ≠ 0 ∧ (Lit.int .i64 q).wf = true) := ⟨by omega, wfI (by omega)⟩
      have hwq : IntKind.i64.wrap (1 + zq) = q := by rw [hq, IntKind.wrap_i64]; omega
      clear hzc hgo hbs hzd hzi hzp hzo hbo2
      go_wp2_with fail
      refine (hap _).mono ?_
      rintro e w1 ⟨rfl, rfl⟩
      clear hap
      clear hq hpb
      go_wp2_with fail
      refine (had _).mono ?_
      rintro e w1 ⟨rfl, rfl⟩
      clear had
      rcases four4 hdb with hk | hk | hk | hk
      · subst hk
        have hb1 := hby wr HL.out.2.2.2.2
        clear hby hdb
        go_wp2_with fail
        refine hb1.mono ?_
        rintro e w2 ⟨vb, rfl, rb, g2⟩
        obtain ⟨ab2, cb2, hvb⟩ := rb.shape
        have hld := load_any w2 P b 0 L h (HL.out.1.grow g2) HL.out.2.1 1 q vb By (rb.mono (fun i _ hi => by have := HL.out.1.lt; have := HL.out.1.2.2.1; omega))
        generalize By.length = bl at hvb
        subst hvb
        have H2 : Hid (RdV (Value.int .u8) 0 (fun i => i ≠ P ∧ i ≠ b) w2 (.slice a3 A.length c3) A ∧ Grow w w2) := ⟨HL.out.2.2.2.1.grow g2, HL.out.2.2.2.2.trans g2⟩
        clear hb1 rb g2
        go_wp2_with fail
        refine hld.mono ?_
        rintro e w3 ⟨rfl, k3, u3⟩
        have HF : Hid (∃ (L : List FS) (h : Nat), PtO w3 P b 0 L h ∧ PtOk L h ∧ KP (midL z32 K A) L ∧ RdV (Value.int .u8) 0 (fun i => i ≠ P ∧ i ≠ b) w3 (.slice a3 A.length c3) A ∧ Grow w w3) := ⟨_, _, k3, (loadP_all HL.out.2.1 HBO.out).1, HL.out.2.2.1.load HQ.out.1 By, H2.out.1.upd u3 (fun i _ hi => by omega), UpdS.new H2.out.2 u3 (fun i hi => by have := HPb.out; omega)⟩
        clear hld k3 u3 p0 p1 p2 p3 p4 p5
        go_wp2
        go_roundg (8 - (j + 1))
        case measure => have := HG.out; have := HJ.out; omega
        case rel => exact ⟨j + 1, rfl, by have := HJ.out; omega, by go_num, HF⟩
      · subst hk
        have hpn := ppin_any wr P b 0 L h HL.out.1 HL.out.2.1 q
        clear hby hdb
        go_wp2_with fail
        refine hpn.mono ?_
        rintro e w2 ⟨rfl, k2', u2⟩
        have hP2 := onP_all (q := q) (f := pinS) HL.out.2.1 (fun s hs => pinS_ok hs)
        have hKP := HL.out.2.2.1.onP (q := q) HQ.out.1 (f := pinS) pinS_same
        obtain ⟨W5, hW5⟩ : ∃ W5, w2.alloc (.cells #[.int .u8 9, .int .u8 9, .int .u8 9] 5) = W5 := ⟨_, rfl⟩
        have g5 : Grow w2 W5 := by rw [← hW5]; exact (Grow.refl w2).alloc _
        have r5 : Own .u8 w2.heap.size W5 (.slice (some ⟨w2.heap.size, 0, none⟩) 3 3) [9, 9, 9] := by rw [← hW5]; exact own_row .u8 [9, 9, 9] 5 w2 _ (Nat.le_refl _) (by simp)
        have hU := pput_any W5 P b 0 _ h (k2'.grow g5) hP2.1 q 0 _ [9, 9, 9] _ (by decide) r5.v.rd
        have hU2 := onP_all (q := q) (f := fun s => putS s 0 [9, 9, 9]) hP2.1 (fun s hs => putS_ok hs 0 (fun x hx => by simp at hx; omega))
        have hKP2 := hKP.onP (q := q) HQ.out.1 (f := fun s => putS s 0 [9, 9, 9]) (putS_same 0 [9, 9, 9])
        have H2 : Hid (RdV (Value.int .u8) 0 (fun i => i ≠ P ∧ i ≠ b) W5 (.slice a3 A.length c3) A ∧ Grow w W5) := ⟨(HL.out.2.2.2.1.upd u2 (fun i _ hi => by omega)).grow g5, (UpdS.new HL.out.2.2.2.2 u2 (fun i hi => by have := HPb.out; omega)).trans g5⟩
        generalize (onP q pinS L).1 = L2 at hU hU2 hKP2
        generalize onP q (fun s => putS s 0 [9, 9, 9]) L2 = T at hU hU2 hKP2
        obtain ⟨L3, E3⟩ := T
        simp only at hU hU2 hKP2
        have H3 : Hid (PtOk L3 h ∧ KP (midL z32 K A) L3) := ⟨hU2.1, hKP2⟩
        clear hpn k2' u2 hP2 hKP g5 r5 hU2 hKP2
        go_wp2_with fail
        (try rw [hW5])
        refine hU.mono ?_
        rintro e w3 ⟨rfl, k3, u3⟩
        have HF : Hid (∃ (L : List FS) (h : Nat), PtO w3 P b 0 L h ∧ PtOk L h ∧ KP (midL z32 K A) L ∧ RdV (Value.int .u8) 0 (fun i => i ≠ P ∧ i ≠ b) w3 (.slice a3 A.length c3) A ∧ Grow w w3) := ⟨_, _, k3, H3.out.1, H3.out.2, H2.out.1.upd u3 (fun i _ hi => by omega), UpdS.new H2.out.2 u3 (fun i hi => by have := HPb.out; omega)⟩
        clear hU hW5 k3 u3 p0 p1 p2 p3 p4 p5
        go_wp2
        go_roundg (8 - (j + 1))
        case measure => have := HG.out; have := HJ.out; omega
        case rel => exact ⟨j + 1, rfl, by have := HJ.out; omega, by go_num, HF⟩
      · subst hk
        have hpn := punpin_any wr P b 0 L h HL.out.1 HL.out.2.1 q
        clear hby hdb
        go_wp2_with fail
        refine hpn.mono ?_
        rintro e w2 ⟨rfl, k2', u2⟩
        have hP2 := onP_all (q := q) (f := unpinS) HL.out.2.1 (fun s hs => unpinS_ok hs)
        have hKP := HL.out.2.2.1.onP (q := q) HQ.out.1 (f := unpinS) unpinS_same
        have HF : Hid (∃ (L : List FS) (h : Nat), PtO w2 P b 0 L h ∧ PtOk L h ∧ KP (midL z32 K A) L ∧ RdV (Value.int .u8) 0 (fun i => i ≠ P ∧ i ≠ b) w2 (.slice a3 A.length c3) A ∧ Grow w w2) := ⟨_, _, k2', hP2.1, hKP, HL.out.2.2.2.1.upd u2 (fun i _ hi => by omega), UpdS.new HL.out.2.2.2.2 u2 (fun i hi => by have := HPb.out; omega)⟩
        clear hpn k2' u2 hP2 hKP p0 p1 p2 p3 p4 p5
        go_wp2
        go_roundg (8 - (j + 1))
        case measure => have := HG.out; have := HJ.out; omega
        case rel => exact ⟨j + 1, rfl, by have := HJ.out; omega, by go_num, HF⟩
      · subst hk
        have hv := victim_any wr P b 0 L h HL.out.1 HL.out.2.1
        clear hby hdb
        go_wp2_with fail
        refine hv.mono ?_
        rintro e w2 ⟨rfl, k2', u2⟩
        have hV2 := vicL_all HL.out.2.1
        have hKV := HL.out.2.2.1.vic HL.out.2.1
        generalize vicL L h = L2 at k2' hV2 hKV
        generalize hnd (flsL L) h = H2h at k2' hV2
        have hrl := release_any w2 P b 0 L2 H2h k2' 1
        have hR2 := relP_all (i := 1) hV2.1
        have hKR := hKV.rel
        have H2 : Hid (RdV (Value.int .u8) 0 (fun i => i ≠ P ∧ i ≠ b) w2 (.slice a3 A.length c3) A ∧ Grow w w2 ∧ PtOk (relP 1 L2).1 H2h ∧ KP (midL z32 K A) (relP 1 L2).1) := ⟨HL.out.2.2.2.1.upd u2 (fun i _ hi => by omega), UpdS.new HL.out.2.2.2.2 u2 (fun i hi => by have := HPb.out; omega), hR2.1, hKR⟩
        clear hv k2' u2 hV2 hKV hR2 hKR
        go_wp2_with fail
        refine hrl.mono ?_
        rintro e w3 ⟨rfl, k3, u3⟩
        have HF : Hid (∃ (L : List FS) (h : Nat), PtO w3 P b 0 L h ∧ PtOk L h ∧ KP (midL z32 K A) L ∧ RdV (Value.int .u8) 0 (fun i => i ≠ P ∧ i ≠ b) w3 (.slice a3 A.length c3) A ∧ Grow w w3) := ⟨_, _, k3, H2.out.2.2.1, H2.out.2.2.2, H2.out.1.upd u3 (fun i _ hi => by omega), UpdS.new H2.out.2.1 u3 (fun i hi => by have := HPb.out; omega)⟩
        clear hrl k3 u3 p0 p1 p2 p3 p4 p5
        go_wp2
        go_roundg (8 - (j + 1))
        case measure => have := HG.out; have := HJ.out; omega
        case rel => exact ⟨j + 1, rfl, by have := HJ.out; omega, by go_num, HF⟩
    · by_cases hjo : j < os.length
      · have hjo' : (j : Int) < (os.length : Int) := by omega
        have hj8 : ¬ (j : Int) < 8 := by omega
        have hgt := pget_any wr P b 0 L h HL.out.1 HL.out.2.1 0 (K : Int) (A.length : Int) (wfI (by omega)) (wfI (by have := HA.out.1; omega))
        rw [HL.out.2.2.1.told HA.out.1] at hgt
        have hl2 : L.length = 2 := HL.out.2.2.1.1
        have h0 := HL.out.2.2.1.2.1
        generalize hs0 : L.getD 0 FS.empty = s0 at hgt h0
        have hok0 : s0.Ok := by rw [← hs0]; exact HL.out.2.1.at (by omega)
        have HL2 : Hid (PtOk (L.set 0 ⟨s0.u, s0.d, true, s0.p, s0.q, s0.bs⟩) h ∧ atL 0 (L.set 0 ⟨s0.u, s0.d, true, s0.p, s0.q, s0.bs⟩) = ⟨s0.u, s0.d, true, s0.p, s0.q, s0.bs⟩ ∧ s0.q = 0 ∧ s0.p = 1) := by
          refine ⟨HL.out.2.1.set ⟨hok0.1, hok0.2.1, hok0.2.2.1, hok0.2.2.2⟩, ?_, h0.2.1, h0.2.2.1⟩
          have e1 : (0 : Int) = ((0 : Nat) : Int) := rfl
          rw [e1, atL_yes (by rw [List.length_set]; omega), getD_set (by omega), if_pos rfl]
        have H7 : Hid (RdV (Value.int .u8) 0 (fun i => i ≠ P ∧ i ≠ b) wr (.slice a3 A.length c3) A ∧ Grow w wr ∧ P < wr.heap.size ∧ b < wr.heap.size) := ⟨HL.out.2.2.2.1, HL.out.2.2.2.2, HL.out.1.lt, HL.out.1.2.2.1⟩
        simp only at hgt
        generalize L.set 0 ⟨s0.u, s0.d, true, s0.p, s0.q, s0.bs⟩ = L5 at hgt HL2
        have hnn : ((A.length : Nat) : Int) = (A.length : Int) := rfl
        clear hl2 h0 hok0 hs0 HL
        go_wp2_with fail
        refine hgt.mono ?_
        rintro e w2 ⟨vg, rfl, rg, k2', u2⟩
        obtain ⟨ag, cg, rfl⟩ := rg.shape
        have hat := at_any w2 P b 0 L5 h k2' HL2.out.1.2.2 0
        obtain ⟨s, hs⟩ : ∃ s : FS, s = ⟨s0.u, s0.d, true, s0.p, s0.q, s0.bs⟩ := ⟨_, rfl⟩
        have hae : atL 0 L5 = s := by rw [hs]; exact HL2.out.2.1
        have HQ0 : Hid (s.q = 0 ∧ s.p = 1) := by rw [hs]; exact ⟨HL2.out.2.2.1, HL2.out.2.2.2⟩
        rw [hae] at hat
        simp only [FS.arr] at hat
        clear hs hae
        have H8 : Hid (RdV (Value.int .u8) 0 (fun i => i ≠ P ∧ i ≠ b) w2 (.slice a3 A.length c3) A ∧ RdV (Value.int .u8) 0 (fun i => i ≠ P ∧ i ≠ b) w2 (.slice ag A.length cg) A ∧ Grow w w2) := ⟨H7.out.1.upd u2 (fun i _ hi => by omega), rg.mono (fun i _ hi => by have := H7.out.2.2; omega), UpdS.new H7.out.2.1 u2 (fun i hi => by have := HPb.out; omega)⟩
        clear hgt rg k2' u2
        go_wp2_with fail
        refine hat.mono ?_
        rintro e w4 ⟨rfl, hsl, g4⟩
        have hst := put37 w4 s hsl
        have hl37 := FS.cells_len hsl
        have hfx := put37_at w4 s hsl
        rw [← zeroF_lit] at hst hfx
        clear hat
        go_upto_region 24 with fail
        generalize (w4.alloc (.cells #[.bool false, .bool false, .bool false, .int .i64 0, .int .i64 0, .int .u8 0, .int .u8 0, .int .u8 0, .int .u8 0, .int .u8 0, .int .u8 0, .int .u8 0, .int .u8 0, .int .u8 0, .int .u8 0, .int .u8 0, .int .u8 0, .int .u8 0, .int .u8 0, .int .u8 0, .int .u8 0, .int .u8 0, .int .u8 0, .int .u8 0, .int .u8 0, .int .u8 0, .int .u8 0, .int .u8 0, .int .u8 0, .int .u8 0, .int .u8 0, .int .u8 0, .int .u8 0, .int .u8 0, .int .u8 0, .int .u8 0, .int .u8 0] 47)).setCells w4.heap.size 0 s.cells = w5 at hfx ⊢
        generalize w4.heap.size = M at hfx ⊢
        obtain ⟨⟨-, -, -, m3, m4⟩, -⟩ := FrO.five hfx.1
        rw [HQ0.out.2] at m3
        rw [HQ0.out.1] at m4
        have gz : Grow w2 w5 := g4.trans hfx.2
        have kc1 : (convert 34 9 (.slice ag A.length cg)).run Try.prog w5 = .ok (.string (strOfNums A)) w5 := (H8.out.2.1.grow gz).i.string 34 9 5 Try.underlying34 Try.underlying5 Try.underlying9
        have kc2 : (convert 34 9 (.slice a3 A.length c3)).run Try.prog w5 = .ok (.string (strOfNums A)) w5 := (H8.out.1.grow gz).i.string 34 9 5 Try.underlying34 Try.underlying5 Try.underlying9
        have H9 : Hid (Grow w w5) := H8.out.2.2.trans gz
        have hlv := lives_any w5
        clear hst hl37 hfx gz g4
        go_wp2_with fail
        refine hlv.mono ?_
        rintro e w6 ⟨rfl, g6⟩
        have HF : Hid (Grow w w6) := H9.out.trans g6
        clear hlv g6 kc1 kc2 m3 m4
        go_wp2
        go_ret
        exact ⟨rfl, HF.out⟩
      · have hjo' : ¬ (j : Int) < (os.length : Int) := by omega
        have hgt := pget_any wr P b 0 L h HL.out.1 HL.out.2.1 0 (K : Int) (A.length : Int) (wfI (by omega)) (wfI (by have := HA.out.1; omega))
        rw [HL.out.2.2.1.told HA.out.1] at hgt
        have hl2 : L.length = 2 := HL.out.2.2.1.1
        have h0 := HL.out.2.2.1.2.1
        generalize hs0 : L.getD 0 FS.empty = s0 at hgt h0
        have hok0 : s0.Ok := by rw [← hs0]; exact HL.out.2.1.at (by omega)
        have HL2 : Hid (PtOk (L.set 0 ⟨s0.u, s0.d, true, s0.p, s0.q, s0.bs⟩) h ∧ atL 0 (L.set 0 ⟨s0.u, s0.d, true, s0.p, s0.q, s0.bs⟩) = ⟨s0.u, s0.d, true, s0.p, s0.q, s0.bs⟩ ∧ s0.q = 0 ∧ s0.p = 1) := by
          refine ⟨HL.out.2.1.set ⟨hok0.1, hok0.2.1, hok0.2.2.1, hok0.2.2.2⟩, ?_, h0.2.1, h0.2.2.1⟩
          have e1 : (0 : Int) = ((0 : Nat) : Int) := rfl
          rw [e1, atL_yes (by rw [List.length_set]; omega), getD_set (by omega), if_pos rfl]
        have H7 : Hid (RdV (Value.int .u8) 0 (fun i => i ≠ P ∧ i ≠ b) wr (.slice a3 A.length c3) A ∧ Grow w wr ∧ P < wr.heap.size ∧ b < wr.heap.size) := ⟨HL.out.2.2.2.1, HL.out.2.2.2.2, HL.out.1.lt, HL.out.1.2.2.1⟩
        simp only at hgt
        generalize L.set 0 ⟨s0.u, s0.d, true, s0.p, s0.q, s0.bs⟩ = L5 at hgt HL2
        have hnn : ((A.length : Nat) : Int) = (A.length : Int) := rfl
        clear hl2 h0 hok0 hs0 HL
        go_wp2_with fail
        refine hgt.mono ?_
        rintro e w2 ⟨vg, rfl, rg, k2', u2⟩
        obtain ⟨ag, cg, rfl⟩ := rg.shape
        have hat := at_any w2 P b 0 L5 h k2' HL2.out.1.2.2 0
        obtain ⟨s, hs⟩ : ∃ s : FS, s = ⟨s0.u, s0.d, true, s0.p, s0.q, s0.bs⟩ := ⟨_, rfl⟩
        have hae : atL 0 L5 = s := by rw [hs]; exact HL2.out.2.1
        have HQ0 : Hid (s.q = 0 ∧ s.p = 1) := by rw [hs]; exact ⟨HL2.out.2.2.1, HL2.out.2.2.2⟩
        rw [hae] at hat
        simp only [FS.arr] at hat
        clear hs hae
        have H8 : Hid (RdV (Value.int .u8) 0 (fun i => i ≠ P ∧ i ≠ b) w2 (.slice a3 A.length c3) A ∧ RdV (Value.int .u8) 0 (fun i => i ≠ P ∧ i ≠ b) w2 (.slice ag A.length cg) A ∧ Grow w w2) := ⟨H7.out.1.upd u2 (fun i _ hi => by omega), rg.mono (fun i _ hi => by have := H7.out.2.2; omega), UpdS.new H7.out.2.1 u2 (fun i hi => by have := HPb.out; omega)⟩
        clear hgt rg k2' u2
        go_wp2_with fail
        refine hat.mono ?_
        rintro e w4 ⟨rfl, hsl, g4⟩
        have hst := put37 w4 s hsl
        have hl37 := FS.cells_len hsl
        have hfx := put37_at w4 s hsl
        rw [← zeroF_lit] at hst hfx
        clear hat
        go_upto_region 24 with fail
        generalize (w4.alloc (.cells #[.bool false, .bool false, .bool false, .int .i64 0, .int .i64 0, .int .u8 0, .int .u8 0, .int .u8 0, .int .u8 0, .int .u8 0, .int .u8 0, .int .u8 0, .int .u8 0, .int .u8 0, .int .u8 0, .int .u8 0, .int .u8 0, .int .u8 0, .int .u8 0, .int .u8 0, .int .u8 0, .int .u8 0, .int .u8 0, .int .u8 0, .int .u8 0, .int .u8 0, .int .u8 0, .int .u8 0, .int .u8 0, .int .u8 0, .int .u8 0, .int .u8 0, .int .u8 0, .int .u8 0, .int .u8 0, .int .u8 0, .int .u8 0] 47)).setCells w4.heap.size 0 s.cells = w5 at hfx ⊢
        generalize w4.heap.size = M at hfx ⊢
        obtain ⟨⟨-, -, -, m3, m4⟩, -⟩ := FrO.five hfx.1
        rw [HQ0.out.2] at m3
        rw [HQ0.out.1] at m4
        have gz : Grow w2 w5 := g4.trans hfx.2
        have kc1 : (convert 34 9 (.slice ag A.length cg)).run Try.prog w5 = .ok (.string (strOfNums A)) w5 := (H8.out.2.1.grow gz).i.string 34 9 5 Try.underlying34 Try.underlying5 Try.underlying9
        have kc2 : (convert 34 9 (.slice a3 A.length c3)).run Try.prog w5 = .ok (.string (strOfNums A)) w5 := (H8.out.1.grow gz).i.string 34 9 5 Try.underlying34 Try.underlying5 Try.underlying9
        have H9 : Hid (Grow w w5) := H8.out.2.2.trans gz
        have hlv := lives_any w5
        clear hst hl37 hfx gz g4
        go_wp2_with fail
        refine hlv.mono ?_
        rintro e w6 ⟨rfl, g6⟩
        have HF : Hid (Grow w w6) := H9.out.trans g6
        clear hlv g6 kc1 kc2 m3 m4
        go_wp2
        go_ret
        exact ⟨rfl, HF.out⟩
end Go.Proofs.Ythdhfojogckflaa
