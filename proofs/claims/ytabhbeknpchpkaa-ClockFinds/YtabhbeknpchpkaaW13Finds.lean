/-
  The walk of ClockFinds. Conditions: each theorem's own.
-/
import Derived.Test.YtabhbeknpchpkaaClkLive
import Derived.Deep.LoopGhost
import Derived.Deep.CutRange
namespace Go.Proofs.Ytabhbeknpchpkaa
open Go.RowKit
set_option linter.unusedVariables false
set_option linter.unusedSimpArgs false


set_option maxRecDepth 8000 in
set_option maxHeartbeats 4000000 in
theorem clockFinds_walk {p : Nat → Prop} (v : Value) (zs : List Fl) (hand : Int) (w : World) (hv : RdF p w v zs) (hwf : ∀ x ∈ zs, (Lit.int .i64 x.p).wf = true) (hb : zs.length * 16 ≤ 140737488355328) (hh : (Lit.int .i64 hand).wf = true) :
    Calls Try.prog 4 #[v, .int .i64 hand] w fun e w' => e = .returned (.bool true) ∧ Below w.heap.size w w' := by
  have has := as_any v zs w hv hb
  clear hv hb
  go_enter Try.func4, Try.ntmps4
  go_wp2_with fail
  refine has.mono ?_
  rintro e w1 ⟨v1, rfl, ho1, g1⟩
  have hgd := good_any v1 zs w1 ho1.rd hwf
  clear has ho1
  go_wp2_with fail
  refine hgd.mono ?_
  rintro e w2 ⟨v2, rfl, hr2, g2⟩
  have hof := of_any v2 (goodL zs) w2 hr2 (by have := (goodL_len zs).2; omega)
  clear hgd hr2 hwf
  go_wp2_with fail
  refine hof.mono ?_
  rintro e w3 ⟨v3, rfl, ho3, g3⟩
  have HG : Hid (Grow w w3) := (g1.trans g2).trans g3
  have HL : Hid (1 ≤ (goodL zs).length ∧ (goodL zs).length ≤ 8 ∧ ∀ x ∈ goodL zs, 0 ≤ x.p ∧ x.p ≤ 2) := ⟨(goodL_len zs).1, (goodL_len zs).2, goodL_bd zs⟩
  have hl1 : 1 ≤ (goodL zs).length := HL.out.1
  have hl8 : (goodL zs).length ≤ 8 := HL.out.2.1
  have hsz := (g1.trans g2).size
  generalize goodL zs = L at *
  obtain ⟨g, hg1, hg2, hog⟩ := own_block ho3 (by omega)
  obtain ⟨o, c, hvo⟩ := own_adr hog (by omega)
  subst hvo
  have HO : Hid (OwnF (fun i => i = g) w3 (.slice (some ⟨g, o, none⟩) L.length c) L ∧ w.heap.size ≤ g ∧ g < w3.heap.size) := ⟨hog, by omega, hg2⟩
  clear hof ho3 g1 g2 g3 hg1 hg2 hog hsz
  have har := fun w' => around_any hand (L.length : Int) w' hh (by omega) (by omega)
  have hab := around_bd hand (L.length : Int) (by omega)
  generalize around hand (L.length : Int) = K at har hab
  obtain ⟨h, hK⟩ : ∃ h : Nat, K = (h : Int) := ⟨K.toNat, by omega⟩
  subst hK
  have hhl : h < L.length := by omega
  have HH : Hid (h < L.length) := hhl
  clear hab
  go_wp2_with fail
  refine (har _).mono ?_
  rintro e w4 ⟨rfl, rfl⟩
  clear har
  have ht := turn_any g o L.length c L h w3 HO.out.1.rd hhl (by omega)
  have hw2 : IntKind.i64.wrap (2 * (L.length : Int)) = 2 * (L.length : Int) := by rw [IntKind.wrap_i64]; omega
  by_cases hN : freeN L = 0
  · have e1 := trn_none hhl hN
    have e2 : vic L h = 0 := by unfold vic; rw [e1]; rfl
    have e3 : hnd L h = h := by unfold hnd; rw [e1]; rfl
    rw [e1, e2, e3] at ht
    have HN : Hid (freeN L = 0) := hN
    have HK : Hid ((trn L h).1 = 0) := by rw [e1]; rfl
    have hd : decide (0 < (0, L).1) = false := rfl
    rw [hd] at ht
    simp only [] at ht
    clear e1 e2 e3 hN hd
    go_wp2_with fail
    refine ht.mono ?_
    rintro e w4 ⟨v4, rfl, ho4, g4⟩
    have HM : Hid (OwnF (fun i => w3.heap.size ≤ i) w4 v4 L ∧ Grow w3 w4) := ⟨ho4, g4⟩
    obtain ⟨a4, c4, hv4⟩ := ho4.shape
    subst hv4
    clear ht ho4 g4
    have has := as_any _ L w4 (RdS.grow HO.out.1.rd HM.out.2) (by omega)
    go_wp2_with fail
    refine has.mono ?_
    rintro e w5 ⟨v5, rfl, ho5, g5⟩
    have hfr := rfree_any v5 L w5 ho5.rd (by omega) (fun x hx => (HL.out.2.2 x hx).1)
    rw [HN.out] at hfr
    have HM5 : Hid (Grow w4 w5) := g5
    clear has ho5 g5
    go_wp2_with fail
    refine hfr.mono ?_
    rintro e w6 ⟨rfl, g6⟩
    have HM6 : Hid (Grow w4 w6) := HM5.out.trans g6
    clear hfr g6
    have hro := rounds_any g o L.length c L h w6 (RdS.grow HO.out.1.rd (HM.out.2.trans HM6.out)) HH.out (by omega)
    rw [HK.out] at hro
    go_wp2_with fail
    refine hro.mono ?_
    rintro e w7 ⟨rfl, g7⟩
    have HM7 : Hid (Grow w4 w7) := HM6.out.trans g7
    have HGW : Hid (Grow w w7) := (HG.out.trans HM.out.2).trans HM7.out
    clear hro g7
    have ha1 := as_any _ L w7 (RdS.grow HM.out.1.rd HM7.out) (by omega)
    go_wp2_with fail
    refine ha1.mono ?_
    rintro e w8 ⟨v8, rfl, ho8, g8⟩
    have ha2 := as_any _ L w8 (RdS.grow HO.out.1.rd ((HM.out.2.trans HM7.out).trans g8)) (by omega)
    have HO8 : Hid (OwnF (fun i => w7.heap.size ≤ i) w8 v8 L ∧ Grow w7 w8) := ⟨ho8, g8⟩
    clear ha1 ho8 g8
    go_wp2_with fail
    refine ha2.mono ?_
    rintro e w9 ⟨v9, rfl, ho9, g9⟩
    have hsm := same_yes v8 v9 L w9 (RdS.grow HO8.out.1.rd g9) ho9.rd (by omega)
    have HG9 : Hid (Grow w7 w9) := HO8.out.2.trans g9
    clear ha2 ho9 g9
    go_wp2_with fail
    refine hsm.mono ?_
    rintro e w10 ⟨rfl, g10⟩
    have HGW2 : Hid (Grow w w10) := (HGW.out.trans HG9.out).trans g10
    clear hsm g10 HGW
    have HGW := HGW2
    have hli := lives_any w10
    go_wp2_with fail
    refine hli.mono ?_
    rintro e w5 ⟨rfl, g5⟩
    have HF : Hid (Grow w w5) := HGW.out.trans g5
    clear hli g5
    go_wp2
    go_ret
    exact ⟨rfl, HF.out⟩
  · obtain ⟨j, hj, _, _, e1, ev⟩ := trn_some hhl (by omega : 0 < freeN L)
    have hmay := vic_may hhl (by omega : 0 < freeN L)
    have hV := vic_lt hhl
    have e3 : hnd L h = (vic L h + 1) % L.length := by unfold hnd; rw [e1]; rfl
    have HN0 : Hid (0 < freeN L ∧ freeN L ≤ 8) := ⟨by omega, Nat.le_trans (freeN_le L) hl8⟩
    have HK0 : Hid ((trn L h).1 = j + 1) := by rw [e1]; rfl
    have hd : decide (0 < (trn L h).1) = true := by rw [e1]; exact decide_eq_true (Nat.succ_pos j)
    rw [hd] at ht
    obtain ⟨M, hMq⟩ : ∃ M, M = (trn L h).2 := ⟨_, rfl⟩
    rw [← hMq] at ht
    obtain ⟨N, hNq⟩ : ∃ N, N = freeN L := ⟨_, rfl⟩
    have HN : Hid (freeN L = N) := hNq.symm
    obtain ⟨K, hKq⟩ : ∃ K, K = (trn L h).1 := ⟨_, rfl⟩
    have HK : Hid ((trn L h).1 = K) := hKq.symm
    have hNp : 0 < N := by rw [hNq]; omega
    have hKp : 0 < K ∧ K ≤ 2 * L.length := by rw [hKq, HK0.out]; omega
    have hN1 : decide ((0 : Int) < (N : Int)) = true := decide_eq_true (by omega)
    have hK1 : decide ((0 : Int) < (K : Int)) = true := decide_eq_true (by omega)
    have hN2 : decide (0 < N) = true := decide_eq_true (by omega)
    have hK2 : decide (0 < K) = true := decide_eq_true (by omega)
    have hK3 : decide (2 * (L.length : Int) < (K : Int)) = false := decide_eq_false (by omega)
    have hN3 : (0 : Int) < (N : Int) := by omega
    have hK4 : (0 : Int) < (K : Int) := by omega
    have hK5 : ¬ 2 * (L.length : Int) < (K : Int) := by omega
    have hlt := hV
    have fl0 := fun w' (g' : Grow w3 w') => (rdF_in HO.out.1.rd hlt).grow g'
    have hpx : 0 ≤ (L.getD (vic L h) Fl.zero).p := (HL.out.2.2 _ (by rw [getD_is hlt]; exact List.getElem_mem hlt)).1
    clear hMq hNq hKq hj e1 hd hKp ev
    generalize hnd L h = Hd at *
    generalize vic L h = V at *
    generalize L.getD V Fl.zero = x at *
    have hvi : (V : Int) < (L.length : Int) := by omega
    have hv1 : ¬ (L.length : Int) ≤ (V : Int) := by omega
    have hm3 : ((V : Int) + 1) % (L.length : Int) = (Hd : Int) := by rw [e3]; rfl
    have hm4 : Int.tmod ((V : Int) + 1) (L.length : Int) = (Hd : Int) := by rw [Int.tmod_eq_emod_of_nonneg (by omega)]; exact hm3
    have hw4 : IntKind.i64.wrap ((V : Int) + 1) = (V : Int) + 1 := by rw [IntKind.wrap_i64]; omega
    have hn0 : ¬ (L.length : Int) = 0 := by omega
    clear e3 hlt
    have HFL : Hid (∀ w', Grow w3 w' → FIn w' g (o + V * 4) x) := fl0
    have HX : Hid (x.may = true ∧ 0 ≤ x.p) := ⟨hmay, hpx⟩
    clear fl0 hmay hpx
    clear hN
    go_wp2_with fail
    refine ht.mono ?_
    rintro e w4 ⟨v4, rfl, ho4, g4⟩
    have HM : Hid (OwnF (fun i => w3.heap.size ≤ i) w4 v4 M ∧ Grow w3 w4) := ⟨ho4, g4⟩
    obtain ⟨a4, c4, hv4⟩ := ho4.shape
    generalize M.length = ml at hv4
    subst hv4
    clear ht ho4 g4
    have has := as_any _ L w4 (RdS.grow HO.out.1.rd HM.out.2) (by omega)
    go_wp2_with fail
    refine has.mono ?_
    rintro e w5 ⟨v5, rfl, ho5, g5⟩
    have hfr := rfree_any v5 L w5 ho5.rd (by omega) (fun x hx => (HL.out.2.2 x hx).1)
    rw [HN.out] at hfr
    have HM5 : Hid (Grow w4 w5) := g5
    clear has ho5 g5
    go_wp2_with fail
    refine hfr.mono ?_
    rintro e w6 ⟨rfl, g6⟩
    have HM6 : Hid (Grow w4 w6) := HM5.out.trans g6
    clear hfr g6
    have hro := rounds_any g o L.length c L h w6 (RdS.grow HO.out.1.rd (HM.out.2.trans HM6.out)) HH.out (by omega)
    rw [HK.out] at hro
    go_wp2_with fail
    refine hro.mono ?_
    rintro e w7 ⟨rfl, g7⟩
    have HM7 : Hid (Grow w4 w7) := HM6.out.trans g7
    have HGW : Hid (Grow w w7) := (HG.out.trans HM.out.2).trans HM7.out
    clear hro g7
    have fl := HFL.out w7 (HM.out.2.trans HM7.out)
    clear HFL
    obtain ⟨hmay, hpx⟩ := HX.out
    obtain ⟨u, d, r, q⟩ := x
    obtain ⟨k0, k1, k2, k3⟩ := fl
    simp only [] at k0 k1 k2 k3
    cases u
    · clear hmay hpx
      have hli := lives_any w7
      go_wp2_with fail
      refine hli.mono ?_
      rintro e w5 ⟨rfl, g5⟩
      have HF : Hid (Grow w w5) := HGW.out.trans g5
      clear hli g5
      go_wp2
      go_ret
      exact ⟨rfl, HF.out⟩
    · have hq : q = 0 := by
        simp only [Fl.may, Bool.not_true, Bool.false_or, decide_eq_true_eq] at hmay
        have hpx' : 0 ≤ q := hpx
        omega
      subst hq
      clear hmay hpx
      have hli := lives_any w7
      go_wp2_with fail
      refine hli.mono ?_
      rintro e w5 ⟨rfl, g5⟩
      have HF : Hid (Grow w w5) := HGW.out.trans g5
      clear hli g5
      go_wp2
      go_ret
      exact ⟨rfl, HF.out⟩
end Go.Proofs.Ytabhbeknpchpkaa
