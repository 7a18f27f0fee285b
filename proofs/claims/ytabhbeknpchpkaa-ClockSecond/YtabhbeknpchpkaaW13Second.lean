/-
  The walk of ClockSecond. Conditions: each theorem's own.
-/
import Derived.Test.YtabhbeknpchpkaaClkLive
import Derived.Deep.LoopGhost
import Derived.Deep.CutRange
namespace Go.Proofs.Ytabhbeknpchpkaa
open Go.RowKit
set_option linter.unusedVariables false
set_option linter.unusedSimpArgs false


theorem rep_get {k i : Nat} (e : Fl) (hi : i < k) : (List.replicate k e).getD i Fl.zero = e := by rw [getD_is (by rw [List.length_replicate]; exact hi), List.getElem_replicate]
/-- where all are referred to, and none is pinned -/
theorem trn_all {k h : Nat} (hh : h < k) : trn (List.replicate k (Fl.mk true false true 0)) h = (k + 1, List.replicate k (Fl.mk true false false 0)) ∧ vic (List.replicate k (Fl.mk true false true 0)) h = h ∧ hnd (List.replicate k (Fl.mk true false true 0)) h = (h + 1) % k := by
  have hl : (List.replicate k (Fl.mk true false true 0)).length = k := List.length_replicate
  have hh' : h < (List.replicate k (Fl.mk true false true 0)).length := by rw [hl]; exact hh
  have h1 : ∀ j, j < k → hitAt (List.replicate k (Fl.mk true false true 0)) h j = false := fun j hj => by
    rw [hitAt_first hh' (by rw [hl]; exact hj), hl, rep_get _ (Nat.mod_lt _ (by omega))]; rfl
  have h2 : hitAt (List.replicate k (Fl.mk true false true 0)) h k = true := by
    rw [hitAt_second hh' (by rw [hl]; exact Nat.le_refl _) (by rw [hl]; omega), hl, rep_get _ (Nat.mod_lt _ (by omega))]; rfl
  have ha : aft (List.replicate k (Fl.mk true false true 0)) h k = List.replicate k (Fl.mk true false false 0) := by
    refine ext_getD (by rw [aft_len, hl, List.length_replicate]) (fun i hi => ?_)
    rw [aft_len, hl] at hi
    rw [aft_get _ _ _ (by rw [hl]; exact hi), hl, if_pos (rel_lt hh hi), rep_get _ hi, rep_get _ hi]; rfl
  have e : trn (List.replicate k (Fl.mk true false true 0)) h = (k + 1, List.replicate k (Fl.mk true false false 0)) := by
    rcases trn_cases hh' with ⟨j, h3, h4, h5, e⟩ | ⟨h3, e⟩
    · have : j = k := by
        by_cases hj : j < k
        · rw [h1 j hj] at h4; cases h4
        · by_cases hj2 : k < j
          · rw [h5 k hj2] at h2; cases h2
          · omega
      subst this
      rw [e, ha]
    · rw [h3 k (by rw [hl]; omega)] at h2; cases h2
  have ev : vic (List.replicate k (Fl.mk true false true 0)) h = h := by
    unfold vic
    rw [e, hl, if_neg (Nat.succ_ne_zero k)]
    show (h + (k + 1 - 1)) % k = h
    rw [Nat.add_sub_cancel, Nat.add_mod_right, Nat.mod_eq_of_lt hh]
  refine ⟨e, ev, ?_⟩
  unfold hnd
  rw [ev, e, hl, if_neg (Nat.succ_ne_zero k)]

set_option maxRecDepth 8000 in
set_option maxHeartbeats 4000000 in
theorem clockSecond_walk (n hand : Int) (w : World) (hn : (Lit.int .i64 n).wf = true) (hh : (Lit.int .i64 hand).wf = true) :
    Calls Try.prog 8 #[.int .i64 n, .int .i64 hand] w fun e w' => e = .returned (.bool true) ∧ Below w.heap.size w w' := by
  obtain ⟨i0, hinf, hz0, hz1, hz2⟩ := info_parts infoF
  have ha1 := around_any n 12 w hn (by omega) (by omega)
  have hb1 := around_bd n 12 (by omega)
  generalize around n 12 = K1 at ha1 hb1
  obtain ⟨k, hk⟩ : ∃ k : Nat, (k : Int) = 1 + K1 := ⟨(1 + K1).toNat, by omega⟩
  have hk1 : 1 ≤ k := by omega
  have hk2 : k ≤ 12 := by omega
  have hw1 : IntKind.i64.wrap (1 + K1) = (k : Int) := by rw [IntKind.wrap_i64]; omega
  have ha2 := around_any hand (k : Int) w hh (by omega) (by omega)
  have hb2 := around_bd hand (k : Int) (by omega)
  generalize around hand (k : Int) = K2 at ha2 hb2
  obtain ⟨h, hK⟩ : ∃ h : Nat, K2 = (h : Int) := ⟨K2.toNat, by omega⟩
  subst hK
  have hhl : h < k := by omega
  clear hb1 hb2 hk
  go_enter Try.func8, Try.ntmps8
  go_wp2_with fail
  refine ha1.mono ?_
  rintro e w0 ⟨rfl, rfl⟩
  clear ha1
  go_wp2_with fail
  refine ha2.mono ?_
  rintro e w0 ⟨rfl, rfl⟩
  clear ha2 hw1
  go_wp2
  go_loopg [7, 8] k (fun m lv iv wr => ∃ j : Nat, m = k - j ∧ j ≤ k ∧ iv = .int .i64 j ∧ Hid (OwnF (fun i => w.heap.size ≤ i) wr lv (List.replicate j (Fl.mk true false true 0))) ∧ Hid (Grow w wr))
  case atStart => exact ⟨0, by omega, by omega, rfl, OwnS.nil _ _ _ _ _, Grow.refl _⟩
  case round =>
    obtain ⟨j, hk, hj, rfl, HO, HG⟩ := hrel
    by_cases hlt : j < k
    · have hle : (j : Int) < (k : Int) := by omega
      have HJ : Hid (j < k ∧ gk = k - j) := ⟨hlt, hk⟩
      have hw1 : IntKind.i64.wrap ((j : Int) + 1) = (j : Int) + 1 := by rw [IntKind.wrap_i64]; omega
      obtain ⟨Lj, hLj⟩ : ∃ Lj, Lj = List.replicate j (Fl.mk true false true 0) := ⟨_, rfl⟩
      have HE : Hid (List.replicate (j + 1) (Fl.mk true false true 0) = Lj ++ [(Fl.mk true false true 0)]) := by
        show _ = _
        rw [hLj, List.replicate_succ']
      rw [← hLj] at HO
      have hln : Lj.length ≤ 12 := by rw [hLj, List.length_replicate]; omega
      obtain ⟨li, hli⟩ : ∃ li, li = Lj.length := ⟨_, rfl⟩
      obtain ⟨a3, c3, hv⟩ := HO.out.shape
      rw [← hli] at hv
      subst hv
      clear hli hLj hk hj hlt
      go_wp2_with (at_builtin; refine wpList_appS (f := Fl.cs) (k := 4) rfl (.tmp 25) (.tmp 27) 22 22 rfl Fl.cs_length (by omega) i0 (.agg #[.bool false, .bool false, .bool false, .int .i64 0]) 16 Try.underlying22 hinf hz0 hz1 hz2 rfl rfl rfl (OwnS.grow HO.out ((Grow.refl wr).alloc _)) (src_oneF wr (Fl.mk true false true 0)) (by simp only [maxLen, List.length_singleton]; omega) (by simp only [List.length_singleton]; omega) ?_)
      intro v4 w4 ho4 hu4
      have HF : Hid (OwnF (fun i => w.heap.size ≤ i) w4 v4 (List.replicate (j + 1) (Fl.mk true false true 0)) ∧ Grow w w4) := by
        refine ⟨?_, UpdS.new (HG.out.alloc _) hu4 (fun i hi => hi)⟩
        rw [HE.out]
        refine OwnS.mono ho4 (fun i _ hi => ?_)
        have hi' : w.heap.size ≤ i ∨ i = wr.heap.size + 1 := hi
        have := HG.out.size
        omega
      clear ho4 hu4
      go_wp2
      go_roundg (k - (j + 1))
      case measure => have := HJ.out; omega
      case rel => exact ⟨j + 1, rfl, HJ.out.1, rfl, HF.out.1, HF.out.2⟩
    · have hle : ¬ (j : Int) < (k : Int) := by omega
      obtain rfl : k = j := by omega
      obtain ⟨g, hg1, hg2, hog⟩ := own_block HO.out (by rw [List.length_replicate]; omega)
      obtain ⟨o, c, hvo⟩ := own_adr hog (by rw [List.length_replicate]; omega)
      rw [List.length_replicate] at hvo
      subst hvo
      have hla : (List.replicate k (Fl.mk true false true 0)).length = k := List.length_replicate
      have ht := turn_any g o k c (List.replicate k (Fl.mk true false true 0)) h wr hog.rd (by rw [hla]; omega) (by rw [hla]; omega)
      have hro := fun w' (g' : Grow wr w') => rounds_any g o k c (List.replicate k (Fl.mk true false true 0)) h w' (RdS.grow hog.rd g') (by rw [hla]; omega) (by rw [hla]; omega)
      obtain ⟨et, ev, en⟩ := trn_all hhl
      rw [et, ev, en] at ht
      rw [et] at hro
      have hd : decide (0 < (k + 1, List.replicate k (Fl.mk true false false 0)).1) = true := decide_eq_true (Nat.succ_pos k)
      rw [hd] at ht
      simp only [] at ht hro
      obtain ⟨z', hz'⟩ : ∃ z', z' = (h + 1) % k := ⟨_, rfl⟩
      rw [← hz'] at ht
      have hm3 : ((h : Int) + 1) % (k : Int) = (z' : Int) := by rw [hz']; rfl
      have hm4 : Int.tmod ((h : Int) + 1) (k : Int) = (z' : Int) := by rw [Int.tmod_eq_emod_of_nonneg (by omega)]; exact hm3
      have hw4 : IntKind.i64.wrap ((h : Int) + 1) = (h : Int) + 1 := by rw [IntKind.wrap_i64]; omega
      have hw5 : IntKind.i64.wrap ((k : Int) + 1) = (k : Int) + 1 := by rw [IntKind.wrap_i64]; omega
      have hn0 : ¬ (k : Int) = 0 := by omega
      obtain ⟨M, hMq⟩ : ∃ M, M = List.replicate k (Fl.mk true false false 0) := ⟨_, rfl⟩
      rw [← hMq] at ht
      have HMg : Hid (M.length = k ∧ ∀ i, i < k → M.getD i Fl.zero = (Fl.mk true false false 0)) := by
        rw [hMq]; exact ⟨List.length_replicate, fun i hi => rep_get _ hi⟩
      clear et ev en hd hla hz' hMq HO hog hk hj hlt hg1 hg2 hinf hz0 hz1 hz2
      go_wp2_with fail
      refine ht.mono ?_
      rintro e w4 ⟨v4, rfl, ho4, g4⟩
      obtain ⟨a4, c4, hv4⟩ := ho4.shape
      rw [HMg.out.1] at hv4
      subst hv4
      have HM : Hid (OwnF (fun i => wr.heap.size ≤ i) w4 (.slice a4 k c4) M) := ho4
      obtain ⟨bm, om, ham, hbm⟩ := rdF_addr ho4.rd (by rw [HMg.out.1]; omega)
      subst ham
      have hrr := hro w4 g4
      have HG4 : Hid (Grow w w4) := HG.out.trans g4
      clear ht ho4 g4 hro hbm
      go_wp2_with fail
      refine hrr.mono ?_
      rintro e w5 ⟨rfl, g5⟩
      have HG5 : Hid (Grow w w5 ∧ Grow w4 w5) := ⟨HG4.out.trans g5, g5⟩
      clear hrr g5
      go_wp2
      go_loopg [13] k (fun m iv wx => ∃ j : Nat, m = k - j ∧ j ≤ k ∧ iv = .int .i64 j ∧ Hid (Grow w wx ∧ Grow w4 wx))
      case atStart => exact ⟨0, by omega, by omega, rfl, HG5⟩
      case round =>
        obtain ⟨j, hk, hj, rfl, HW⟩ := hrel
        by_cases hlt : j < k
        · have hle : (j : Int) < (k : Int) := by omega
          have HJ : Hid (j < k ∧ gk = k - j) := ⟨hlt, hk⟩
          have hw1 : IntKind.i64.wrap ((j : Int) + 1) = (j : Int) + 1 := by rw [IntKind.wrap_i64]; omega
          have fm := (rdF_in HM.out.rd (i := j) (by rw [HMg.out.1]; exact hlt)).grow HW.out.2
          rw [HMg.out.2 j hlt] at fm
          obtain ⟨k0, k1, k2, k3⟩ := fm
          simp only [] at k0 k1 k2 k3
          clear hk hj hlt
          go_wp2
          go_roundg (k - (j + 1))
          case measure => have := HJ.out; omega
          case rel => exact ⟨j + 1, rfl, HJ.out.1, rfl, HW⟩
        · have hle : ¬ (j : Int) < (k : Int) := by omega
          clear hk hj hlt
          have hli := lives_any wr
          go_wp2_with fail
          refine hli.mono ?_
          rintro e w6 ⟨rfl, g6⟩
          have HF : Hid (Grow w w6) := HW.out.1.trans g6
          clear hli g6
          go_wp2
          go_ret
          exact ⟨rfl, HF.out⟩
end Go.Proofs.Ytabhbeknpchpkaa
