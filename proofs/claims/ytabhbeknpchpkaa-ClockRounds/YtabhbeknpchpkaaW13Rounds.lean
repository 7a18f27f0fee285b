/-
  The walk of ClockRounds: turn behind turn. Conditions: each theorem's own.
-/
import Derived.Test.YtabhbeknpchpkaaClkLive
import Derived.Test.YtabhbeknpchpkaaLibV
import Derived.Deep.LoopGhost
import Derived.Deep.CutRange
namespace Go.Proofs.Ytabhbeknpchpkaa
open Go.RowKit
set_option linter.unusedVariables false
set_option linter.unusedSimpArgs false


/-- which have gone, when the hand has passed c places from h on -/
def mks (L : List Fl) (h c : Nat) : List Bool := (List.range L.length).map (fun i => (L.getD i Fl.zero).may && decide (rel h L.length i < c))
theorem mks_len (L : List Fl) (h c : Nat) : (mks L h c).length = L.length := by simp [mks]
theorem mks_get (L : List Fl) (h c : Nat) {i : Nat} (hi : i < L.length) : (mks L h c).getD i false = ((L.getD i Fl.zero).may && decide (rel h L.length i < c)) := by
  simp [mks, List.getD, hi]
theorem ext_getB {a b : List Bool} (hl : a.length = b.length) (h : ∀ i, i < a.length → a.getD i false = b.getD i false) : a = b := by
  apply List.ext_getElem hl
  intro i h1 h2
  have := h i h1
  simpa [List.getD, h1, h2] using this
theorem mks_zero (L : List Fl) (h : Nat) : mks L h 0 = List.replicate L.length false := ext_getB (by rw [mks_len, List.length_replicate]) (fun i hi => by
  rw [mks_len] at hi
  rw [mks_get L h 0 hi]
  simp [List.getD, hi])
theorem mks_none (L : List Fl) (h : Nat) : (mks L h 0).count true = 0 := by rw [mks_zero, List.count_replicate]; rfl
theorem mks_all {L : List Fl} {h : Nat} (hh : h < L.length) : mks L h L.length = L.map Fl.may := ext_getB (by rw [mks_len, List.length_map]) (fun i hi => by
  rw [mks_len] at hi
  rw [mks_get L h _ hi, decide_eq_true (rel_lt hh hi), Bool.and_true]
  simp [List.getD, hi])
theorem count_may (L : List Fl) : (L.map Fl.may).count true = freeN L := by
  unfold freeN
  induction L with
  | nil => rfl
  | cons x l ih =>
    rw [List.map_cons, List.filter_cons]
    cases hx : x.may
    · simpa using ih
    · simpa using ih
theorem count_put {S : List Bool} {v : Nat} (hv : v < S.length) (h : S.getD v false = false) : (S.set v true).count true = S.count true + 1 := by
  induction S generalizing v with
  | nil => exact absurd hv (Nat.not_lt_zero _)
  | cons b l ih =>
    cases v with
    | zero =>
      have hb : b = false := h
      subst hb
      simp
    | succ v =>
      have h' : l.getD v false = false := h
      have := ih (v := v) (by simpa using hv) h'
      rw [List.set_cons_succ, List.count_cons, List.count_cons, this]
      omega
/-- no Ref: at each look of the first round the one that may go is the victim -/
theorem hit_cold {x : Fl} (h : x.r = false) : x.hit = x.may := by
  unfold Fl.hit Fl.may
  rw [h]; simp
theorem rounds_step {L : List Fl} {h c : Nat} (hh : h < L.length) (hr : ∀ i, i < L.length → (L.getD i Fl.zero).r = false) (hc : c ≤ L.length) (ht : (mks L h c).count true < freeN L) :
    ∃ q, c ≤ q ∧ q < L.length ∧ vic L ((h + c) % L.length) = (h + q) % L.length ∧ hnd L ((h + c) % L.length) = (h + (q + 1)) % L.length ∧ 0 < (trn L ((h + c) % L.length)).1 ∧
      (mks L h c).getD ((h + q) % L.length) false = false ∧ mks L h (q + 1) = (mks L h c).set ((h + q) % L.length) true ∧ (mks L h (q + 1)).count true = (mks L h c).count true + 1 := by
  have hn : 0 < L.length := by omega
  have hh2 : (h + c) % L.length < L.length := Nat.mod_lt _ hn
  have hex : ∃ i, i < L.length ∧ (L.getD i Fl.zero).may = true ∧ c ≤ rel h L.length i := by
    apply Classical.byContradiction
    intro hno
    have e : mks L h c = mks L h L.length := ext_getB (by rw [mks_len, mks_len]) (fun i hi => by
      rw [mks_len] at hi
      rw [mks_get L h c hi, mks_get L h _ hi]
      cases hm : (L.getD i Fl.zero).may
      · rfl
      · have h1 : ¬ c ≤ rel h L.length i := fun h1 => hno ⟨i, hi, hm, h1⟩
        rw [decide_eq_true (show rel h L.length i < c by omega), decide_eq_true (rel_lt hh hi)])
    rw [e, mks_all hh, count_may] at ht
    exact Nat.lt_irrefl _ ht
  obtain ⟨i, hi, hm, hci⟩ := hex
  have hri := rel_lt hh hi
  have hadd : ∀ j, ((h + c) % L.length + j) % L.length = (h + (c + j)) % L.length := fun j => by rw [Nat.mod_add_mod, Nat.add_assoc]
  have hat : ∀ j, j < L.length → hitAt L ((h + c) % L.length) j = (L.getD ((h + (c + j)) % L.length) Fl.zero).may := fun j hj => by
    rw [hitAt_first hh2 hj, hadd, hit_cold (hr _ (Nat.mod_lt _ hn))]
  have hfree : 0 < freeN L := by omega
  obtain ⟨j, _, hj2, hj3, e, hv⟩ := trn_some hh2 hfree
  have hjl : j ≤ rel h L.length i - c := by
    apply Classical.byContradiction
    intro hno
    have := hj3 (rel h L.length i - c) (by omega)
    rw [hat _ (by omega), show c + (rel h L.length i - c) = rel h L.length i by omega, at_rel hh hi, hm] at this
    cases this
  have hqn : c + j < L.length := by omega
  have hvq : vic L ((h + c) % L.length) = (h + (c + j)) % L.length := by rw [hv, hadd]
  have hrq : rel h L.length ((h + (c + j)) % L.length) = c + j := by rw [rel_at hh (by omega), if_pos hqn]
  have hvl : (h + (c + j)) % L.length < L.length := Nat.mod_lt _ hn
  have hmq : (L.getD ((h + (c + j)) % L.length) Fl.zero).may = true := by rw [← hat j (by omega)]; exact hj2
  have hgd : (mks L h c).getD ((h + (c + j)) % L.length) false = false := by
    rw [mks_get L h c hvl, hrq, decide_eq_false (by omega), Bool.and_false]
  have hset : mks L h (c + j + 1) = (mks L h c).set ((h + (c + j)) % L.length) true := by
    refine ext_getB (by rw [List.length_set, mks_len, mks_len]) (fun i' hi' => ?_)
    rw [mks_len] at hi'
    rw [mks_get L h _ hi']
    by_cases ei : (h + (c + j)) % L.length = i'
    · subst ei
      rw [hmq, hrq, decide_eq_true (by omega)]
      simp [List.getD, mks_len, hvl]
    · have hne : rel h L.length i' ≠ c + j := fun e' => ei (by rw [← e', at_rel hh hi'])
      have e2 : ((mks L h c).set ((h + (c + j)) % L.length) true).getD i' false = (mks L h c).getD i' false := by
        simp only [List.getD]; rw [List.getElem?_set_ne ei]
      rw [e2, mks_get L h c hi']
      by_cases h1 : rel h L.length i' < c
      · rw [decide_eq_true h1, decide_eq_true (by omega)]
      · by_cases h2 : rel h L.length i' < c + j + 1
        · have h3 := hj3 (rel h L.length i' - c) (by omega)
          rw [hat _ (by omega), show c + (rel h L.length i' - c) = rel h L.length i' by omega, at_rel hh hi'] at h3
          rw [h3]; rfl
        · rw [decide_eq_false h1, decide_eq_false h2]
  refine ⟨c + j, by omega, hqn, hvq, ?_, by rw [e]; exact Nat.succ_pos j, hgd, hset, ?_⟩
  · unfold hnd
    rw [if_neg (by rw [e]; exact Nat.succ_ne_zero j), hvq, mod_next]
  · rw [hset]
    exact count_put (by rw [mks_len]; exact hvl) hgd

set_option maxRecDepth 8000 in
set_option maxHeartbeats 4000000 in
theorem clockRounds_walk {p : Nat → Prop} (v : Value) (zs : List Fl) (hand : Int) (w : World) (hv : RdF p w v zs) (hwf : ∀ x ∈ zs, (Lit.int .i64 x.p).wf = true) (hb : zs.length * 16 ≤ 140737488355328) (hh : (Lit.int .i64 hand).wf = true) :
    Calls Try.prog 7 #[v, .int .i64 hand] w fun e w' => e = .returned (.bool true) ∧ Below w.heap.size w w' := by
  have has := as_any v zs w hv hb
  clear hv hb
  go_enter Try.func7, Try.ntmps7
  go_wp2_with fail
  refine has.mono ?_
  rintro e w1 ⟨v1, rfl, ho1, g1⟩
  have hgd := good_any v1 zs w1 ho1.rd hwf
  clear has ho1
  go_wp2_with fail
  refine hgd.mono ?_
  rintro e w2 ⟨v2, rfl, hr2, g2⟩
  have hof := of_any v2 (goodL zs) w2 hr2 (by have := (goodL_len zs).2; omega)
  clear hgd hr2 hwf
  go_wp2_with fail
  refine hof.mono ?_
  rintro e w3 ⟨v3, rfl, ho3, g3⟩
  have HG : Hid (Grow w w3) := (g1.trans g2).trans g3
  have HL : Hid (1 ≤ (goodL zs).length ∧ (goodL zs).length ≤ 8 ∧ ∀ x ∈ goodL zs, 0 ≤ x.p ∧ x.p ≤ 2) := ⟨(goodL_len zs).1, (goodL_len zs).2, goodL_bd zs⟩
  have hl1 : 1 ≤ (goodL zs).length := HL.out.1
  have hl8 : (goodL zs).length ≤ 8 := HL.out.2.1
  have hsz := (g1.trans g2).size
  generalize goodL zs = L at *
  obtain ⟨g, hg1, hg2, hog⟩ := own_block ho3 (by omega)
  obtain ⟨o, c, hvo⟩ := own_adr hog (by omega)
  subst hvo
  have HO : Hid (OwnF (fun i => i = g) w3 (.slice (some ⟨g, o, none⟩) L.length c) L ∧ w.heap.size ≤ g ∧ g < w3.heap.size) := ⟨hog, by omega, hg2⟩
  clear hof ho3 g1 g2 g3 hg1 hg2 hog hsz
  go_wp2
  go_loopg [6] L.length (fun m iv wr => ∃ (j : Nat) (L' : List Fl), m = L.length - j ∧ j ≤ L.length ∧ iv = .int .i64 j ∧ Hid (OwnF (fun i => i = g) wr (.slice (some ⟨g, o, none⟩) L.length c) L' ∧ L'.length = L.length ∧ (∀ i, i < j → (L'.getD i Fl.zero).r = false) ∧ (∀ x ∈ L', 0 ≤ x.p) ∧ Grow w wr ∧ g < wr.heap.size))
  case atStart => exact ⟨0, L, by omega, by omega, rfl, HO.out.1, rfl, fun i hi => absurd hi (Nat.not_lt_zero _), fun x hx => (HL.out.2.2 x hx).1, HG.out, HO.out.2.2⟩
  case round =>
    obtain ⟨j, L', hk, hj, rfl, S⟩ := hrel
    by_cases hlt : j < L.length
    · have hle : (j : Int) < (L.length : Int) := by omega
      have HJ : Hid (j < L.length ∧ gk = L.length - j) := ⟨hlt, hk⟩
      have hw1 : IntKind.i64.wrap ((j : Int) + 1) = (j : Int) + 1 := by rw [IntKind.wrap_i64]; omega
      have hjl : j < L'.length := by rw [S.out.2.1]; exact hlt
      obtain ⟨⟨k0, k1, k2, k3⟩, fz, hst⟩ := own_at S.out.1 hjl
      have hu : UpdS (fun i => i = g) wr (wr.setCell ⟨g, o + j * 4 + 2, none⟩ (.bool false)) := upd_one wr g _ _
      have HN : Hid (OwnF (fun i => i = g) (wr.setCell ⟨g, o + j * 4 + 2, none⟩ (.bool false)) (.slice (some ⟨g, o, none⟩) L.length c) (L'.set j (L'.getD j Fl.zero).cool) ∧ (L'.set j (L'.getD j Fl.zero).cool).length = L.length ∧ (∀ i, i < j + 1 → ((L'.set j (L'.getD j Fl.zero).cool).getD i Fl.zero).r = false) ∧ (∀ x ∈ L'.set j (L'.getD j Fl.zero).cool, 0 ≤ x.p) ∧ Grow w (wr.setCell ⟨g, o + j * 4 + 2, none⟩ (.bool false)) ∧ g < (wr.setCell ⟨g, o + j * 4 + 2, none⟩ (.bool false)).heap.size) := by
        refine ⟨hst, by rw [List.length_set]; exact S.out.2.1, fun i hi => ?_, mem_set_bd S.out.2.2.2.1 ?_, UpdS.new S.out.2.2.2.2.1 hu (fun i hi => by have := HO.out.2.1; omega), Nat.lt_of_lt_of_le S.out.2.2.2.2.2 hu.size⟩
        · rw [getD_setF (by omega)]
          split
          · rfl
          · exact S.out.2.2.1 i (by omega)
        · show 0 ≤ (L'.getD j Fl.zero).p
          rw [getD_is hjl]; exact S.out.2.2.2.1 _ (List.getElem_mem hjl)
      clear hk hj hlt hjl hst hu
      generalize L'.getD j Fl.zero = x at *
      go_wp2
      go_roundg (L.length - (j + 1))
      case measure => have := HJ.out; omega
      case rel => exact ⟨j + 1, _, rfl, HJ.out.1, rfl, HN⟩
    · have hle : ¬ (j : Int) < (L.length : Int) := by omega
      have HS : Hid (OwnF (fun i => i = g) wr (.slice (some ⟨g, o, none⟩) L.length c) L' ∧ L'.length = L.length ∧ (∀ i, i < L'.length → (L'.getD i Fl.zero).r = false) ∧ (∀ x ∈ L', 0 ≤ x.p) ∧ Grow w wr ∧ g < wr.heap.size ∧ w.heap.size ≤ g) :=
        ⟨S.out.1, S.out.2.1, fun i hi => S.out.2.2.1 i (by rw [S.out.2.1] at hi; omega), S.out.2.2.2.1, S.out.2.2.2.2.1, S.out.2.2.2.2.2, HO.out.2.1⟩
      clear S hk hj hlt HO HG HL
      obtain ⟨n, hn⟩ : ∃ n, n = L.length := ⟨_, rfl⟩
      rw [← hn] at HS hle hl1 hl8 ⊢
      clear hn
      obtain ⟨w3, hw3⟩ : ∃ w3, w3 = wr := ⟨_, rfl⟩
      rw [← hw3] at HS ⊢
      clear hw3
      have har := fun w' => around_any hand (n : Int) w' hh (by omega) (by omega)
      have hab := around_bd hand (n : Int) (by omega)
      generalize around hand (n : Int) = K at har hab
      obtain ⟨h, hK⟩ : ∃ h : Nat, K = (h : Int) := ⟨K.toNat, by omega⟩
      subst hK
      have HH : Hid (h < n) := by show h < n; omega
      clear hab
      obtain ⟨i0, hi0, hz0, hz1, hz2⟩ := info_parts (show (Try.prog.info? 4).map (fun i => (i.zero, i.size, i.bytes)) = some (some (.bool false), 1, 1) by kernel_rfl)
      go_wp2_with fail
      refine (har _).mono ?_
      rintro e w4 ⟨rfl, rfl⟩
      clear har
      go_wp2_with (at_make; refine wpList_makeV rfl (.tmp 33) (.tmp 33) 41 rfl Value.bool false 4 i0 Try.underlying41 hi0 hz0 rfl 1 hz1 hz2 .i64 .i64 _ n rfl rfl rfl (by omega) (by omega) ?_)
      intro v5 w5 ho5 g5 hlt5
      obtain ⟨gs, os, cs, hv5, hgs, hgl, hnc, hcm, -, -, -⟩ := ho5.row (j := 0) (by rw [List.length_replicate]; omega)
      rw [List.length_replicate] at hv5 hnc
      subst hv5
      have HQ : Hid (OwnV Value.bool false (fun i => i = gs) w5 (.slice (some ⟨gs, os, none⟩) n cs) (List.replicate n false) ∧ Grow w3 w5 ∧ g < gs ∧ w.heap.size ≤ gs) :=
        ⟨OwnV.mono ho5 (fun i _ hi => by rw [hi, hgs]), g5, by have := HS.out; omega, by have := HS.out; omega⟩
      clear ho5 g5 hlt5 hgs hgl hi0 hz0 hz1 hz2 hcm hnc
      have has := as_any _ L' w5 (RdS.grow HS.out.1.rd HQ.out.2.1) (by rw [HS.out.2.1]; omega)
      go_wp2_with fail
      refine has.mono ?_
      rintro e w6 ⟨v6, rfl, ho6, g6⟩
      have hfr := rfree_any v6 L' w6 ho6.rd (by rw [HS.out.2.1]; omega) HS.out.2.2.2.1
      have HG6 : Hid (Grow w5 w6) := g6
      clear has ho6 g6
      obtain ⟨N, hN⟩ : ∃ N, freeN L' = N := ⟨_, rfl⟩
      rw [hN] at hfr
      have HN : Hid (freeN L' = N) := hN
      have hN8 : N ≤ 8 := by have := freeN_le L'; rw [HS.out.2.1] at this; omega
      clear hN
      go_wp2_with fail
      refine hfr.mono ?_
      rintro e w7 ⟨rfl, g7⟩
      have HG7 : Hid (Grow w5 w7) := HG6.out.trans g7
      clear hfr g7
      have HS7 : Hid (OwnV Value.bool false (fun i => i = gs) w7 (.slice (some ⟨gs, os, none⟩) n cs) (mks L' h 0) ∧ Grow w3 w7) := by
        rw [mks_zero, HS.out.2.1]
        exact ⟨OwnV.grow HQ.out.1 HG7.out, HQ.out.2.1.trans HG7.out⟩
      have HB : Hid (g < gs ∧ w.heap.size ≤ gs) := HQ.out.2.2
      clear HG6 HG7 HQ
      go_wp2
      go_loopg [7, 9] N (fun m hv kv wr => ∃ (t pc hc : Nat), m + t = N ∧ kv = .int .i64 m ∧ hv = .int .i64 hc ∧ Hid (OwnV Value.bool false (fun i => i = gs) wr (.slice (some ⟨gs, os, none⟩) n cs) (mks L' h pc) ∧ (mks L' h pc).count true = t ∧ OwnF (fun i => i = g) wr (.slice (some ⟨g, o, none⟩) n c) L' ∧ Grow w wr ∧ hc = (h + pc) % n ∧ pc ≤ n))
      case atStart => exact ⟨0, 0, h, by omega, rfl, rfl, HS7.out.1, mks_none _ _, OwnS.grow HS.out.1 HS7.out.2, HS.out.2.2.2.2.1.trans HS7.out.2, by rw [Nat.add_zero, Nat.mod_eq_of_lt HH.out], Nat.zero_le _⟩
      case round =>
        clear HS7
        obtain ⟨t, pc, hc, hm, rfl, rfl, S⟩ := hrel
        by_cases hlt : 0 < gk
        · have hle : (0 : Int) < (gk : Int) := by omega
          have HM : Hid (gk + t = N ∧ 0 < gk) := ⟨hm, hlt⟩
          obtain ⟨g', hg'⟩ : ∃ g' : Nat, g' + 1 = gk := ⟨gk - 1, by omega⟩
          have Hg' : Hid (g' + 1 = gk) := hg'
          have hw1 : IntKind.i64.wrap ((gk : Int) - 1) = (g' : Int) := by rw [IntKind.wrap_i64]; omega
          have hln := HS.out.2.1
          have hstep := rounds_step (L := L') (h := h) (c := pc) (by rw [hln]; exact HH.out) HS.out.2.2.1 (by rw [hln]; exact S.out.2.2.2.2.2) (by rw [S.out.2.1, HN.out]; omega)
          have hhc : hc = (h + pc) % n := S.out.2.2.2.2.1
          rw [hln, ← hhc] at hstep
          obtain ⟨q, hq1, hq2, e1, e2, e3, e4, e5, e6⟩ := hstep
          have hhl : hc < L'.length := by rw [hln, hhc]; exact Nat.mod_lt _ (by omega)
          have htu := turn_any g o n c L' hc wr S.out.2.2.1.rd hhl (by rw [hln]; omega)
          rw [e1, e2, decide_eq_true e3] at htu
          have HV : Hid ((h + q) % n < n) := Nat.mod_lt _ (by omega)
          obtain ⟨V, hV⟩ : ∃ V, V = (h + q) % n := ⟨_, rfl⟩
          obtain ⟨H2, hH2⟩ : ∃ H2, H2 = (h + (q + 1)) % n := ⟨_, rfl⟩
          rw [← hV] at htu e4 e5 HV
          rw [← hH2] at htu
          have HE : Hid (H2 = (h + (q + 1)) % n ∧ q + 1 ≤ n ∧ (mks L' h pc).getD V false = false ∧ mks L' h (q + 1) = (mks L' h pc).set V true ∧ (mks L' h (q + 1)).count true = t + 1) := ⟨hH2, hq2, e4, e5, by rw [e6, S.out.2.1]⟩
          have hvi : (V : Int) < (n : Int) := by have := HV.out; omega
          have hv1 : ¬ (n : Int) ≤ (V : Int) := by omega
          clear e1 e2 e3 e4 e5 e6 hV hH2 hhl hhc hln hq1 hq2 hg' hm hlt
          go_wp2_with fail
          refine htu.mono ?_
          rintro e w8 ⟨v8, rfl, ho8, g8⟩
          obtain ⟨a8, c8, hv8⟩ := ho8.shape
          generalize (trn L' hc).2.length = l8 at hv8
          subst hv8
          have hse := OwnV.grow S.out.1 g8
          obtain ⟨gs', os', cs', ev, egs, _, _, hcm, hcl, hfz, hst⟩ := hse.row (j := V) (by rw [mks_len, HS.out.2.1]; exact HV.out)
          injection ev with ev1 ev2 ev3
          injection ev1 with ev1
          injection ev1 with ev4 ev5
          subst ev4; subst ev5; subst ev3
          rw [HE.out.2.2.1] at hcl
          have hst1 := hst true
          rw [← HE.out.2.2.2.1] at hst1
          have hu8 : UpdS (fun i => i = gs) w8 (w8.setCell ⟨gs, os + V, none⟩ (.bool true)) := upd_one w8 gs _ _
          have HF : Hid (OwnV Value.bool false (fun i => i = gs) (w8.setCell ⟨gs, os + V, none⟩ (.bool true)) (.slice (some ⟨gs, os, none⟩) n cs) (mks L' h (q + 1)) ∧ OwnF (fun i => i = g) (w8.setCell ⟨gs, os + V, none⟩ (.bool true)) (.slice (some ⟨g, o, none⟩) n c) L' ∧ Grow w (w8.setCell ⟨gs, os + V, none⟩ (.bool true))) :=
            ⟨hst1, OwnS.upd (OwnS.grow S.out.2.2.1 g8) hu8 (fun i _ hi => by have := HB.out; omega), UpdS.new (S.out.2.2.2.1.trans g8) hu8 (fun i hi => by have := HB.out; omega)⟩
          unfold maxLen at hcm
          clear htu ho8 g8 hse hst hst1 hu8 ev2 egs
          go_wp2
          go_roundg g'
          case measure => have := Hg'.out; omega
          case rel => exact ⟨t + 1, q + 1, H2, by have := Hg'.out; have := HM.out; omega, rfl, rfl, HF.out.1, HE.out.2.2.2.2, HF.out.2.1, HF.out.2.2, HE.out.1, HE.out.2.1⟩
        · obtain rfl : gk = 0 := by omega
          have hle : ¬ (0 : Int) < ((0 : Nat) : Int) := by omega
          have HGW : Hid (Grow w wr) := S.out.2.2.2.1
          clear hm hlt
          have hli := lives_any wr
          go_wp2_with fail
          refine hli.mono ?_
          rintro e w5 ⟨rfl, g5⟩
          have HF : Hid (Grow w w5) := HGW.out.trans g5
          clear hli g5
          go_wp2
          go_ret
          exact ⟨rfl, HF.out⟩
end Go.Proofs.Ytabhbeknpchpkaa
