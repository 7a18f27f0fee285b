/-
  The walk of DeviceLasts, with a barrier. Conditions: the theorem's own.
-/
import Derived.Test.YtpkoiogdkaklfaaDevEnd
import Derived.Test.YtpkoiogdkaklfaaDevDoc
import Derived.Test.YtpkoiogdkaklfaaDevGo
import Derived.Test.YtpkoiogdkaklfaaDevOs
import Derived.Test.YtpkoiogdkaklfaaDevBig
import Derived.Test.YtpkoiogdkaklfaaCelFill
namespace Go.Proofs.Ytpkoiogdkaklfaa
open Go.RowKit
set_option linter.unusedVariables false
set_option linter.unusedSimpArgs false

set_option maxRecDepth 16000 in
set_option maxHeartbeats 8000000 in
theorem deviceLasts_yes (ao : Option Addr) (co : Nat) (os : List OV) (ak : Option Addr) (ck : Nat) (ks : List Bool) (w : World) (hos : RdS OV.cs 5 (fun i => i < w.heap.size) w (.slice ao os.length co) os) (hok : ∀ z ∈ os, OV.Ok w z) (hks : RdV Value.bool false (fun i => i < w.heap.size) w (.slice ak ks.length ck) ks) (hkr : ks.length ≤ 140737488355328) :
    Calls Try.prog 5 #[.slice ao os.length co, .bool true, .slice ak ks.length ck] w fun e w' => e = .returned (.bool true) ∧ Grow w w' := by
  obtain ⟨i0, hi0, hz0, hz1, hz2⟩ := info_parts Try.info5
  obtain ⟨i1, hi1, hy0, hy1, hy2⟩ := info_parts Try.infoBS
  have hdn : Calls Try.prog 10 #[.int .i64 6] w fun e w' => ∃ b, e = .returned (.tuple #[.pointer (some ⟨b, 0, none⟩), .int .i64 0]) ∧ ∃ bl bt, DevAt w' (fun i => i ≠ b ∧ i ≠ bl ∧ i ≠ bt) b bl bt 0 (List.replicate 6 zcell) (List.replicate 6 []) [] ∧ Grow w w' ∧ w.heap.size ≤ b ∧ w.heap.size ≤ bl ∧ w.heap.size ≤ bt := dnew_yes 6 w (by omega) (by omega)
  have hol := hos.len
  have hoc := hos.caps.2
  have hkc := hks.caps.2
  unfold maxLen at hol hoc hkc
  go_enter Try.func5, Try.ntmps5
  go_wp2_with fail
  refine hdn.mono ?_
  rintro e w1 ⟨b, rfl, bl, bt, hD1, hg1, hb, hbl, hbt⟩
  have H1 : Hid (DevAt w1 (fun i => i ≠ b ∧ i ≠ bl ∧ i ≠ bt) b bl bt 0 (List.replicate 6 zcell) (List.replicate 6 []) [] ∧ Grow w w1 ∧ w.heap.size ≤ b ∧ w.heap.size ≤ bl ∧ w.heap.size ≤ bt) := ⟨hD1, hg1, hb, hbl, hbt⟩
  clear hD1 hg1 hb hbl hbt hdn
  go_wp2_with (at_make; refine wpList_makeV rfl (.const (.int .i64 6)) (.const (.int .i64 6)) 28 rfl slF sl0 29 i1 Try.underlying28 hi1 hy0 rfl 24 hy1 hy2 .i64 .i64 6 6 rfl rfl rfl (by omega) (by omega) ?_)
  intro v9 w2 ho2 hg2 hlt2
  obtain ⟨gL, oL, cL, hv9, hgb, hgl, hnc, hcm, -, -, -⟩ := ho2.row (j := 0) (by simp)
  have hv9' : v9 = .slice (some ⟨gL, oL, none⟩) 6 cL := hv9
  have hnc6 : 6 ≤ cL := hnc
  have ho2' : OwnV slF sl0 (fun i => i = w1.heap.size) w2 v9 (List.replicate 6 sl0) := ho2
  clear hv9 ho2 hnc
  subst hv9'
  have HBW : Hid (w.heap.size ≤ b ∧ w.heap.size ≤ bl ∧ w.heap.size ≤ bt ∧ w.heap.size ≤ gL) := by have h1 := H1.out; have h2 := h1.2.1.size; have h3 : gL = w1.heap.size := hgb; exact ⟨h1.2.2.1, h1.2.2.2.1, h1.2.2.2.2, by omega⟩
  have HNE : Hid (gL ≠ b ∧ gL ≠ bl ∧ gL ≠ bt) := by have h1 := H1.out.1.lt; have h3 : gL = w1.heap.size := hgb; exact ⟨by omega, by omega, by omega⟩
  have H3 : Hid (∃ last ss, LastOk last ∧ ss.length = 6 ∧ OwnV slF sl0 (fun i => i = gL) w2 (.slice (some ⟨gL, oL, none⟩) 6 cL) ss ∧ (∀ i, i < 6 → RdV (Value.int .u8) 0 (fun i => (i ≠ b ∧ i ≠ bl ∧ i ≠ bt) ∧ i ≠ gL) w2 (slF (ss.getD i sl0)) (last.getD i [])) ∧ DevAt w2 (fun i => (i ≠ b ∧ i ≠ bl ∧ i ≠ bt) ∧ i ≠ gL) b bl bt 0 (List.replicate 6 zcell) (latOf last) [] ∧ Grow w w2) := by
    have h3 : gL = w1.heap.size := hgb
    refine ⟨List.replicate 6 [], List.replicate 6 sl0, LastOk.new, by simp, ho2'.mono (fun k _ hk => by omega), fun i hi => ?_, ?_, H1.out.2.1.trans hg2⟩
    · rw [repl_nil, repl_sl]
      exact RdV.nil _ _ _ _ _ _ (Nat.zero_le _)
    · rw [latOf_new]
      exact (H1.out.1.beside (x := gL) (by omega)).grow hg2
  have hcm' : cL ≤ 9223372036854775807 := hcm
  clear H1 ho2' hg2 hlt2 hgb hgl hcm
  go_wp2
  go_loopg [10] 6 (fun k i wr => ∃ j : Nat, k = 6 - j ∧ j ≤ 6 ∧ i = .int .i64 j ∧ Hid (∃ last ss, LastOk last ∧ ss.length = 6 ∧ OwnV slF sl0 (fun i => i = gL) wr (.slice (some ⟨gL, oL, none⟩) 6 cL) ss ∧ (∀ i, i < 6 → RdV (Value.int .u8) 0 (fun i => (i ≠ b ∧ i ≠ bl ∧ i ≠ bt) ∧ i ≠ gL) wr (slF (ss.getD i sl0)) (last.getD i [])) ∧ DevAt wr (fun i => (i ≠ b ∧ i ≠ bl ∧ i ≠ bt) ∧ i ≠ gL) b bl bt j (List.replicate 6 zcell) (latOf last) [] ∧ Grow w wr))
  case atStart => exact ⟨0, rfl, Nat.zero_le _, rfl, H3⟩
  case round =>
    obtain ⟨j, hk, hj, rfl, HI⟩ := hrel
    by_cases hjo : j < os.length
    · have hjo' : (j : Int) < (os.length : Int) := by omega
      by_cases hj16 : j < 6
      · have hj16' : (j : Int) < 6 := by omega
        have HJ : Hid (j < 6 ∧ gk = 6 - j) := ⟨hj16, hk⟩
        clear hk H3
        obtain ⟨last, ss, hL, hss, hO, hR, hD, hg⟩ := HI.out
        obtain ⟨bo, oo, z, rfl, hzok, -, hzc⟩ := os_at hos hok hjo
        obtain ⟨zd, za, zt, zb, zk⟩ := z
        obtain ⟨⟨hzd, hza, hzt⟩, ⟨bs, hbs, hbo⟩, -⟩ := hzok
        simp only at hzc hzd hza hzt hbs
        obtain ⟨ab, cb, hzb⟩ := hbs.shape
        subst hzb
        obtain ⟨c0, c1, c2, c3, c4⟩ := hzc wr hg
        have hab := around_bd za 6 (by omega)
        obtain ⟨i, hi⟩ := Int.eq_ofNat_of_zero_le hab.1
        have har := around_any za 6 wr hza (by omega) (by omega)
        rw [hi] at har hab
        have hi6 : (i : Int) < 6 := hab.2
        have HIx : Hid (i < 6) := by show i < 6; omega
        clear hi hab hzd hzt
        have hki : (Lit.int .i64 (i : Int)).wf = true := wfI (by omega)
        have hfl := fill_any (.slice ab bs.length cb) bs 16 16 _ wr rfl (hbs.grow hg).i (by omega)
        have HF : Hid ((fillL bs 16).length = 16 ∧ Oct (fillL bs 16)) := ⟨fillL_length _ _, oct_fill hbo 16⟩
        generalize fillL bs 16 = fs at hfl HF
        have HS : Hid (LastOk last ∧ ss.length = 6 ∧ OwnV slF sl0 (fun i => i = gL) wr (.slice (some ⟨gL, oL, none⟩) 6 cL) ss ∧ (∀ i, i < 6 → RdV (Value.int .u8) 0 (fun i => (i ≠ b ∧ i ≠ bl ∧ i ≠ bt) ∧ i ≠ gL) wr (slF (ss.getD i sl0)) (last.getD i [])) ∧ DevAt wr (fun i => (i ≠ b ∧ i ≠ bl ∧ i ≠ bt) ∧ i ≠ gL) b bl bt j (List.replicate 6 zcell) (latOf last) [] ∧ Grow w wr) := ⟨hL, hss, hO, hR, hD, hg⟩
        clear hL hss hO hR hD hg hzc HI hbs hbo hza
        go_wp2_with fail
        refine har.mono ?_
        rintro e w4 ⟨rfl, rfl⟩
        go_wp2_with fail
        refine hfl.mono ?_
        rintro e w4 ⟨v4, rfl, ho4, hb4⟩
        obtain ⟨a4, c4', hv4⟩ := ho4.shape
        rw [HF.out.1] at hv4
        subst hv4
        obtain ⟨hL, hss, hO, hR, hD, hg⟩ := HS.out
        have hgLt := own9_lt hO hss
        obtain ⟨g', o', c', hv', hg', hgl', hnc', hcm', hcell, hfz, hset⟩ := (hO.grow hb4).row (j := i) (by rw [hss]; exact HIx.out)
        injection hv' with e1 e2 e3
        injection e1 with e1
        injection e1 with e4 e5
        clear e2
        subst e3 e4 e5
        clear hg' hgl' hnc' hcm'
        have hO5 := hset (a4, 16, c4')
        have hu5 := UpdS.setCell (fun k => k = gL) ⟨gL, oL + i, none⟩ (.slice a4 16 c4') w4 rfl
        have HS5 : Hid (LastOk (last.set i fs) ∧ (ss.set i (a4, 16, c4')).length = 6 ∧ OwnV slF sl0 (fun i => i = gL) (w4.setCell ⟨gL, oL + i, none⟩ (.slice a4 16 c4')) (.slice (some ⟨gL, oL, none⟩) 6 cL) (ss.set i (a4, 16, c4')) ∧ (∀ k, k < 6 → RdV (Value.int .u8) 0 (fun i => (i ≠ b ∧ i ≠ bl ∧ i ≠ bt) ∧ i ≠ gL) (w4.setCell ⟨gL, oL + i, none⟩ (.slice a4 16 c4')) (slF ((ss.set i (a4, 16, c4')).getD k sl0)) ((last.set i fs).getD k [])) ∧ DevAt (w4.setCell ⟨gL, oL + i, none⟩ (.slice a4 16 c4')) (fun i => (i ≠ b ∧ i ≠ bl ∧ i ≠ bt) ∧ i ≠ gL) b bl bt j (List.replicate 6 zcell) (latOf last) [] ∧ Grow w (w4.setCell ⟨gL, oL + i, none⟩ (.slice a4 16 c4')) ∧ RdV (Value.int .u8) 0 (fun i => (i ≠ b ∧ i ≠ bl ∧ i ≠ bt) ∧ i ≠ gL) (w4.setCell ⟨gL, oL + i, none⟩ (.slice a4 16 c4')) (.slice a4 16 c4') fs ∧ (w4.setCell ⟨gL, oL + i, none⟩ (.slice a4 16 c4')).cell? ⟨gL, oL + i, none⟩ = some (.slice a4 16 c4')) := by
          have hbw := HBW.out
          have hne9 := HNE.out
          have hlt := hD.lt
          have hg4 := hb4.size
          have hr4 : RdV (Value.int .u8) 0 (fun i => (i ≠ b ∧ i ≠ bl ∧ i ≠ bt) ∧ i ≠ gL) w4 (.slice a4 16 c4') fs := ho4.v.rd.mono (fun k hk hh => by have h1 := hgLt; omega)
          refine ⟨hL.set i HF.out, by rw [List.length_set]; exact hss, hO5, fun k hk => ?_, (hD.grow hb4).upd hu5 (by omega) (by omega) (by omega) (fun k _ hk => hk.2), UpdS.new (hg.trans hb4) hu5 (fun k hk => by omega), hr4.upd hu5 (fun k _ hk => hk.2), ?_⟩
          · rw [getD_set _ _ _ _ _ (by rw [hss]; exact HIx.out), getD_set _ _ _ _ _ (by rw [hL.1]; exact HIx.out)]
            by_cases e : k = i
            · rw [if_pos e, if_pos e]; exact hr4.upd hu5 (fun k _ hk => hk.2)
            · rw [if_neg e, if_neg e]; exact ((hR k hk).grow hb4).upd hu5 (fun k _ hk => hk.2)
          · exact World.cell?_setCell_same' _ _ _ (by rw [hcell]; rfl)
        have HE : Hid ((latOf last).set i (fs ++ le 4 (chk 0 fs : Nat)) = latOf (last.set i fs)) := latOf_set last i (fun e => by have := HF.out.1; rw [e] at this; simp at this)
        have HZ : Hid ((latOf (last.set i fs)).getD i [] = fs ++ le 4 (chk 0 fs : Nat) ∧ opened (fs ++ le 4 (chk 0 fs : Nat)) = (fs, 0)) := by
          refine ⟨?_, opened_sealed fs HF.out.1⟩
          rw [latOf_getD, getD_set _ _ _ _ _ (by rw [hL.1]; exact HIx.out), if_pos rfl]
          exact (sealO_ne (fun e => by have := HF.out.1; rw [e] at this; simp at this)).1
        obtain ⟨w5, hw5⟩ : ∃ w5, w4.setCell ⟨gL, oL + i, none⟩ (.slice a4 16 c4') = w5 := ⟨_, rfl⟩
        rw [hw5] at HS5
        have k5 := HS5.out.2.2.2.2.2.2.2
        have hdw := dwrite_any w5 _ b bl bt j _ _ _ HS5.out.2.2.2.2.1 i hki (.slice a4 16 c4') fs _ HS5.out.2.2.2.2.2.2.1.i HF.out.2 (by have := HJ.out; omega) (fun k hk => by have h1 := HS5.out.2.2.2.2.1.lt; have h2 := World.block_lt_of_cell? _ _ HS5.out.2.2.2.2.2.2.2; have h3 : gL < w5.heap.size := h2; omega)
        rw [HF.out.1, writeL_ok (by simpa using HIx.out) HF.out.1, writeE_ok (by simpa using HIx.out), HE.out] at hdw
        generalize last.set i fs = last' at HS5 hdw HZ
        generalize ss.set i (a4, 16, c4') = ss' at HS5
        generalize slF (ss.getD i sl0) = u0 at hcell
        clear hgLt hL hss hO hR hD hg hset hO5 hu5 ho4 hb4 hfl har HE
        go_wp2_with fail
        refine hdw.mono ?_
        rintro e w6 ⟨rfl, hD6, hu6⟩
        have HS6 : Hid (LastOk last' ∧ ss'.length = 6 ∧ OwnV slF sl0 (fun i => i = gL) w6 (.slice (some ⟨gL, oL, none⟩) 6 cL) ss' ∧ (∀ k, k < 6 → RdV (Value.int .u8) 0 (fun i => (i ≠ b ∧ i ≠ bl ∧ i ≠ bt) ∧ i ≠ gL) w6 (slF (ss'.getD k sl0)) (last'.getD k [])) ∧ DevAt w6 (fun i => (i ≠ b ∧ i ≠ bl ∧ i ≠ bt) ∧ i ≠ gL) b bl bt (j + 1) (List.replicate 6 zcell) (latOf last') [] ∧ Grow w w6 ∧ RdV (Value.int .u8) 0 (fun i => (i ≠ b ∧ i ≠ bl ∧ i ≠ bt) ∧ i ≠ gL) w6 (.slice a4 16 c4') fs ∧ w6.cell? ⟨gL, oL + i, none⟩ = some (.slice a4 16 c4')) := by
          have hbw := HBW.out
          have hne9 := HNE.out
          have hlt := HS5.out.2.2.2.2.1.lt
          refine ⟨HS5.out.1, HS5.out.2.1, HS5.out.2.2.1.upd hu6 (fun k _ hk => by omega), fun k hk => (HS5.out.2.2.2.1 k hk).upd hu6 (fun k _ hk => hk.1.2.2), hD6, UpdS.new HS5.out.2.2.2.2.2.1 hu6 (fun k hk => by omega), HS5.out.2.2.2.2.2.2.1.upd hu6 (fun k _ hk => hk.1.2.2), ?_⟩
          rw [hu6.cell (p := ⟨gL, oL + i, none⟩) (World.block_lt_of_cell? _ _ k5) (by show ¬ gL = bt; omega)]
          exact k5
        have hrd := dread_any w6 _ b bl bt _ _ _ _ HS6.out.2.2.2.2.1 i hki
        rw [readL_later (by rw [HZ.out.1]; intro e; have := (List.append_eq_nil_iff.1 e).1; have h2 := HF.out.1; rw [this] at h2; simp at h2) (by rw [latOf_length, HS6.out.1.1]; exact HIx.out), HZ.out.1, HZ.out.2] at hrd
        clear hdw hD6 hu6 HS5 k5 hcell hfz hw5
        go_wp2_with fail
        refine hrd.mono ?_
        rintro e w7 ⟨v7, rfl, ho7, hg7⟩
        have gd7 : Grow w7 w7.drew := (Grow.refl w7).drew
        have kc : ∀ w', Grow w7.drew w' → w'.cell? ⟨gL, oL + i, none⟩ = some (.slice a4 16 c4') := fun w' g => by rw [Below.cell (p := ⟨gL, oL + i, none⟩) ((Grow.trans hg7 gd7).trans g) (World.block_lt_of_cell? _ _ HS6.out.2.2.2.2.2.2.2)]; exact HS6.out.2.2.2.2.2.2.2
        have k1 : ∀ w', Grow w7.drew w' → (convert 29 9 v7).run Try.prog w' = .ok (.string (strOfNums fs)) w' := fun w' g => (Rd.below ho7.rd (gd7.trans g)).string 29 9 5 Try.underlying29 Try.underlying5 Try.underlying9
        have k2 : ∀ w', Grow w7.drew w' → (convert 29 9 (.slice a4 16 c4')).run Try.prog w' = .ok (.string (strOfNums fs)) w' := fun w' g => ((HS6.out.2.2.2.2.2.2.1.grow ((Grow.trans hg7 gd7).trans g)).i).string 29 9 5 Try.underlying29 Try.underlying5 Try.underlying9
        have HI7 : Hid (∃ last ss, LastOk last ∧ ss.length = 6 ∧ OwnV slF sl0 (fun i => i = gL) w7.drew (.slice (some ⟨gL, oL, none⟩) 6 cL) ss ∧ (∀ i, i < 6 → RdV (Value.int .u8) 0 (fun i => (i ≠ b ∧ i ≠ bl ∧ i ≠ bt) ∧ i ≠ gL) w7.drew (slF (ss.getD i sl0)) (last.getD i [])) ∧ DevAt w7.drew (fun i => (i ≠ b ∧ i ≠ bl ∧ i ≠ bt) ∧ i ≠ gL) b bl bt (j + 1) (List.replicate 6 zcell) (latOf last) [] ∧ Grow w w7.drew) := by
          have g7 : Grow w6 w7.drew := Grow.trans hg7 gd7
          exact ⟨last', ss', HS6.out.1, HS6.out.2.1, HS6.out.2.2.1.grow g7, fun k hk => (HS6.out.2.2.2.1 k hk).grow g7, HS6.out.2.2.2.2.1.grow g7, HS6.out.2.2.2.2.2.1.trans g7⟩
        clear hrd ho7 hg7
        go_wp2
        refine wp_region_sched (by kernel_rfl) [(0, false), (1, false), (2, false), (3, false), (4, false), (5, false), (6, false), (7, false), (8, false), (9, false), (10, false), (11, false)] (by kernel_rfl) (by kernel_rfl) rfl (fun _ _ d _ _ h => by cases d <;> exact h) ?_
        simp only [inOrder, List.filterMap_cons, List.filterMap_nil, List.getElem?_toArray, List.getElem?_cons_zero, List.getElem?_cons_succ, Option.map_some]
        repeat (first
          | (refine wpS_move rfl ?_; simp only [Act.eval, Act.put, Array.getD_eq_getD_getElem?, List.getElem?_toArray, List.getElem?_cons_zero, List.getElem?_cons_succ, Option.getD_some, List.setIfInBounds_toArray, List.set_cons_zero, List.set_cons_succ])
          | (refine wpS_assign rfl ?_; simp only [Act.eval, Act.put, Array.getD_eq_getD_getElem?, List.getElem?_toArray, List.getElem?_cons_zero, List.getElem?_cons_succ, Option.getD_some, List.setIfInBounds_toArray, List.set_cons_zero, List.set_cons_succ])
          | (refine wpS_read (v := ?_) rfl ?_ ?_; rotate_left; (focus (intro w' hG; (have q0 := kc w' hG; have q1 := k1 w' hG; have q2 := k2 w' hG); go_simp; try (with_reducible rfl))); simp only [Act.put, List.setIfInBounds_toArray, List.set_cons_zero, List.set_cons_succ])
          | (refine wpS_skip rfl ?_; simp only [Act.put, List.setIfInBounds_toArray, List.set_cons_zero, List.set_cons_succ]))
        refine wpS_nil ?_
        clear kc k1 k2
        go_wp2
        go_roundg (6 - (j + 1))
        case measure => have := HJ.out; omega
        case rel => exact ⟨j + 1, rfl, by have := HJ.out; omega, by go_num, HI7⟩
      · have hj16' : ¬ (j : Int) < 6 := by omega
        clear hk H3
        obtain ⟨last, ss, hL, hss, hO, hR, hD, hg⟩ := HI.out
        have HL : Hid (LastOk last) := hL
        have HR : Hid (RowsV (fun i => i ≠ b ∧ i ≠ bl ∧ i ≠ bt) wr (.slice (some ⟨gL, oL, none⟩) 6 cL) last) := ⟨ss, hO.rd.mono (fun k _ hk => by have h2 := HBW.out; have h3 := HNE.out; omega), hss.trans hL.1.symm, fun i hi => (hR i (by rw [← hL.1]; exact hi)).mono (fun k _ hk => hk.1)⟩
        obtain ⟨s, HSJ⟩ : ∃ s : Nat, Hid (j ≤ s) := ⟨j, Nat.le_refl j⟩
        have HS : Hid (DevAt wr (fun i => (i ≠ b ∧ i ≠ bl ∧ i ≠ bt) ∧ i ≠ gL) b bl bt s (List.replicate 6 zcell) (latOf last) [] ∧ RowsV (fun i => i ≠ b ∧ i ≠ bl ∧ i ≠ bt) wr (.slice (some ⟨gL, oL, none⟩) 6 cL) last ∧ Grow w wr) := ⟨hD.more HSJ.out, HR.out, hg⟩
        have HBl : Hid (b < wr.heap.size ∧ bl < wr.heap.size ∧ bt < wr.heap.size) := ⟨hD.lt.1, hD.lt.2.1, hD.lt.2.2.1⟩
        clear hss hO hR hD hg HI HSJ HR
        have hbr := dbarrier_any wr _ b bl bt s _ _ _ HS.out.1 0 6 (by decide) (by decide)
        have HEb : Hid (laterL (barL (List.replicate 6 zcell, latOf last) (laterL (latOf last) 0 6)).2 0 6 = [] ∧ EndOk true last ks (barL (List.replicate 6 zcell, latOf last) (laterL (latOf last) 0 6)).1 (barL (List.replicate 6 zcell, latOf last) (laterL (latOf last) 0 6)).2) := end_bar hL ks
        clear hL
        go_wp2_with fail
        refine hbr.mono ?_
        rintro e w1 ⟨rfl, hD1, hu1⟩
        have HS1 : Hid (DevAt w1 (fun i => (i ≠ b ∧ i ≠ bl ∧ i ≠ bt) ∧ i ≠ gL) b bl bt s (barL (List.replicate 6 zcell, latOf last) (laterL (latOf last) 0 6)).1 (barL (List.replicate 6 zcell, latOf last) (laterL (latOf last) 0 6)).2 [] ∧ RowsV (fun i => i ≠ b ∧ i ≠ bl ∧ i ≠ bt) w1 (.slice (some ⟨gL, oL, none⟩) 6 cL) last ∧ Grow w w1 ∧ b < w1.heap.size ∧ bl < w1.heap.size ∧ bt < w1.heap.size) := by
          have h1 := HBl.out
          have h2 := HBW.out
          have h3 := hu1.size
          exact ⟨hD1, HS.out.2.1.upd hu1 (fun k _ hk hh => by omega), UpdS.new HS.out.2.2 hu1 (fun k hk => by omega), by omega, by omega, by omega⟩
        generalize (barL (List.replicate 6 zcell, latOf last) (laterL (latOf last) 0 6)).1 = LAS at HEb HS1
        generalize (barL (List.replicate 6 zcell, latOf last) (laterL (latOf last) 0 6)).2 = LAT at HEb HS1
        have HE : Hid (EndOk true last ks LAS LAT) := HEb.out.2
        clear hbr hD1 hu1 HS
        have hbn := bnewL_any (.slice ak ks.length ck) ks _ w1 (hks.grow HS1.out.2.2.1) hkr
        go_wp2_with fail
        refine hbn.mono ?_
        rintro e w2 ⟨sb, sg, rfl, hS2, hg2, hsg, hsb⟩
        have hne : sb ≠ b ∧ sb ≠ bl ∧ sb ≠ bt ∧ sg ≠ bl ∧ sg ≠ bt := by have := HS1.out; omega
        have HSB : Hid (w1.heap.size ≤ sb ∧ w.heap.size ≤ sb) := ⟨hsb, by have := HS1.out.2.2.1.size; omega⟩
        have hcr := dcrash_any w2 (fun i => ((i ≠ b ∧ i ≠ bl ∧ i ≠ bt) ∧ i ≠ gL) ∧ i ≠ sb) b bl bt s LAS LAT [] ((HS1.out.1.beside (x := sb) hsb).grow hg2) 0 6 (by decide) (by decide) sb sg ks hS2 hne (fun hh => hh.2 rfl)
        rw [HEb.out.1] at hcr
        have hcr' : Calls Try.prog 22 #[.pointer (some ⟨b, 0, none⟩), .int .i64 0, .int .i64 6, .pointer (some ⟨sb, 0, none⟩)] w2 fun e w' => ∃ n, e = .returned (.tuple #[]) ∧ DevAt w' (fun i => ((i ≠ b ∧ i ≠ bl ∧ i ≠ bt) ∧ i ≠ gL) ∧ i ≠ sb) b bl bt s LAS LAT [] ∧ StrAt w' sb sg ks n ∧ UpdS (fun i => i = bl ∨ i = bt ∨ i = sb) w2 w' := hcr
        have HQ2 : Hid (RowsV (fun i => (i ≠ b ∧ i ≠ bl ∧ i ≠ bt) ∧ i ≠ sb) w2 (.slice (some ⟨gL, oL, none⟩) 6 cL) last ∧ Grow w w2) := ⟨(HS1.out.2.1.mono (fun k hk hh => ⟨hh, by omega⟩)).grow hg2, HS1.out.2.2.1.trans hg2⟩
        clear hS2 hg2 hsg hsb hbn hcr HEb
        go_wp2_with fail
        refine hcr'.mono ?_
        rintro e w3 ⟨n3, rfl, hD3, -, hu3⟩
        have HP : Hid (DevAt w3 (fun i => (i ≠ b ∧ i ≠ bl ∧ i ≠ bt) ∧ i ≠ gL) b bl bt s LAS LAT [] ∧ RowsV (fun i => i ≠ b ∧ i ≠ bl ∧ i ≠ bt) w3 (.slice (some ⟨gL, oL, none⟩) 6 cL) last ∧ Grow w w3) := by
          have h1 := HS1.out
          have h2 := HBW.out
          have h3 := HSB.out
          exact ⟨hD3.back (by omega), (HQ2.out.1.upd hu3 (fun k _ hk hh => by omega)).mono (fun k _ hk => hk.1), UpdS.new HQ2.out.2 hu3 (fun k hk => by omega)⟩
        clear hD3 hu3 hcr' HQ2 HS1 HSB HBl
        go_wp2
        go_loopg [15, 16] 6 (fun g k i wr => ∃ j kk : Nat, g = 6 - j ∧ j ≤ 6 ∧ (k = .int .i64 kk ∧ Hid (kk = 0)) ∧ i = .int .i64 j ∧ Hid (DevAt wr (fun i => (i ≠ b ∧ i ≠ bl ∧ i ≠ bt) ∧ i ≠ gL) b bl bt s LAS LAT [] ∧ RowsV (fun i => i ≠ b ∧ i ≠ bl ∧ i ≠ bt) wr (.slice (some ⟨gL, oL, none⟩) 6 cL) last ∧ Grow w wr))
        case atStart => exact ⟨0, 0, rfl, Nat.zero_le _, ⟨rfl, rfl⟩, rfl, HP⟩
        case round =>
          obtain ⟨j, kk, hk, hj, ⟨rfl, HKK⟩, rfl, HI⟩ := hrel
          by_cases hj6 : j < 6
          · have hj6' : (j : Int) < 6 := by omega
            have HJ : Hid (j < 6 ∧ gk = 6 - j) := ⟨hj6, hk⟩
            have hwk : (Lit.int .i64 (j : Int)).wf = true := wfI (by omega)
            have HKB : Hid (kk ≤ 6) := by show kk ≤ 6; have := HKK.out; omega
            obtain ⟨b9, o9, ai, ci, e9, hb9, hcl, hrl⟩ := HI.out.2.1.at (show j < last.length by rw [HL.out.1]; exact hj6)
            injection e9 with e9
            injection e9 with e9a e9b
            subst e9a e9b
            clear hk hj6
            have hkw : IntKind.i64.wrap ((kk : Int) + 1) = (kk : Int) + 1 := by rw [IntKind.wrap_i64]; have := HKB.out; omega
            by_cases hz : last.getD j [] = []
            · rw [hz] at hcl
              simp only [List.length_nil] at hcl
              have hcl' : ∀ w', Grow wr w' → w'.cell? ⟨gL, oL + j, none⟩ = some (.slice ai 0 ci) := fun w' g => by rw [Below.cell (p := ⟨gL, oL + j, none⟩) g hb9]; exact hcl
              have HWn : Hid (wantB true last ks j = List.replicate 16 0) := wantB_none hz
              have HK2 : Hid (kk = 0) := by
                show kk = _
                exact HKK.out
              clear hz hrl
              go_wp2_with (at_make; refine wpList_makeV rfl (.const (.int .i64 16)) (.const (.int .i64 16)) 29 rfl (Value.int .u8) 0 5 i0 Try.underlying29 hi0 hz0 rfl 1 hz1 hz2 .i64 .i64 16 16 rfl rfl rfl (by omega) (by omega) ?_)
              intro vw wb how hgw hltw
              have hclb := hcl' wb hgw
              have HSb : Hid ((DevAt wb (fun i => (i ≠ b ∧ i ≠ bl ∧ i ≠ bt) ∧ i ≠ gL) b bl bt s LAS LAT [] ∧ RowsV (fun i => i ≠ b ∧ i ≠ bl ∧ i ≠ bt) wb (.slice (some ⟨gL, oL, none⟩) 6 cL) last ∧ Grow w wb) ∧ RdV (Value.int .u8) 0 (fun i => i = wr.heap.size) wb vw (List.replicate 16 0)) := ⟨⟨HI.out.1.grow hgw, HI.out.2.1.grow hgw, HI.out.2.2.trans hgw⟩, how.rd⟩
              clear how hgw hltw hcl hcl' hb9
              have hE := HE.out.1 j (by have := HJ.out; omega)
              rw [HWn.out] at hE
              have r1 := dread_any wb (fun i => (i ≠ b ∧ i ≠ bl ∧ i ≠ bt) ∧ i ≠ gL) b bl bt s LAS LAT [] HSb.out.1.1 j hwk
              have r2 := fun w' (g : Grow wb w') => dlasting_any w' (fun i => (i ≠ b ∧ i ≠ bl ∧ i ≠ bt) ∧ i ≠ gL) b bl bt s LAS LAT [] (HSb.out.1.1.grow g) j hwk
              rw [hE.1] at r1
              rw [hE.2] at r2
              clear hE
              go_wp2_with fail
              refine r1.mono ?_
              rintro e wc ⟨vc, rfl, hoc1, hgc⟩
              go_wp2_with fail
              refine (r2 wc hgc).mono ?_
              rintro e wd ⟨vd, rfl, hod, hgd⟩
              have s1 := (Rd.below hoc1.rd hgd).string (P := Try.prog) 29 9 5 Try.underlying29 Try.underlying5 Try.underlying9
              have s2 := hod.rd.string (P := Try.prog) 29 9 5 Try.underlying29 Try.underlying5 Try.underlying9
              have s3 := ((HSb.out.2.grow (Grow.trans hgc hgd)).i).string (P := Try.prog) 29 9 5 Try.underlying29 Try.underlying5 Try.underlying9
              have HId : Hid (DevAt wd (fun i => (i ≠ b ∧ i ≠ bl ∧ i ≠ bt) ∧ i ≠ gL) b bl bt s LAS LAT [] ∧ RowsV (fun i => i ≠ b ∧ i ≠ bl ∧ i ≠ bt) wd (.slice (some ⟨gL, oL, none⟩) 6 cL) last ∧ Grow w wd) := ⟨HSb.out.1.1.grow (Grow.trans hgc hgd), HSb.out.1.2.1.grow (Grow.trans hgc hgd), HSb.out.1.2.2.trans (Grow.trans hgc hgd)⟩
              clear r1 r2 hoc1 hgc hod hgd HSb
              go_wp2
              go_roundg (6 - (j + 1))
              case measure => have := HJ.out; omega
              case rel => exact ⟨j + 1, kk, rfl, by have := HJ.out; omega, ⟨rfl, HK2⟩, by go_num, HId⟩
            · have h16 := HL.out.2 j hz
              rw [h16.1] at hcl hrl
              have hcl' : ∀ w', Grow wr w' → w'.cell? ⟨gL, oL + j, none⟩ = some (.slice ai 16 ci) := fun w' g => by rw [Below.cell (p := ⟨gL, oL + j, none⟩) g hb9]; exact hcl
              have HWn : Hid (wantB true last ks j = last.getD j []) := wantB_yes hz rfl
              go_wp2_with (at_make; refine wpList_makeV rfl (.const (.int .i64 16)) (.const (.int .i64 16)) 29 rfl (Value.int .u8) 0 5 i0 Try.underlying29 hi0 hz0 rfl 1 hz1 hz2 .i64 .i64 16 16 rfl rfl rfl (by omega) (by omega) ?_)
              intro vw wb how hgw hltw
              have hclb := hcl' wb hgw
              have HSb : Hid ((DevAt wb (fun i => (i ≠ b ∧ i ≠ bl ∧ i ≠ bt) ∧ i ≠ gL) b bl bt s LAS LAT [] ∧ RowsV (fun i => i ≠ b ∧ i ≠ bl ∧ i ≠ bt) wb (.slice (some ⟨gL, oL, none⟩) 6 cL) last ∧ Grow w wb) ∧ RdV (Value.int .u8) 0 (fun i => i ≠ b ∧ i ≠ bl ∧ i ≠ bt) wb (.slice ai 16 ci) (last.getD j [])) := ⟨⟨HI.out.1.grow hgw, HI.out.2.1.grow hgw, HI.out.2.2.trans hgw⟩, hrl.grow hgw⟩
              obtain ⟨avw, cvw, hvw⟩ := how.shape
              have hvw' : vw = .slice avw 16 cvw := hvw
              clear hvw
              subst hvw'
              clear how hltw hcl hcl' hb9
              clear hgw hrl hz
              have hE := HE.out.1 j (by have := HJ.out; omega)
              rw [HWn.out] at hE
              have r1 := dread_any wb (fun i => (i ≠ b ∧ i ≠ bl ∧ i ≠ bt) ∧ i ≠ gL) b bl bt s LAS LAT [] HSb.out.1.1 j hwk
              have r2 := fun w' (g : Grow wb w') => dlasting_any w' (fun i => (i ≠ b ∧ i ≠ bl ∧ i ≠ bt) ∧ i ≠ gL) b bl bt s LAS LAT [] (HSb.out.1.1.grow g) j hwk
              rw [hE.1] at r1
              rw [hE.2] at r2
              clear hE
              go_wp2_with fail
              refine r1.mono ?_
              rintro e wc ⟨vc, rfl, hoc1, hgc⟩
              go_wp2_with fail
              refine (r2 wc hgc).mono ?_
              rintro e wd ⟨vd, rfl, hod, hgd⟩
              have s1 := (Rd.below hoc1.rd hgd).string (P := Try.prog) 29 9 5 Try.underlying29 Try.underlying5 Try.underlying9
              have s2 := hod.rd.string (P := Try.prog) 29 9 5 Try.underlying29 Try.underlying5 Try.underlying9
              have s3 := ((HSb.out.2.grow (Grow.trans hgc hgd)).i).string (P := Try.prog) 29 9 5 Try.underlying29 Try.underlying5 Try.underlying9
              have HId : Hid (DevAt wd (fun i => (i ≠ b ∧ i ≠ bl ∧ i ≠ bt) ∧ i ≠ gL) b bl bt s LAS LAT [] ∧ RowsV (fun i => i ≠ b ∧ i ≠ bl ∧ i ≠ bt) wd (.slice (some ⟨gL, oL, none⟩) 6 cL) last ∧ Grow w wd) := ⟨HSb.out.1.1.grow (Grow.trans hgc hgd), HSb.out.1.2.1.grow (Grow.trans hgc hgd), HSb.out.1.2.2.trans (Grow.trans hgc hgd)⟩
              clear r1 r2 hoc1 hgc hod hgd HSb
              go_wp2
              go_roundg (6 - (j + 1))
              case measure => have := HJ.out; omega
              case rel => exact ⟨j + 1, kk, rfl, by have := HJ.out; omega, ⟨rfl, HKK⟩, by go_num, HId⟩
          · obtain rfl : j = 6 := by omega
            have hlt := dlater_any wr _ b bl bt s LAS LAT [] HI.out.1 0 6 (by decide) (by decide)
            rw [HE.out.2] at hlt
            clear hk hj6
            go_wp2_with fail
            refine hlt.mono ?_
            rintro e w6 ⟨v6, rfl, ho6, hg6⟩
            obtain ⟨a6, c6, rfl⟩ := ho6.shape
            simp only [List.length_nil]
            have HG6 : Hid (Grow w w6) := HI.out.2.2.trans hg6
            clear ho6 hg6 hlt
            go_wp2_with fail
            refine (dlives_any w6).mono ?_
            rintro e w7 ⟨rfl, hg7⟩
            go_wp2
            go_ret
            exact ⟨rfl, HG6.out.trans hg7⟩
    · have hjo' : ¬ (j : Int) < (os.length : Int) := by omega
      clear hk H3
      obtain ⟨last, ss, hL, hss, hO, hR, hD, hg⟩ := HI.out
      have HL : Hid (LastOk last) := hL
      have HR : Hid (RowsV (fun i => i ≠ b ∧ i ≠ bl ∧ i ≠ bt) wr (.slice (some ⟨gL, oL, none⟩) 6 cL) last) := ⟨ss, hO.rd.mono (fun k _ hk => by have h2 := HBW.out; have h3 := HNE.out; omega), hss.trans hL.1.symm, fun i hi => (hR i (by rw [← hL.1]; exact hi)).mono (fun k _ hk => hk.1)⟩
      obtain ⟨s, HSJ⟩ : ∃ s : Nat, Hid (j ≤ s) := ⟨j, Nat.le_refl j⟩
      have HS : Hid (DevAt wr (fun i => (i ≠ b ∧ i ≠ bl ∧ i ≠ bt) ∧ i ≠ gL) b bl bt s (List.replicate 6 zcell) (latOf last) [] ∧ RowsV (fun i => i ≠ b ∧ i ≠ bl ∧ i ≠ bt) wr (.slice (some ⟨gL, oL, none⟩) 6 cL) last ∧ Grow w wr) := ⟨hD.more HSJ.out, HR.out, hg⟩
      have HBl : Hid (b < wr.heap.size ∧ bl < wr.heap.size ∧ bt < wr.heap.size) := ⟨hD.lt.1, hD.lt.2.1, hD.lt.2.2.1⟩
      clear hss hO hR hD hg HI HSJ HR
      have hbr := dbarrier_any wr _ b bl bt s _ _ _ HS.out.1 0 6 (by decide) (by decide)
      have HEb : Hid (laterL (barL (List.replicate 6 zcell, latOf last) (laterL (latOf last) 0 6)).2 0 6 = [] ∧ EndOk true last ks (barL (List.replicate 6 zcell, latOf last) (laterL (latOf last) 0 6)).1 (barL (List.replicate 6 zcell, latOf last) (laterL (latOf last) 0 6)).2) := end_bar hL ks
      clear hL
      go_wp2_with fail
      refine hbr.mono ?_
      rintro e w1 ⟨rfl, hD1, hu1⟩
      have HS1 : Hid (DevAt w1 (fun i => (i ≠ b ∧ i ≠ bl ∧ i ≠ bt) ∧ i ≠ gL) b bl bt s (barL (List.replicate 6 zcell, latOf last) (laterL (latOf last) 0 6)).1 (barL (List.replicate 6 zcell, latOf last) (laterL (latOf last) 0 6)).2 [] ∧ RowsV (fun i => i ≠ b ∧ i ≠ bl ∧ i ≠ bt) w1 (.slice (some ⟨gL, oL, none⟩) 6 cL) last ∧ Grow w w1 ∧ b < w1.heap.size ∧ bl < w1.heap.size ∧ bt < w1.heap.size) := by
        have h1 := HBl.out
        have h2 := HBW.out
        have h3 := hu1.size
        exact ⟨hD1, HS.out.2.1.upd hu1 (fun k _ hk hh => by omega), UpdS.new HS.out.2.2 hu1 (fun k hk => by omega), by omega, by omega, by omega⟩
      generalize (barL (List.replicate 6 zcell, latOf last) (laterL (latOf last) 0 6)).1 = LAS at HEb HS1
      generalize (barL (List.replicate 6 zcell, latOf last) (laterL (latOf last) 0 6)).2 = LAT at HEb HS1
      have HE : Hid (EndOk true last ks LAS LAT) := HEb.out.2
      clear hbr hD1 hu1 HS
      have hbn := bnewL_any (.slice ak ks.length ck) ks _ w1 (hks.grow HS1.out.2.2.1) hkr
      go_wp2_with fail
      refine hbn.mono ?_
      rintro e w2 ⟨sb, sg, rfl, hS2, hg2, hsg, hsb⟩
      have hne : sb ≠ b ∧ sb ≠ bl ∧ sb ≠ bt ∧ sg ≠ bl ∧ sg ≠ bt := by have := HS1.out; omega
      have HSB : Hid (w1.heap.size ≤ sb ∧ w.heap.size ≤ sb) := ⟨hsb, by have := HS1.out.2.2.1.size; omega⟩
      have hcr := dcrash_any w2 (fun i => ((i ≠ b ∧ i ≠ bl ∧ i ≠ bt) ∧ i ≠ gL) ∧ i ≠ sb) b bl bt s LAS LAT [] ((HS1.out.1.beside (x := sb) hsb).grow hg2) 0 6 (by decide) (by decide) sb sg ks hS2 hne (fun hh => hh.2 rfl)
      rw [HEb.out.1] at hcr
      have hcr' : Calls Try.prog 22 #[.pointer (some ⟨b, 0, none⟩), .int .i64 0, .int .i64 6, .pointer (some ⟨sb, 0, none⟩)] w2 fun e w' => ∃ n, e = .returned (.tuple #[]) ∧ DevAt w' (fun i => ((i ≠ b ∧ i ≠ bl ∧ i ≠ bt) ∧ i ≠ gL) ∧ i ≠ sb) b bl bt s LAS LAT [] ∧ StrAt w' sb sg ks n ∧ UpdS (fun i => i = bl ∨ i = bt ∨ i = sb) w2 w' := hcr
      have HQ2 : Hid (RowsV (fun i => (i ≠ b ∧ i ≠ bl ∧ i ≠ bt) ∧ i ≠ sb) w2 (.slice (some ⟨gL, oL, none⟩) 6 cL) last ∧ Grow w w2) := ⟨(HS1.out.2.1.mono (fun k hk hh => ⟨hh, by omega⟩)).grow hg2, HS1.out.2.2.1.trans hg2⟩
      clear hS2 hg2 hsg hsb hbn hcr HEb
      go_wp2_with fail
      refine hcr'.mono ?_
      rintro e w3 ⟨n3, rfl, hD3, -, hu3⟩
      have HP : Hid (DevAt w3 (fun i => (i ≠ b ∧ i ≠ bl ∧ i ≠ bt) ∧ i ≠ gL) b bl bt s LAS LAT [] ∧ RowsV (fun i => i ≠ b ∧ i ≠ bl ∧ i ≠ bt) w3 (.slice (some ⟨gL, oL, none⟩) 6 cL) last ∧ Grow w w3) := by
        have h1 := HS1.out
        have h2 := HBW.out
        have h3 := HSB.out
        exact ⟨hD3.back (by omega), (HQ2.out.1.upd hu3 (fun k _ hk hh => by omega)).mono (fun k _ hk => hk.1), UpdS.new HQ2.out.2 hu3 (fun k hk => by omega)⟩
      clear hD3 hu3 hcr' HQ2 HS1 HSB HBl
      go_wp2
      go_loopg [15, 16] 6 (fun g k i wr => ∃ j kk : Nat, g = 6 - j ∧ j ≤ 6 ∧ (k = .int .i64 kk ∧ Hid (kk = 0)) ∧ i = .int .i64 j ∧ Hid (DevAt wr (fun i => (i ≠ b ∧ i ≠ bl ∧ i ≠ bt) ∧ i ≠ gL) b bl bt s LAS LAT [] ∧ RowsV (fun i => i ≠ b ∧ i ≠ bl ∧ i ≠ bt) wr (.slice (some ⟨gL, oL, none⟩) 6 cL) last ∧ Grow w wr))
      case atStart => exact ⟨0, 0, rfl, Nat.zero_le _, ⟨rfl, rfl⟩, rfl, HP⟩
      case round =>
        obtain ⟨j, kk, hk, hj, ⟨rfl, HKK⟩, rfl, HI⟩ := hrel
        by_cases hj6 : j < 6
        · have hj6' : (j : Int) < 6 := by omega
          have HJ : Hid (j < 6 ∧ gk = 6 - j) := ⟨hj6, hk⟩
          have hwk : (Lit.int .i64 (j : Int)).wf = true := wfI (by omega)
          have HKB : Hid (kk ≤ 6) := by show kk ≤ 6; have := HKK.out; omega
          obtain ⟨b9, o9, ai, ci, e9, hb9, hcl, hrl⟩ := HI.out.2.1.at (show j < last.length by rw [HL.out.1]; exact hj6)
          injection e9 with e9
          injection e9 with e9a e9b
          subst e9a e9b
          clear hk hj6
          have hkw : IntKind.i64.wrap ((kk : Int) + 1) = (kk : Int) + 1 := by rw [IntKind.wrap_i64]; have := HKB.out; omega
          by_cases hz : last.getD j [] = []
          · rw [hz] at hcl
            simp only [List.length_nil] at hcl
            have hcl' : ∀ w', Grow wr w' → w'.cell? ⟨gL, oL + j, none⟩ = some (.slice ai 0 ci) := fun w' g => by rw [Below.cell (p := ⟨gL, oL + j, none⟩) g hb9]; exact hcl
            have HWn : Hid (wantB true last ks j = List.replicate 16 0) := wantB_none hz
            have HK2 : Hid (kk = 0) := by
              show kk = _
              exact HKK.out
            clear hz hrl
            go_wp2_with (at_make; refine wpList_makeV rfl (.const (.int .i64 16)) (.const (.int .i64 16)) 29 rfl (Value.int .u8) 0 5 i0 Try.underlying29 hi0 hz0 rfl 1 hz1 hz2 .i64 .i64 16 16 rfl rfl rfl (by omega) (by omega) ?_)
            intro vw wb how hgw hltw
            have hclb := hcl' wb hgw
            have HSb : Hid ((DevAt wb (fun i => (i ≠ b ∧ i ≠ bl ∧ i ≠ bt) ∧ i ≠ gL) b bl bt s LAS LAT [] ∧ RowsV (fun i => i ≠ b ∧ i ≠ bl ∧ i ≠ bt) wb (.slice (some ⟨gL, oL, none⟩) 6 cL) last ∧ Grow w wb) ∧ RdV (Value.int .u8) 0 (fun i => i = wr.heap.size) wb vw (List.replicate 16 0)) := ⟨⟨HI.out.1.grow hgw, HI.out.2.1.grow hgw, HI.out.2.2.trans hgw⟩, how.rd⟩
            clear how hgw hltw hcl hcl' hb9
            have hE := HE.out.1 j (by have := HJ.out; omega)
            rw [HWn.out] at hE
            have r1 := dread_any wb (fun i => (i ≠ b ∧ i ≠ bl ∧ i ≠ bt) ∧ i ≠ gL) b bl bt s LAS LAT [] HSb.out.1.1 j hwk
            have r2 := fun w' (g : Grow wb w') => dlasting_any w' (fun i => (i ≠ b ∧ i ≠ bl ∧ i ≠ bt) ∧ i ≠ gL) b bl bt s LAS LAT [] (HSb.out.1.1.grow g) j hwk
            rw [hE.1] at r1
            rw [hE.2] at r2
            clear hE
            go_wp2_with fail
            refine r1.mono ?_
            rintro e wc ⟨vc, rfl, hoc1, hgc⟩
            go_wp2_with fail
            refine (r2 wc hgc).mono ?_
            rintro e wd ⟨vd, rfl, hod, hgd⟩
            have s1 := (Rd.below hoc1.rd hgd).string (P := Try.prog) 29 9 5 Try.underlying29 Try.underlying5 Try.underlying9
            have s2 := hod.rd.string (P := Try.prog) 29 9 5 Try.underlying29 Try.underlying5 Try.underlying9
            have s3 := ((HSb.out.2.grow (Grow.trans hgc hgd)).i).string (P := Try.prog) 29 9 5 Try.underlying29 Try.underlying5 Try.underlying9
            have HId : Hid (DevAt wd (fun i => (i ≠ b ∧ i ≠ bl ∧ i ≠ bt) ∧ i ≠ gL) b bl bt s LAS LAT [] ∧ RowsV (fun i => i ≠ b ∧ i ≠ bl ∧ i ≠ bt) wd (.slice (some ⟨gL, oL, none⟩) 6 cL) last ∧ Grow w wd) := ⟨HSb.out.1.1.grow (Grow.trans hgc hgd), HSb.out.1.2.1.grow (Grow.trans hgc hgd), HSb.out.1.2.2.trans (Grow.trans hgc hgd)⟩
            clear r1 r2 hoc1 hgc hod hgd HSb
            go_wp2
            go_roundg (6 - (j + 1))
            case measure => have := HJ.out; omega
            case rel => exact ⟨j + 1, kk, rfl, by have := HJ.out; omega, ⟨rfl, HK2⟩, by go_num, HId⟩
          · have h16 := HL.out.2 j hz
            rw [h16.1] at hcl hrl
            have hcl' : ∀ w', Grow wr w' → w'.cell? ⟨gL, oL + j, none⟩ = some (.slice ai 16 ci) := fun w' g => by rw [Below.cell (p := ⟨gL, oL + j, none⟩) g hb9]; exact hcl
            have HWn : Hid (wantB true last ks j = last.getD j []) := wantB_yes hz rfl
            go_wp2_with (at_make; refine wpList_makeV rfl (.const (.int .i64 16)) (.const (.int .i64 16)) 29 rfl (Value.int .u8) 0 5 i0 Try.underlying29 hi0 hz0 rfl 1 hz1 hz2 .i64 .i64 16 16 rfl rfl rfl (by omega) (by omega) ?_)
            intro vw wb how hgw hltw
            have hclb := hcl' wb hgw
            have HSb : Hid ((DevAt wb (fun i => (i ≠ b ∧ i ≠ bl ∧ i ≠ bt) ∧ i ≠ gL) b bl bt s LAS LAT [] ∧ RowsV (fun i => i ≠ b ∧ i ≠ bl ∧ i ≠ bt) wb (.slice (some ⟨gL, oL, none⟩) 6 cL) last ∧ Grow w wb) ∧ RdV (Value.int .u8) 0 (fun i => i ≠ b ∧ i ≠ bl ∧ i ≠ bt) wb (.slice ai 16 ci) (last.getD j [])) := ⟨⟨HI.out.1.grow hgw, HI.out.2.1.grow hgw, HI.out.2.2.trans hgw⟩, hrl.grow hgw⟩
            obtain ⟨avw, cvw, hvw⟩ := how.shape
            have hvw' : vw = .slice avw 16 cvw := hvw
            clear hvw
            subst hvw'
            clear how hltw hcl hcl' hb9
            clear hgw hrl hz
            have hE := HE.out.1 j (by have := HJ.out; omega)
            rw [HWn.out] at hE
            have r1 := dread_any wb (fun i => (i ≠ b ∧ i ≠ bl ∧ i ≠ bt) ∧ i ≠ gL) b bl bt s LAS LAT [] HSb.out.1.1 j hwk
            have r2 := fun w' (g : Grow wb w') => dlasting_any w' (fun i => (i ≠ b ∧ i ≠ bl ∧ i ≠ bt) ∧ i ≠ gL) b bl bt s LAS LAT [] (HSb.out.1.1.grow g) j hwk
            rw [hE.1] at r1
            rw [hE.2] at r2
            clear hE
            go_wp2_with fail
            refine r1.mono ?_
            rintro e wc ⟨vc, rfl, hoc1, hgc⟩
            go_wp2_with fail
            refine (r2 wc hgc).mono ?_
            rintro e wd ⟨vd, rfl, hod, hgd⟩
            have s1 := (Rd.below hoc1.rd hgd).string (P := Try.prog) 29 9 5 Try.underlying29 Try.underlying5 Try.underlying9
            have s2 := hod.rd.string (P := Try.prog) 29 9 5 Try.underlying29 Try.underlying5 Try.underlying9
            have s3 := ((HSb.out.2.grow (Grow.trans hgc hgd)).i).string (P := Try.prog) 29 9 5 Try.underlying29 Try.underlying5 Try.underlying9
            have HId : Hid (DevAt wd (fun i => (i ≠ b ∧ i ≠ bl ∧ i ≠ bt) ∧ i ≠ gL) b bl bt s LAS LAT [] ∧ RowsV (fun i => i ≠ b ∧ i ≠ bl ∧ i ≠ bt) wd (.slice (some ⟨gL, oL, none⟩) 6 cL) last ∧ Grow w wd) := ⟨HSb.out.1.1.grow (Grow.trans hgc hgd), HSb.out.1.2.1.grow (Grow.trans hgc hgd), HSb.out.1.2.2.trans (Grow.trans hgc hgd)⟩
            clear r1 r2 hoc1 hgc hod hgd HSb
            go_wp2
            go_roundg (6 - (j + 1))
            case measure => have := HJ.out; omega
            case rel => exact ⟨j + 1, kk, rfl, by have := HJ.out; omega, ⟨rfl, HKK⟩, by go_num, HId⟩
        · obtain rfl : j = 6 := by omega
          have hlt := dlater_any wr _ b bl bt s LAS LAT [] HI.out.1 0 6 (by decide) (by decide)
          rw [HE.out.2] at hlt
          clear hk hj6
          go_wp2_with fail
          refine hlt.mono ?_
          rintro e w6 ⟨v6, rfl, ho6, hg6⟩
          obtain ⟨a6, c6, rfl⟩ := ho6.shape
          simp only [List.length_nil]
          have HG6 : Hid (Grow w w6) := HI.out.2.2.trans hg6
          clear ho6 hg6 hlt
          go_wp2_with fail
          refine (dlives_any w6).mono ?_
          rintro e w7 ⟨rfl, hg7⟩
          go_wp2
          go_ret
          exact ⟨rfl, HG6.out.trans hg7⟩

end Go.Proofs.Ytpkoiogdkaklfaa
