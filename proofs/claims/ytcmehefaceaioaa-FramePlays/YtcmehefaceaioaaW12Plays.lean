/-
  The walk of FramePlays. Conditions: the theorem's own.
-/
import Derived.Test.YtcmehefaceaioaaFraV
import Derived.Test.YtcmehefaceaioaaFraOs
import Derived.Deep.LoopGhost
import Derived.Deep.CutRange
namespace Go.Proofs.Ytcmehefaceaioaa
open Go.RowKit
set_option linter.unusedVariables false
set_option linter.unusedSimpArgs false

theorem free_eq {p : Int} (h : 0 ≤ p) : decide (p ≤ 0) = (p == 0) := by
  by_cases h0 : p = 0
  · subst h0; rfl
  · rw [decide_eq_false (by omega), beq_eq_false_iff_ne.2 h0]

set_option maxRecDepth 16000 in
set_option maxHeartbeats 8000000 in
theorem framePlays_walk (ao : Option Addr) (co : Nat) (os : List DV) (w : World) (hos : RdS DV.cs 5 (fun i => i < w.heap.size) w (.slice ao os.length co) os) (hok : ∀ z ∈ os, DV.Ok w z) :
    Calls Try.prog 3 #[.slice ao os.length co] w fun e w' => e = .returned (.bool true) ∧ Grow w w' := by
  have hol := hos.len
  have hoc := hos.caps.2
  unfold maxLen at hol hoc
  obtain ⟨W1, hW1⟩ : ∃ W1, w.alloc (.cells zeroF 28) = W1 := ⟨_, rfl⟩
  have F1 := FrAt.new w 28
  rw [hW1] at F1
  have g1 : Grow w W1 := by rw [← hW1]; exact (Grow.refl w).alloc _
  obtain ⟨b, hb⟩ : ∃ b, w.heap.size = b := ⟨_, rfl⟩
  rw [hb] at F1
  have hE := rempty_any W1
  go_enter Try.func3, Try.ntmps3
  go_wp2_with fail
  (try rw [zeroF_lit])
  (try rw [hW1])
  (try rw [hb])
  refine hE.mono ?_
  rintro e w2 ⟨rfl, g2⟩
  obtain ⟨W3, hW3⟩ : ∃ W3, w2.alloc (.cells #[.bool false, .bool false, .bool false, .int .i64 0, .int .i64 0, .string (strOfNums z32)] 30) = W3 := ⟨_, rfl⟩
  obtain ⟨B, hB⟩ : ∃ B, w2.heap.size = B := ⟨_, rfl⟩
  have V3 : VarAt W3 B [.bool false, .bool false, .bool false, .int .i64 0, .int .i64 0, .string (strOfNums z32)] := by rw [← hW3, ← hB]; exact VarAt.new w2 [.bool false, .bool false, .bool false, .int .i64 0, .int .i64 0, .string (strOfNums z32)] 30
  have g3 : Grow w2 W3 := by rw [← hW3]; exact (Grow.refl w2).alloc _
  have HB : Hid (w.heap.size ≤ b ∧ b < B) := ⟨by omega, by have h1 := F1.lt; have h2 := g2.size; omega⟩
  have H3 : Hid (∃ u d r p q bs, FS.Ok ⟨u, d, r, p, q, bs⟩ ∧ FrAt W3 b u d r p q bs ∧ VarAt W3 B [.bool u, .bool d, .bool r, .int .i64 p, .int .i64 q, .string (strOfNums bs)] ∧ Grow w W3) := ⟨_, _, _, _, _, _, FS.empty_ok, (F1.grow g2).grow g3, V3, (g1.trans g2).trans g3⟩
  clear F1 g1 hE g2 V3 g3 hb
  go_upto_region 3 with fail
  (try rw [hW3])
  (try rw [hB])
  clear hW3 hB hW1
  go_wp2
  go_loopg [5] 20 (fun k i wr => ∃ j : Nat, k = 20 - j ∧ j ≤ 20 ∧ i = .int .i64 j ∧ Hid (∃ u d r p q bs, FS.Ok ⟨u, d, r, p, q, bs⟩ ∧ FrAt wr b u d r p q bs ∧ VarAt wr B [.bool u, .bool d, .bool r, .int .i64 p, .int .i64 q, .string (strOfNums bs)] ∧ Grow w wr))
  case atStart => exact ⟨0, rfl, Nat.zero_le _, rfl, H3⟩
  case round =>
    obtain ⟨j, hk, hj, rfl, HI⟩ := hrel
    have HK : Hid (gk = 20 - j) := hk
    clear hk H3
    by_cases hjo : j < os.length
    · have hjo' : (j : Int) < (os.length : Int) := by omega
      by_cases hj20 : j < 20
      · have hj20' : (j : Int) < 20 := by omega
        obtain ⟨u, d, r, p, q, bs, hs, hF, hV, hg⟩ := HI.out
        obtain ⟨bo, oo, z, rfl, hbo, hzok, -, hzc⟩ := ds_at hos hok hjo
        obtain ⟨zd, zp, zo, zn, zb⟩ := z
        obtain ⟨⟨hzd, hzp, hzo, hzn⟩, ys, hys, hyo⟩ := hzok
        simp only at hzc hzd hzp hzo hzn hys
        obtain ⟨ab, cb, hzb⟩ := hys.shape
        subst hzb
        have gd : Grow wr wr.drew := (Grow.refl wr).drew
        have HS : Hid (FrAt wr b u d r p q bs ∧ VarAt wr B [.bool u, .bool d, .bool r, .int .i64 p, .int .i64 q, .string (strOfNums bs)] ∧ Grow w wr ∧ B < wr.heap.size) := ⟨hF, hV, hg, hV.lt⟩
        have hq : ∀ W, Grow wr W → Calls Try.prog 10 #[FS.v ⟨u, d, r, p, q, bs⟩, .agg #[.int .i64 zd, .int .i64 zp, .int .i64 zo, .int .i64 zn, .slice ab ys.length cb]] W _ := fun W g => rdo_any ⟨u, d, r, p, q, bs⟩ hs zd zp zo zn hzd hzo hzn _ ys W ((hys.mono (fun i hi _ => by have := (hg.trans g).size; omega)).grow (hg.trans g)) hyo
        have hd : ∀ W, Grow w W → FrAt W b u d r p q bs → Calls Try.prog 11 #[.pointer (some ⟨b, 0, none⟩), .agg #[.int .i64 zd, .int .i64 zp, .int .i64 zo, .int .i64 zn, .slice ab ys.length cb]] W _ := fun W g hf => ldo_any ⟨u, d, r, p, q, bs⟩ hs b zd zp zo zn hzd hzo hzn _ ys W hf ((hys.mono (fun i hi _ => by have := HB.out; omega)).grow g) hyo
        have hs' := doS_ok (k := around zd 10) hs zp zo zn hyo
        generalize doS (around zd 10) ⟨u, d, r, p, q, bs⟩ zp zo zn ys = T at hq hd hs'
        obtain ⟨⟨u', d', r', p', q', bs'⟩, Z, E⟩ := T
        simp only [FS.v] at hq hd hs'
        have HP : Hid (0 ≤ p' ∧ FS.Ok ⟨u', d', r', p', q', bs'⟩) := ⟨hs'.2.2.1, hs'⟩
        have fx : ∀ w', UpdS (fun i => wr.heap.size ≤ i) wr.drew w' → ((w'.cell? ⟨B, 0, none⟩ = some (.bool u) ∧ w'.cell? ⟨B, 1, none⟩ = some (.bool d) ∧ w'.cell? ⟨B, 2, none⟩ = some (.bool r) ∧ w'.cell? ⟨B, 3, none⟩ = some (.int .i64 p) ∧ w'.cell? ⟨B, 4, none⟩ = some (.int .i64 q) ∧ w'.cell? ⟨B, 5, none⟩ = some (.string (strOfNums bs))) ∧ w'.cell? ⟨bo, oo + j * 5, none⟩ = some (.int .i64 zd) ∧ w'.cell? ⟨bo, oo + j * 5 + 1, none⟩ = some (.int .i64 zp) ∧ w'.cell? ⟨bo, oo + j * 5 + 2, none⟩ = some (.int .i64 zo) ∧ w'.cell? ⟨bo, oo + j * 5 + 3, none⟩ = some (.int .i64 zn) ∧ w'.cell? ⟨bo, oo + j * 5 + 4, none⟩ = some (.slice ab ys.length cb)) := fun w' g =>
          ⟨((HS.out.2.1.grow gd).upd g (by have := HS.out.2.2.2; omega)).six.1, hzc w' (UpdS.new (HS.out.2.2.1.trans gd) g (fun i hi => by have := HS.out.2.2.1.size; omega))⟩
        have HZ : Hid (∀ w', Grow w w' → (w'.cell? ⟨bo, oo + j * 5, none⟩ = some (.int .i64 zd) ∧ w'.cell? ⟨bo, oo + j * 5 + 1, none⟩ = some (.int .i64 zp) ∧ w'.cell? ⟨bo, oo + j * 5 + 2, none⟩ = some (.int .i64 zo) ∧ w'.cell? ⟨bo, oo + j * 5 + 3, none⟩ = some (.int .i64 zn) ∧ w'.cell? ⟨bo, oo + j * 5 + 4, none⟩ = some (.slice ab ys.length cb))) := hzc
        clear hs hF hV hg hzc hzd hzp hzo hzn hys hyo hs' HI
        go_wp2
        refine wp_region_treeG (UpdS (fun i => wr.heap.size ≤ i)) (UpdS.refl _) (fun _ _ _ => UpdS.trans) (by kernel_rfl) (.read 0 (.read 1 (.read 2 (.read 3 (.read 4 (.fork 5 (.read 6 (.read 7 (.read 8 (.read 9 (.act 10 (.act 11 (.read 12 (.read 13 .done)))))))) 10 (.act 5 (.read 6 (.read 7 (.read 8 (.read 9 (.act 11 (.read 12 (.read 13 .done)))))))))))))) (by kernel_rfl) (by kernel_rfl) rfl (fun _ _ d _ _ h => by cases d <;> exact h) ?_
        simp only [Tr.over, List.getElem?_toArray, List.getElem?_cons_zero, List.getElem?_cons_succ]
        repeat (first
          | (refine wpT_move rfl ?_; simp only [Act.eval, Act.put, Array.getD_eq_getD_getElem?, List.getElem?_toArray, List.getElem?_cons_zero, List.getElem?_cons_succ, Option.getD_some, List.setIfInBounds_toArray, List.set_cons_zero, List.set_cons_succ])
          | (refine wpT_assign rfl ?_; simp only [Act.eval, Act.put, Array.getD_eq_getD_getElem?, List.getElem?_toArray, List.getElem?_cons_zero, List.getElem?_cons_succ, Option.getD_some, List.setIfInBounds_toArray, List.set_cons_zero, List.set_cons_succ])
          | (refine wpT_read (v := ?_) rfl ?_ ?_; rotate_left; (focus (intro w' hG; obtain ⟨⟨q0, q1, q2, q3, q4, q5⟩, p0, p1, p2, p3, p4⟩ := fx w' hG; go_simp; try (with_reducible rfl))); simp only [Act.put, List.setIfInBounds_toArray, List.set_cons_zero, List.set_cons_succ])
          | (refine wpT_skip rfl ?_; simp only [Act.put, List.setIfInBounds_toArray, List.set_cons_zero, List.set_cons_succ]))
        refine wpT_fork ?_ ?_
        · skip
          have hq1 := hq wr.drew gd
          refine wpT_call (f := ?_) (args := ?_) (by rfl) ?_ ?_
          rotate_left 2; focus (go_simp; constructor <;> with_reducible rfl)
          refine (hq1).mono ?_
          rintro e w1 ⟨rfl, gg1⟩
          refine ⟨_, rfl, Grow.s gg1, ?_⟩
          simp only [Act.put, List.setIfInBounds_toArray, List.set_cons_zero, List.set_cons_succ]
          have gA1 : Grow wr w1 := gd.trans gg1
          repeat (first
            | (refine wpT_move rfl ?_; simp only [Act.eval, Act.put, Array.getD_eq_getD_getElem?, List.getElem?_toArray, List.getElem?_cons_zero, List.getElem?_cons_succ, Option.getD_some, List.setIfInBounds_toArray, List.set_cons_zero, List.set_cons_succ])
            | (refine wpT_assign rfl ?_; simp only [Act.eval, Act.put, Array.getD_eq_getD_getElem?, List.getElem?_toArray, List.getElem?_cons_zero, List.getElem?_cons_succ, Option.getD_some, List.setIfInBounds_toArray, List.set_cons_zero, List.set_cons_succ])
            | (refine wpT_read (v := ?_) rfl ?_ ?_; rotate_left; (focus (intro w' hG; skip; go_simp; try (with_reducible rfl))); simp only [Act.put, List.setIfInBounds_toArray, List.set_cons_zero, List.set_cons_succ])
            | (refine wpT_skip rfl ?_; simp only [Act.put, List.setIfInBounds_toArray, List.set_cons_zero, List.set_cons_succ]))
          refine wpT_act (by rfl) (exec_allocF #[.bool false, .bool false, .bool false, .int .i64 0, .int .i64 0, .string ⟨#[]⟩] zeroRF) (Grow.s ((Grow.refl _).alloc _)) ?_
          simp only [Act.put, List.setIfInBounds_toArray, List.set_cons_zero, List.set_cons_succ]
          have VV2 := VarAt.new w1 [.bool false, .bool false, .bool false, .int .i64 0, .int .i64 0, .string ⟨#[]⟩] 30
          have gg2 : Grow w1 (w1.alloc (.cells #[.bool false, .bool false, .bool false, .int .i64 0, .int .i64 0, .string ⟨#[]⟩] 30)) := (Grow.refl _).alloc _
          obtain ⟨w2, hw2⟩ : ∃ w2, w1.alloc (.cells #[.bool false, .bool false, .bool false, .int .i64 0, .int .i64 0, .string ⟨#[]⟩] 30) = w2 := ⟨_, rfl⟩
          obtain ⟨M, hM⟩ : ∃ M, w1.heap.size = M := ⟨_, rfl⟩
          have HM : Hid (wr.heap.size ≤ M) := by show wr.heap.size ≤ M; have := gA1.size; have e0 : wr.drew.heap.size = wr.heap.size := rfl; omega
          have VN2 : VarAt w2 M [.bool false, .bool false, .bool false, .int .i64 0, .int .i64 0, .string ⟨#[]⟩] := by rw [← hw2, ← hM]; exact VV2
          rw [hw2] at gg2 ⊢
          (try rw [show wr.drew.heap.size = wr.heap.size from rfl])
          (try rw [hM])
          have gA2 : Grow wr w2 := gA1.trans gg2
          clear VV2 hw2 hM
          obtain ⟨⟨y0, y1, y2, y3, y4, y5⟩, f0, f1, f2, f3, f4, f5⟩ := VN2.six
          have H2 : Hid (VarAt (put6 w2 M (.bool u') (.bool d') (.bool r') (.int .i64 p') (.int .i64 q') (.string (strOfNums bs'))) M [.bool u', .bool d', .bool r', .int .i64 p', .int .i64 q', .string (strOfNums bs')] ∧ VarAt (put6 w2 M (.bool u') (.bool d') (.bool r') (.int .i64 p') (.int .i64 q') (.string (strOfNums bs'))) B [.bool u, .bool d, .bool r, .int .i64 p, .int .i64 q, .string (strOfNums bs)] ∧ FrAt (put6 w2 M (.bool u') (.bool d') (.bool r') (.int .i64 p') (.int .i64 q') (.string (strOfNums bs'))) b u d r p q bs ∧ Grow w (put6 w2 M (.bool u') (.bool d') (.bool r') (.int .i64 p') (.int .i64 q') (.string (strOfNums bs')))) := by
            have hm := HM.out
            have hx := HS.out
            have hb := HB.out
            have u6 := upd_put6 w2 M (.bool u') (.bool d') (.bool r') (.int .i64 p') (.int .i64 q') (.string (strOfNums bs'))
            have hgs := hx.2.2.1.size
            exact ⟨VN2.put6 _ _ _ _ _ _, (hx.2.1.grow gA2).upd u6 (by omega), (hx.1.grow gA2).upd u6 (by omega), UpdS.new (hx.2.2.1.trans gA2) u6 (fun i hi => by omega)⟩
          refine wpT_store (w' := put6 w2 M (.bool u') (.bool d') (.bool r') (.int .i64 p') (.int .i64 q') (.string (strOfNums bs'))) (by rfl) (by unfold put6; go_simp) ((upd_put6 _ _ _ _ _ _ _ _).mono (fun i hi => by have := HM.out; omega)) ?_
          simp only [Act.put, List.setIfInBounds_toArray, List.set_cons_zero, List.set_cons_succ]
          clear y0 y1 y2 y3 y4 y5 f0 f1 f2 f3 f4 f5 fx hq
          generalize put6 w2 M (.bool u') (.bool d') (.bool r') (.int .i64 p') (.int .i64 q') (.string (strOfNums bs')) = W2 at H2 ⊢
          repeat (first
            | (refine wpT_move rfl ?_; simp only [Act.eval, Act.put, Array.getD_eq_getD_getElem?, List.getElem?_toArray, List.getElem?_cons_zero, List.getElem?_cons_succ, Option.getD_some, List.setIfInBounds_toArray, List.set_cons_zero, List.set_cons_succ])
            | (refine wpT_assign rfl ?_; simp only [Act.eval, Act.put, Array.getD_eq_getD_getElem?, List.getElem?_toArray, List.getElem?_cons_zero, List.getElem?_cons_succ, Option.getD_some, List.setIfInBounds_toArray, List.set_cons_zero, List.set_cons_succ])
            | (refine wpT_read (v := ?_) rfl ?_ ?_; rotate_left; (focus (intro w' hG; skip; go_simp; try (with_reducible rfl))); simp only [Act.put, List.setIfInBounds_toArray, List.set_cons_zero, List.set_cons_succ])
            | (refine wpT_skip rfl ?_; simp only [Act.put, List.setIfInBounds_toArray, List.set_cons_zero, List.set_cons_succ]))
          refine wpT_done ?_
          obtain ⟨⟨x0, x1, x2, x3, x4, x5⟩, -⟩ := H2.out.1.six
          obtain ⟨⟨y0, y1, y2, y3, y4, y5⟩, f0, f1, f2, f3, f4, f5⟩ := H2.out.2.1.six
          have H4 : Hid (VarAt (put6 W2 B (.bool u') (.bool d') (.bool r') (.int .i64 p') (.int .i64 q') (.string (strOfNums bs'))) B [.bool u', .bool d', .bool r', .int .i64 p', .int .i64 q', .string (strOfNums bs')] ∧ FrAt (put6 W2 B (.bool u') (.bool d') (.bool r') (.int .i64 p') (.int .i64 q') (.string (strOfNums bs'))) b u d r p q bs ∧ Grow w (put6 W2 B (.bool u') (.bool d') (.bool r') (.int .i64 p') (.int .i64 q') (.string (strOfNums bs')))) := by
            have hb := HB.out
            have u6 := upd_put6 W2 B (.bool u') (.bool d') (.bool r') (.int .i64 p') (.int .i64 q') (.string (strOfNums bs'))
            exact ⟨H2.out.2.1.put6 _ _ _ _ _ _, H2.out.2.2.1.upd u6 (by omega), UpdS.new H2.out.2.2.2 u6 (fun i hi => by omega)⟩
          go_upto_region 8 with fail
          rw [put6_eq]
          generalize put6 W2 B (.bool u') (.bool d') (.bool r') (.int .i64 p') (.int .i64 q') (.string (strOfNums bs')) = W4 at H4 ⊢
          clear x0 x1 x2 x3 x4 x5 y0 y1 y2 y3 y4 y5 f0 f1 f2 f3 f4 f5 H2
          have hdo := hd W4 H4.out.2.2 H4.out.2.1
          obtain ⟨p0, p1, p2, p3, p4⟩ := HZ.out W4 H4.out.2.2
          go_wp2_with fail
          refine hdo.mono ?_
          rintro e w5 ⟨rfl, F5, u5⟩
          have H5 : Hid (FrAt w5 b u' d' r' p' q' bs' ∧ VarAt w5 B [.bool u', .bool d', .bool r', .int .i64 p', .int .i64 q', .string (strOfNums bs')] ∧ Grow w w5) := ⟨F5, H4.out.1.upd u5 (by have := HB.out; omega), UpdS.new H4.out.2.2 u5 (fun i hi => by have := HB.out; omega)⟩
          have g5 : Grow w5 w5.drew := (Grow.refl w5).drew
          have hA := as_any w5.drew b _ _ _ _ _ _ (H5.out.1.grow g5)
          have hf := fun w' (g : Grow w5.drew w') => free_any w' b _ _ _ _ _ _ ((H5.out.1.grow g5).grow g)
          simp only [free_eq HP.out.1] at hf
          have fy : ∀ w', Grow w5.drew w' → (w'.cell? ⟨B, 0, none⟩ = some (.bool u') ∧ w'.cell? ⟨B, 1, none⟩ = some (.bool d') ∧ w'.cell? ⟨B, 2, none⟩ = some (.bool r') ∧ w'.cell? ⟨B, 3, none⟩ = some (.int .i64 p') ∧ w'.cell? ⟨B, 4, none⟩ = some (.int .i64 q') ∧ w'.cell? ⟨B, 5, none⟩ = some (.string (strOfNums bs'))) := fun w' g => ((H5.out.2.1.grow g5).grow g).six.1
          clear hd hdo p0 p1 p2 p3 p4 F5 u5 H4
          go_wp2
          refine wp_region_sched (by kernel_rfl) [(0, false), (1, false), (2, false), (3, false), (4, false), (5, false), (6, false), (7, false), (8, false), (9, false), (11, false), (10, true), (12, false), (13, false), (14, false), (15, false), (16, false), (17, false), (19, false), (20, false), (21, false), (18, true), (22, false), (23, false)] (by kernel_rfl) (by kernel_rfl) rfl (fun _ _ d _ _ h => by cases d <;> exact h) ?_
          simp only [inOrder, List.filterMap_cons, List.filterMap_nil, List.getElem?_toArray, List.getElem?_cons_zero, List.getElem?_cons_succ, Option.map_some]
          repeat (first
            | (refine wpS_move rfl ?_; simp only [Act.eval, Act.put, Array.getD_eq_getD_getElem?, List.getElem?_toArray, List.getElem?_cons_zero, List.getElem?_cons_succ, Option.getD_some, List.setIfInBounds_toArray, List.set_cons_zero, List.set_cons_succ])
            | (refine wpS_assign rfl ?_; simp only [Act.eval, Act.put, Array.getD_eq_getD_getElem?, List.getElem?_toArray, List.getElem?_cons_zero, List.getElem?_cons_succ, Option.getD_some, List.setIfInBounds_toArray, List.set_cons_zero, List.set_cons_succ])
            | (refine wpS_read (v := ?_) rfl ?_ ?_; rotate_left; (focus (intro w' hG; obtain ⟨q0, q1, q2, q3, q4, q5⟩ := fy w' hG; go_simp; try (with_reducible rfl))); simp only [Act.put, List.setIfInBounds_toArray, List.set_cons_zero, List.set_cons_succ])
            | (refine wpS_skip rfl ?_; simp only [Act.put, List.setIfInBounds_toArray, List.set_cons_zero, List.set_cons_succ]))
          refine wpS_call (f := ?_) (args := ?_) (by rfl) ?_ ?_
          rotate_left 2; focus (go_simp; constructor <;> with_reducible rfl)
          refine (hA).mono ?_
          rintro e w6 ⟨rfl, g6⟩
          refine ⟨_, rfl, g6, ?_⟩
          simp only [Act.put, List.setIfInBounds_toArray, List.set_cons_zero, List.set_cons_succ]
          have fz : ∀ w', Grow w6 w' → (w'.cell? ⟨B, 0, none⟩ = some (.bool u') ∧ w'.cell? ⟨B, 1, none⟩ = some (.bool d') ∧ w'.cell? ⟨B, 2, none⟩ = some (.bool r') ∧ w'.cell? ⟨B, 3, none⟩ = some (.int .i64 p') ∧ w'.cell? ⟨B, 4, none⟩ = some (.int .i64 q') ∧ w'.cell? ⟨B, 5, none⟩ = some (.string (strOfNums bs'))) := fun w' g => fy w' (g6.trans g)
          have hf6 := hf w6 g6
          repeat (first
            | (refine wpS_move rfl ?_; simp only [Act.eval, Act.put, Array.getD_eq_getD_getElem?, List.getElem?_toArray, List.getElem?_cons_zero, List.getElem?_cons_succ, Option.getD_some, List.setIfInBounds_toArray, List.set_cons_zero, List.set_cons_succ])
            | (refine wpS_assign rfl ?_; simp only [Act.eval, Act.put, Array.getD_eq_getD_getElem?, List.getElem?_toArray, List.getElem?_cons_zero, List.getElem?_cons_succ, Option.getD_some, List.setIfInBounds_toArray, List.set_cons_zero, List.set_cons_succ])
            | (refine wpS_read (v := ?_) rfl ?_ ?_; rotate_left; (focus (intro w' hG; obtain ⟨q0, q1, q2, q3, q4, q5⟩ := fz w' hG; go_simp; try (with_reducible rfl))); simp only [Act.put, List.setIfInBounds_toArray, List.set_cons_zero, List.set_cons_succ])
            | (refine wpS_skip rfl ?_; simp only [Act.put, List.setIfInBounds_toArray, List.set_cons_zero, List.set_cons_succ]))
          refine wpS_call (f := ?_) (args := ?_) (by rfl) ?_ ?_
          rotate_left 2; focus (go_simp; constructor <;> with_reducible rfl)
          refine (hf6).mono ?_
          rintro e w7 ⟨rfl, rfl⟩
          refine ⟨_, rfl, Grow.refl _, ?_⟩
          simp only [Act.put, List.setIfInBounds_toArray, List.set_cons_zero, List.set_cons_succ]
          repeat (first
            | (refine wpS_move rfl ?_; simp only [Act.eval, Act.put, Array.getD_eq_getD_getElem?, List.getElem?_toArray, List.getElem?_cons_zero, List.getElem?_cons_succ, Option.getD_some, List.setIfInBounds_toArray, List.set_cons_zero, List.set_cons_succ])
            | (refine wpS_assign rfl ?_; simp only [Act.eval, Act.put, Array.getD_eq_getD_getElem?, List.getElem?_toArray, List.getElem?_cons_zero, List.getElem?_cons_succ, Option.getD_some, List.setIfInBounds_toArray, List.set_cons_zero, List.set_cons_succ])
            | (refine wpS_read (v := ?_) rfl ?_ ?_; rotate_left; (focus (intro w' hG; skip; go_simp; try (with_reducible rfl))); simp only [Act.put, List.setIfInBounds_toArray, List.set_cons_zero, List.set_cons_succ])
            | (refine wpS_skip rfl ?_; simp only [Act.put, List.setIfInBounds_toArray, List.set_cons_zero, List.set_cons_succ]))
          refine wpS_nil ?_
          have H6 : Hid (∃ u d r p q bs, FS.Ok ⟨u, d, r, p, q, bs⟩ ∧ FrAt w6 b u d r p q bs ∧ VarAt w6 B [.bool u, .bool d, .bool r, .int .i64 p, .int .i64 q, .string (strOfNums bs)] ∧ Grow w w6) := ⟨_, _, _, _, _, _, HP.out.2, (H5.out.1.grow g5).grow g6, (H5.out.2.1.grow g5).grow g6, (H5.out.2.2.trans g5).trans g6⟩
          clear fy fz hA hf hf6 g6 H5
          go_wp2
          go_roundg (20 - (j + 1))
          case measure => have := HK.out; omega
          case rel => exact ⟨j + 1, rfl, by omega, by go_num, H6⟩
        · skip
          refine wpT_act (by rfl) (exec_allocF #[.bool false, .bool false, .bool false, .int .i64 0, .int .i64 0, .string ⟨#[]⟩] zeroRF) (Grow.s ((Grow.refl _).alloc _)) ?_
          simp only [Act.put, List.setIfInBounds_toArray, List.set_cons_zero, List.set_cons_succ]
          have VV1 := VarAt.new wr.drew [.bool false, .bool false, .bool false, .int .i64 0, .int .i64 0, .string ⟨#[]⟩] 30
          have gg1 : Grow wr.drew (wr.drew.alloc (.cells #[.bool false, .bool false, .bool false, .int .i64 0, .int .i64 0, .string ⟨#[]⟩] 30)) := (Grow.refl _).alloc _
          obtain ⟨w1, hw1⟩ : ∃ w1, wr.drew.alloc (.cells #[.bool false, .bool false, .bool false, .int .i64 0, .int .i64 0, .string ⟨#[]⟩] 30) = w1 := ⟨_, rfl⟩
          obtain ⟨M, hM⟩ : ∃ M, wr.heap.size = M := ⟨_, rfl⟩
          have HM : Hid (wr.heap.size ≤ M) := by show wr.heap.size ≤ M; have := gd.size; have e0 : wr.drew.heap.size = wr.heap.size := rfl; omega
          have VN1 : VarAt w1 M [.bool false, .bool false, .bool false, .int .i64 0, .int .i64 0, .string ⟨#[]⟩] := by rw [← hw1, ← hM]; exact VV1
          rw [hw1] at gg1 ⊢
          (try rw [show wr.drew.heap.size = wr.heap.size from rfl])
          (try rw [hM])
          have gA1 : Grow wr w1 := gd.trans gg1
          clear VV1 hw1 hM
          have hq2 := hq w1 gA1
          refine wpT_call (f := ?_) (args := ?_) (by rfl) ?_ ?_
          rotate_left 2; focus (go_simp; constructor <;> with_reducible rfl)
          refine (hq2).mono ?_
          rintro e w2 ⟨rfl, gg2⟩
          refine ⟨_, rfl, Grow.s gg2, ?_⟩
          simp only [Act.put, List.setIfInBounds_toArray, List.set_cons_zero, List.set_cons_succ]
          have gA2 : Grow wr w2 := gA1.trans gg2
          have VN2 := VN1.grow gg2
          repeat (first
            | (refine wpT_move rfl ?_; simp only [Act.eval, Act.put, Array.getD_eq_getD_getElem?, List.getElem?_toArray, List.getElem?_cons_zero, List.getElem?_cons_succ, Option.getD_some, List.setIfInBounds_toArray, List.set_cons_zero, List.set_cons_succ])
            | (refine wpT_assign rfl ?_; simp only [Act.eval, Act.put, Array.getD_eq_getD_getElem?, List.getElem?_toArray, List.getElem?_cons_zero, List.getElem?_cons_succ, Option.getD_some, List.setIfInBounds_toArray, List.set_cons_zero, List.set_cons_succ])
            | (refine wpT_read (v := ?_) rfl ?_ ?_; rotate_left; (focus (intro w' hG; skip; go_simp; try (with_reducible rfl))); simp only [Act.put, List.setIfInBounds_toArray, List.set_cons_zero, List.set_cons_succ])
            | (refine wpT_skip rfl ?_; simp only [Act.put, List.setIfInBounds_toArray, List.set_cons_zero, List.set_cons_succ]))
          obtain ⟨⟨y0, y1, y2, y3, y4, y5⟩, f0, f1, f2, f3, f4, f5⟩ := VN2.six
          have H2 : Hid (VarAt (put6 w2 M (.bool u') (.bool d') (.bool r') (.int .i64 p') (.int .i64 q') (.string (strOfNums bs'))) M [.bool u', .bool d', .bool r', .int .i64 p', .int .i64 q', .string (strOfNums bs')] ∧ VarAt (put6 w2 M (.bool u') (.bool d') (.bool r') (.int .i64 p') (.int .i64 q') (.string (strOfNums bs'))) B [.bool u, .bool d, .bool r, .int .i64 p, .int .i64 q, .string (strOfNums bs)] ∧ FrAt (put6 w2 M (.bool u') (.bool d') (.bool r') (.int .i64 p') (.int .i64 q') (.string (strOfNums bs'))) b u d r p q bs ∧ Grow w (put6 w2 M (.bool u') (.bool d') (.bool r') (.int .i64 p') (.int .i64 q') (.string (strOfNums bs')))) := by
            have hm := HM.out
            have hx := HS.out
            have hb := HB.out
            have u6 := upd_put6 w2 M (.bool u') (.bool d') (.bool r') (.int .i64 p') (.int .i64 q') (.string (strOfNums bs'))
            have hgs := hx.2.2.1.size
            exact ⟨VN2.put6 _ _ _ _ _ _, (hx.2.1.grow gA2).upd u6 (by omega), (hx.1.grow gA2).upd u6 (by omega), UpdS.new (hx.2.2.1.trans gA2) u6 (fun i hi => by omega)⟩
          refine wpT_store (w' := put6 w2 M (.bool u') (.bool d') (.bool r') (.int .i64 p') (.int .i64 q') (.string (strOfNums bs'))) (by rfl) (by unfold put6; go_simp) ((upd_put6 _ _ _ _ _ _ _ _).mono (fun i hi => by have := HM.out; omega)) ?_
          simp only [Act.put, List.setIfInBounds_toArray, List.set_cons_zero, List.set_cons_succ]
          clear y0 y1 y2 y3 y4 y5 f0 f1 f2 f3 f4 f5 fx hq
          generalize put6 w2 M (.bool u') (.bool d') (.bool r') (.int .i64 p') (.int .i64 q') (.string (strOfNums bs')) = W2 at H2 ⊢
          repeat (first
            | (refine wpT_move rfl ?_; simp only [Act.eval, Act.put, Array.getD_eq_getD_getElem?, List.getElem?_toArray, List.getElem?_cons_zero, List.getElem?_cons_succ, Option.getD_some, List.setIfInBounds_toArray, List.set_cons_zero, List.set_cons_succ])
            | (refine wpT_assign rfl ?_; simp only [Act.eval, Act.put, Array.getD_eq_getD_getElem?, List.getElem?_toArray, List.getElem?_cons_zero, List.getElem?_cons_succ, Option.getD_some, List.setIfInBounds_toArray, List.set_cons_zero, List.set_cons_succ])
            | (refine wpT_read (v := ?_) rfl ?_ ?_; rotate_left; (focus (intro w' hG; skip; go_simp; try (with_reducible rfl))); simp only [Act.put, List.setIfInBounds_toArray, List.set_cons_zero, List.set_cons_succ])
            | (refine wpT_skip rfl ?_; simp only [Act.put, List.setIfInBounds_toArray, List.set_cons_zero, List.set_cons_succ]))
          refine wpT_done ?_
          obtain ⟨⟨x0, x1, x2, x3, x4, x5⟩, -⟩ := H2.out.1.six
          obtain ⟨⟨y0, y1, y2, y3, y4, y5⟩, f0, f1, f2, f3, f4, f5⟩ := H2.out.2.1.six
          have H4 : Hid (VarAt (put6 W2 B (.bool u') (.bool d') (.bool r') (.int .i64 p') (.int .i64 q') (.string (strOfNums bs'))) B [.bool u', .bool d', .bool r', .int .i64 p', .int .i64 q', .string (strOfNums bs')] ∧ FrAt (put6 W2 B (.bool u') (.bool d') (.bool r') (.int .i64 p') (.int .i64 q') (.string (strOfNums bs'))) b u d r p q bs ∧ Grow w (put6 W2 B (.bool u') (.bool d') (.bool r') (.int .i64 p') (.int .i64 q') (.string (strOfNums bs')))) := by
            have hb := HB.out
            have u6 := upd_put6 W2 B (.bool u') (.bool d') (.bool r') (.int .i64 p') (.int .i64 q') (.string (strOfNums bs'))
            exact ⟨H2.out.2.1.put6 _ _ _ _ _ _, H2.out.2.2.1.upd u6 (by omega), UpdS.new H2.out.2.2.2 u6 (fun i hi => by omega)⟩
          go_upto_region 8 with fail
          rw [put6_eq]
          generalize put6 W2 B (.bool u') (.bool d') (.bool r') (.int .i64 p') (.int .i64 q') (.string (strOfNums bs')) = W4 at H4 ⊢
          clear x0 x1 x2 x3 x4 x5 y0 y1 y2 y3 y4 y5 f0 f1 f2 f3 f4 f5 H2
          have hdo := hd W4 H4.out.2.2 H4.out.2.1
          obtain ⟨p0, p1, p2, p3, p4⟩ := HZ.out W4 H4.out.2.2
          go_wp2_with fail
          refine hdo.mono ?_
          rintro e w5 ⟨rfl, F5, u5⟩
          have H5 : Hid (FrAt w5 b u' d' r' p' q' bs' ∧ VarAt w5 B [.bool u', .bool d', .bool r', .int .i64 p', .int .i64 q', .string (strOfNums bs')] ∧ Grow w w5) := ⟨F5, H4.out.1.upd u5 (by have := HB.out; omega), UpdS.new H4.out.2.2 u5 (fun i hi => by have := HB.out; omega)⟩
          have g5 : Grow w5 w5.drew := (Grow.refl w5).drew
          have hA := as_any w5.drew b _ _ _ _ _ _ (H5.out.1.grow g5)
          have hf := fun w' (g : Grow w5.drew w') => free_any w' b _ _ _ _ _ _ ((H5.out.1.grow g5).grow g)
          simp only [free_eq HP.out.1] at hf
          have fy : ∀ w', Grow w5.drew w' → (w'.cell? ⟨B, 0, none⟩ = some (.bool u') ∧ w'.cell? ⟨B, 1, none⟩ = some (.bool d') ∧ w'.cell? ⟨B, 2, none⟩ = some (.bool r') ∧ w'.cell? ⟨B, 3, none⟩ = some (.int .i64 p') ∧ w'.cell? ⟨B, 4, none⟩ = some (.int .i64 q') ∧ w'.cell? ⟨B, 5, none⟩ = some (.string (strOfNums bs'))) := fun w' g => ((H5.out.2.1.grow g5).grow g).six.1
          clear hd hdo p0 p1 p2 p3 p4 F5 u5 H4
          go_wp2
          refine wp_region_sched (by kernel_rfl) [(0, false), (1, false), (2, false), (3, false), (4, false), (5, false), (6, false), (7, false), (8, false), (9, false), (11, false), (10, true), (12, false), (13, false), (14, false), (15, false), (16, false), (17, false), (19, false), (20, false), (21, false), (18, true), (22, false), (23, false)] (by kernel_rfl) (by kernel_rfl) rfl (fun _ _ d _ _ h => by cases d <;> exact h) ?_
          simp only [inOrder, List.filterMap_cons, List.filterMap_nil, List.getElem?_toArray, List.getElem?_cons_zero, List.getElem?_cons_succ, Option.map_some]
          repeat (first
            | (refine wpS_move rfl ?_; simp only [Act.eval, Act.put, Array.getD_eq_getD_getElem?, List.getElem?_toArray, List.getElem?_cons_zero, List.getElem?_cons_succ, Option.getD_some, List.setIfInBounds_toArray, List.set_cons_zero, List.set_cons_succ])
            | (refine wpS_assign rfl ?_; simp only [Act.eval, Act.put, Array.getD_eq_getD_getElem?, List.getElem?_toArray, List.getElem?_cons_zero, List.getElem?_cons_succ, Option.getD_some, List.setIfInBounds_toArray, List.set_cons_zero, List.set_cons_succ])
            | (refine wpS_read (v := ?_) rfl ?_ ?_; rotate_left; (focus (intro w' hG; obtain ⟨q0, q1, q2, q3, q4, q5⟩ := fy w' hG; go_simp; try (with_reducible rfl))); simp only [Act.put, List.setIfInBounds_toArray, List.set_cons_zero, List.set_cons_succ])
            | (refine wpS_skip rfl ?_; simp only [Act.put, List.setIfInBounds_toArray, List.set_cons_zero, List.set_cons_succ]))
          refine wpS_call (f := ?_) (args := ?_) (by rfl) ?_ ?_
          rotate_left 2; focus (go_simp; constructor <;> with_reducible rfl)
          refine (hA).mono ?_
          rintro e w6 ⟨rfl, g6⟩
          refine ⟨_, rfl, g6, ?_⟩
          simp only [Act.put, List.setIfInBounds_toArray, List.set_cons_zero, List.set_cons_succ]
          have fz : ∀ w', Grow w6 w' → (w'.cell? ⟨B, 0, none⟩ = some (.bool u') ∧ w'.cell? ⟨B, 1, none⟩ = some (.bool d') ∧ w'.cell? ⟨B, 2, none⟩ = some (.bool r') ∧ w'.cell? ⟨B, 3, none⟩ = some (.int .i64 p') ∧ w'.cell? ⟨B, 4, none⟩ = some (.int .i64 q') ∧ w'.cell? ⟨B, 5, none⟩ = some (.string (strOfNums bs'))) := fun w' g => fy w' (g6.trans g)
          have hf6 := hf w6 g6
          repeat (first
            | (refine wpS_move rfl ?_; simp only [Act.eval, Act.put, Array.getD_eq_getD_getElem?, List.getElem?_toArray, List.getElem?_cons_zero, List.getElem?_cons_succ, Option.getD_some, List.setIfInBounds_toArray, List.set_cons_zero, List.set_cons_succ])
            | (refine wpS_assign rfl ?_; simp only [Act.eval, Act.put, Array.getD_eq_getD_getElem?, List.getElem?_toArray, List.getElem?_cons_zero, List.getElem?_cons_succ, Option.getD_some, List.setIfInBounds_toArray, List.set_cons_zero, List.set_cons_succ])
            | (refine wpS_read (v := ?_) rfl ?_ ?_; rotate_left; (focus (intro w' hG; obtain ⟨q0, q1, q2, q3, q4, q5⟩ := fz w' hG; go_simp; try (with_reducible rfl))); simp only [Act.put, List.setIfInBounds_toArray, List.set_cons_zero, List.set_cons_succ])
            | (refine wpS_skip rfl ?_; simp only [Act.put, List.setIfInBounds_toArray, List.set_cons_zero, List.set_cons_succ]))
          refine wpS_call (f := ?_) (args := ?_) (by rfl) ?_ ?_
          rotate_left 2; focus (go_simp; constructor <;> with_reducible rfl)
          refine (hf6).mono ?_
          rintro e w7 ⟨rfl, rfl⟩
          refine ⟨_, rfl, Grow.refl _, ?_⟩
          simp only [Act.put, List.setIfInBounds_toArray, List.set_cons_zero, List.set_cons_succ]
          repeat (first
            | (refine wpS_move rfl ?_; simp only [Act.eval, Act.put, Array.getD_eq_getD_getElem?, List.getElem?_toArray, List.getElem?_cons_zero, List.getElem?_cons_succ, Option.getD_some, List.setIfInBounds_toArray, List.set_cons_zero, List.set_cons_succ])
            | (refine wpS_assign rfl ?_; simp only [Act.eval, Act.put, Array.getD_eq_getD_getElem?, List.getElem?_toArray, List.getElem?_cons_zero, List.getElem?_cons_succ, Option.getD_some, List.setIfInBounds_toArray, List.set_cons_zero, List.set_cons_succ])
            | (refine wpS_read (v := ?_) rfl ?_ ?_; rotate_left; (focus (intro w' hG; skip; go_simp; try (with_reducible rfl))); simp only [Act.put, List.setIfInBounds_toArray, List.set_cons_zero, List.set_cons_succ])
            | (refine wpS_skip rfl ?_; simp only [Act.put, List.setIfInBounds_toArray, List.set_cons_zero, List.set_cons_succ]))
          refine wpS_nil ?_
          have H6 : Hid (∃ u d r p q bs, FS.Ok ⟨u, d, r, p, q, bs⟩ ∧ FrAt w6 b u d r p q bs ∧ VarAt w6 B [.bool u, .bool d, .bool r, .int .i64 p, .int .i64 q, .string (strOfNums bs)] ∧ Grow w w6) := ⟨_, _, _, _, _, _, HP.out.2, (H5.out.1.grow g5).grow g6, (H5.out.2.1.grow g5).grow g6, (H5.out.2.2.trans g5).trans g6⟩
          clear fy fz hA hf hf6 g6 H5
          go_wp2
          go_roundg (20 - (j + 1))
          case measure => have := HK.out; omega
          case rel => exact ⟨j + 1, rfl, by omega, by go_num, H6⟩
      · have hj20' : ¬ (j : Int) < 20 := by omega
        obtain ⟨u, d, r, p, q, bs, hs, hF, hV, hg⟩ := HI.out
        clear HK HI
        go_wp2_with fail
        refine (lives_any wr).mono ?_
        rintro e w2 ⟨rfl, hg2⟩
        go_wp2
        go_ret
        exact ⟨rfl, hg.trans hg2⟩
    · have hjo' : ¬ (j : Int) < (os.length : Int) := by omega
      obtain ⟨u, d, r, p, q, bs, hs, hF, hV, hg⟩ := HI.out
      clear HK HI
      go_wp2_with fail
      refine (lives_any wr).mono ?_
      rintro e w2 ⟨rfl, hg2⟩
      go_wp2
      go_ret
      exact ⟨rfl, hg.trans hg2⟩
end Go.Proofs.Ytcmehefaceaioaa
