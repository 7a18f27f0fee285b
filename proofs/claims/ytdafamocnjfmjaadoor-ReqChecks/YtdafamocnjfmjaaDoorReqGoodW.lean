/-
  The walk of the document's Good. Conditions: each theorem's own.
-/
import Derived.Test.YtdafamocnjfmjaaDoorReqGood
import Derived.Test.YtdafamocnjfmjaaDoorLast
import Derived.Deep.CutRange
namespace Go.Proofs.YtdafamocnjfmjaaDoor
open Go.RowKit
set_option linter.unusedVariables false
set_option linter.unusedSimpArgs false

set_option maxRecDepth 8000 in
set_option maxHeartbeats 8000000 in
theorem good_write (w : World) (r : Rq) (a : Option Addr) (n c : Nat) (B : Nat) (k : Int) (hr : Rd .u8 B w (.slice a n c) r.z) (hok : r.Ok maxLen) (hk : 1 ≤ k ∧ k ≤ 1000000) (ho : gOp (around r.o 14) = 3) :
    Calls Tryd.prog 9 #[.agg #[.int .i64 r.o, .int .i64 r.p, .int .i64 r.f, .int .i64 r.l, .slice a n c], .int .i64 k] w (GoodPost w k) := by
  obtain ⟨hok1, hok2, hok3, hok4, hok5, hok6⟩ := hok
  have har : Calls Tryd.prog 8 #[.int .i64 r.o, .int .i64 14] (((w.alloc (.cells #[.int .i64 r.o, .int .i64 r.p, .int .i64 r.f, .int .i64 r.l, .slice a n c] 24)).alloc (.cells #[.int .i64 0, .int .i64 0, .int .i64 0, .int .i64 0, .slice none 0 0] 24)).alloc (.cells #[.int .i64 1, .int .i64 1, .int .i64 1, .int .i64 2, .int .i64 2, .int .i64 3, .int .i64 3, .int .i64 3, .int .i64 4, .int .i64 4, .int .i64 5, .int .i64 6, .int .i64 7, .int .i64 8] 3)) fun e w' => e = .returned (.int .i64 (around r.o 14)) ∧ GodW r a n c w w' := (around_any r.o 14 _ hok1 (by omega) (by omega)).mono (by rintro e w' ⟨rfl, rfl⟩; exact ⟨rfl, godW_start r a n c w⟩)
  have hb := around_bd r.o 14 (by omega)
  have HR : Hid (Rd .u8 w.heap.size w (.slice a n c) r.z) := Rd.size hr
  have HP : Hid (∀ (S : World → Prop) (W : World), S W → Calls Tryd.prog 8 #[.int .i64 r.p, .int .i64 k] W fun e w' => e = .returned (.int .i64 (around r.p k)) ∧ S w') := fun S W hS => (around_any r.p k _ hok2 (by omega) (by omega)).mono (by rintro e w' ⟨rfl, rfl⟩; exact ⟨rfl, hS⟩)
  have bp := around_bd r.p k (by omega)
  have HF : Hid (∀ (S : World → Prop) (W : World), S W → Calls Tryd.prog 8 #[.int .i64 r.f, .int .i64 33] W fun e w' => e = .returned (.int .i64 (around r.f 33)) ∧ S w') := fun S W hS => (around_any r.f 33 _ hok3 (by omega) (by omega)).mono (by rintro e w' ⟨rfl, rfl⟩; exact ⟨rfl, hS⟩)
  have bf := around_bd r.f 33 (by omega)
  have HL : Hid (∀ (S : World → Prop) (W : World) (m : Int), 0 < m → m ≤ 33 → S W → Calls Tryd.prog 8 #[.int .i64 r.l, .int .i64 m] W fun e w' => e = .returned (.int .i64 (around r.l m)) ∧ S w') := fun S W m h0 h1 hS => (around_any r.l m _ hok4 h0 (by omega)).mono (by rintro e w' ⟨rfl, rfl⟩; exact ⟨rfl, hS⟩)
  obtain ⟨j, hj⟩ := Int.eq_ofNat_of_zero_le hb.1
  rw [hj] at har ho hb
  have hj14 : (j : Int) < 14 := hb.2
  have HC : Hid (∀ u, GodW r a n c w u → u.cell? ⟨w.heap.size + 2, j, none⟩ = some (.int .i64 (gOp j))) := fun u hu => hu.2.2.1 j (by omega)
  generalize around r.p k = xp at *
  generalize around r.f 33 = xf at *
  generalize gOp (j : Int) = o at *
  clear hj hb hr hok1 hok2 hok3 hok4
  subst ho
  have hw : IntKind.i64.wrap (32 - xf) = 32 - xf := by rw [IntKind.wrap_i64]; omega
  have bl := around_bd r.l 33 (by omega)
  have HLL := HL.out
  replace HLL := fun S W hS => HLL S W 33 (by omega) (by omega) hS
  generalize around r.l 33 = xl at *
  obtain ⟨m, rfl⟩ := Int.eq_ofNat_of_zero_le bl.1
  obtain ⟨m2, hm2⟩ := Int.eq_ofNat_of_zero_le (show 0 ≤ 32 - xf by omega)
  have HE : Hid ((⟨3, xp, xf, 0, (fillL r.z m).take m2⟩ : Rq).Ok 34 ∧ ckE 3 xp xf 0 ((fillL r.z m).take m2).length k = 0) := by
    have hl : ((fillL r.z m).take m2).length ≤ m ∧ ((fillL r.z m).take m2).length ≤ m2 := by rw [List.length_take, fillL_length]; omega
    refine ⟨⟨wfS (n := 3) (by omega), wfS (n := xp) (by omega), wfS (n := xf) (by omega), wfS (n := 0) (by omega), (oct_fill hok5 m).take m2, by show ((fillL r.z m).take m2).length ≤ 34; omega⟩, ?_⟩
    unfold ckE
    (repeat' split) <;> first | rfl | omega
  have HFL : Hid (∀ W, Grow w W → Calls Tryd.prog 25 #[.slice a n c, .int .i64 (m : Int)] W fun e w' => ∃ v', e = .returned v' ∧ Own .u8 W.heap.size w' v' (fillL r.z m) ∧ Grow W w') := fun W g => fill_any (.slice a n c) r.z m m w.heap.size W rfl (HR.out.below g) (by omega)
  have HFW : Hid (∀ W B v zs, Rd .u8 B W v zs → Calls Tryd.prog 17 #[v, .int .i64 (32 - xf)] W fun e w' => ∃ v', e = .returned v' ∧ Own .u8 W.heap.size w' v' (zs.take m2) ∧ Below W.heap.size W w') := fun W B v zs h => fewB_any v zs (32 - xf) m2 B W hm2 h (by omega)
  have HL2 : Hid (∀ (W : World), Calls Tryd.prog 8 #[.int .i64 r.l, .int .i64 33] W fun e w' => e = .returned (.int .i64 (m : Int)) ∧ W = w') := fun W => HLL (fun u => W = u) W rfl
  generalize hz1 : (fillL r.z m).take m2 = z1 at *
  clear HL HLL bp bl hm2
  go_enter Tryd.func9, Tryd.ntmps9
  go_wp2_with fail
  refine har.mono ?_
  rintro e w1 ⟨rfl, hX⟩
  have HX : Hid (GodW r a n c w w1) := hX
  have c14 := HC.out w1 hX
  clear har hX HC
  go_upto_if 20 with fail
  refine wp_gen (GodV r a n c w w1.heap.size 3 0 0 0) ⟨HX.out.1.old _, HX.out.2.1.old _, VarAt.new w1 _ _, HX.out.2.2.2.1.alloc _, HX.out.2.2.2.2⟩ ?_
  intro w2 hV2
  have HV2 : Hid (GodV r a n c w w1.heap.size 3 0 0 0 w2) := hV2
  clear hV2 c14 HX
  generalize w1.heap.size = b at *
  have n1 : ¬ b = w.heap.size := by have := HV2.out.2.2.2.2; omega
  have n2 : ¬ w.heap.size = b := by omega
  have n3 : ¬ b = w.heap.size + 1 := by have := HV2.out.2.2.2.2; omega
  have n4 : ¬ w.heap.size + 1 = b := by omega
  obtain ⟨⟨c0, c1, c2, c3, c4⟩, -⟩ := HV2.out.1.five
  obtain ⟨⟨d0, d1, d2, d3, d4⟩, k0, k1, k2, k3, k4⟩ := HV2.out.2.1.five
  obtain ⟨⟨e0, e1, e2, e3, e4⟩, f0, f1, f2, f3, f4⟩ := HV2.out.2.2.1.five
  go_wp2_with fail
  refine (HP.out (GodV r a n c w b 3 0 0 0) _ HV2.out).mono ?_
  rintro e w3 ⟨rfl, hV3⟩
  have HV3 : Hid (GodV r a n c w b 3 0 0 0 w3) := hV3
  clear hV3 HV2 HP
  clear c0 c1 c2 c3 c4 d0 d1 d2 d3 d4 k0 k1 k2 k3 k4 e0 e1 e2 e3 e4 f0 f1 f2 f3 f4
  obtain ⟨⟨c0, c1, c2, c3, c4⟩, -⟩ := HV3.out.1.five
  obtain ⟨⟨d0, d1, d2, d3, d4⟩, k0, k1, k2, k3, k4⟩ := HV3.out.2.1.five
  obtain ⟨⟨e0, e1, e2, e3, e4⟩, f0, f1, f2, f3, f4⟩ := HV3.out.2.2.1.five
  go_wp2_with fail
  refine (HF.out (GodV r a n c w b 3 xp 0 0) _ (HV3.out.set 1 xp)).mono ?_
  rintro e w4 ⟨rfl, hV4⟩
  have HV4 : Hid (GodV r a n c w b 3 xp 0 0 w4) := hV4
  clear hV4 HV3 HF
  clear c0 c1 c2 c3 c4 d0 d1 d2 d3 d4 k0 k1 k2 k3 k4 e0 e1 e2 e3 e4 f0 f1 f2 f3 f4
  obtain ⟨⟨c0, c1, c2, c3, c4⟩, -⟩ := HV4.out.1.five
  obtain ⟨⟨d0, d1, d2, d3, d4⟩, k0, k1, k2, k3, k4⟩ := HV4.out.2.1.five
  obtain ⟨⟨e0, e1, e2, e3, e4⟩, f0, f1, f2, f3, f4⟩ := HV4.out.2.2.1.five
  go_upto_region 10 with fail
  refine wp_gen (GodV r a n c w b 3 xp xf 0) (HV4.out.set 2 xf) ?_
  intro w5 hV5
  have HV5 : Hid (GodV r a n c w b 3 xp xf 0 w5) := hV5
  clear hV5 HV4
  clear c0 c1 c2 c3 c4 d0 d1 d2 d3 d4 k0 k1 k2 k3 k4 e0 e1 e2 e3 e4 f0 f1 f2 f3 f4
  refine wp_region_last 11 (by kernel_rfl) [(0, false), (1, false), (2, false), (3, false), (6, false), (7, false), (8, false), (4, true), (5, true), (9, true), (10, false)] (by kernel_rfl) (by kernel_rfl) rfl (fun _ _ d _ _ h => by cases d <;> exact h) ?_
  simp only [inOrder, List.filterMap_cons, List.filterMap_nil, List.getElem?_toArray, List.getElem?_cons_zero, List.getElem?_cons_succ, Option.map_some]
  repeat (first
    | (refine wpS_move rfl ?_; simp only [Act.eval, Act.put, Array.getD_eq_getD_getElem?, List.getElem?_toArray, List.getElem?_cons_zero, List.getElem?_cons_succ, Option.getD_some, List.setIfInBounds_toArray, List.set_cons_zero, List.set_cons_succ])
    | (refine wpS_assign rfl ?_; simp only [Act.eval, Act.put, Array.getD_eq_getD_getElem?, List.getElem?_toArray, List.getElem?_cons_zero, List.getElem?_cons_succ, Option.getD_some, List.setIfInBounds_toArray, List.set_cons_zero, List.set_cons_succ])
    | (refine wpS_read (v := ?_) rfl ?_ ?_; rotate_left; (focus (intro w' hG; obtain ⟨c0, c1, c2, c3, c4⟩ := late5 HV5.out.1 (by first | exact .inl hG | exact .inr hG); obtain ⟨e0, e1, e2, e3, e4⟩ := late5 HV5.out.2.2.1 (by first | exact .inl hG | exact .inr hG); go_simp; try (with_reducible rfl))); simp only [Act.put, List.setIfInBounds_toArray, List.set_cons_zero, List.set_cons_succ])
    | (refine wpS_skip rfl ?_; simp only [Act.put, List.setIfInBounds_toArray, List.set_cons_zero, List.set_cons_succ]))
  refine wpS_call (f := ?_) (args := ?_) (by rfl) ?_ ?_
  rotate_left 2; focus (go_simp; constructor <;> with_reducible rfl)
  refine (HL2.out _).mono ?_
  rintro e w6 ⟨rfl, rfl⟩
  refine ⟨_, rfl, Grow.refl _, ?_⟩
  simp only [Act.put, List.setIfInBounds_toArray, List.set_cons_zero, List.set_cons_succ]
  have g6 : Grow w5 w5.drew := (Grow.refl w5).drew
  refine wpS_call (f := ?_) (args := ?_) (by rfl) ?_ ?_
  rotate_left 2; focus (go_simp; constructor <;> with_reducible rfl)
  refine (HFL.out _ (HV5.out.2.2.2.1.trans g6)).mono ?_
  rintro e w7 ⟨v7, rfl, ho7, g7⟩
  refine ⟨_, rfl, g7, ?_⟩
  simp only [Act.put, List.setIfInBounds_toArray, List.set_cons_zero, List.set_cons_succ]
  refine wpS_call (f := ?_) (args := ?_) (by rfl) ?_ ?_
  rotate_left 2; focus (go_simp; constructor <;> with_reducible rfl)
  refine (HFW.out _ _ v7 _ ho7.rd).mono ?_
  rintro e w8 ⟨v8, rfl, ho8, g8⟩
  refine ⟨_, rfl, g8, ?_⟩
  simp only [Act.put, List.setIfInBounds_toArray, List.set_cons_zero, List.set_cons_succ]
  have g58 : Grow w5 w8 := (g6.trans g7).trans g8
  have HV8 : Hid (GodV r a n c w b 3 xp xf 0 w8) := HV5.out.grow g58
  rw [hz1] at ho8
  have HO : Hid (Own .u8 w5.heap.size w8 v8 z1) := ho8.base g7.size
  obtain ⟨a8, p8, rfl⟩ := ho8.shape
  clear ho7 ho8 g7 g8 g6 HFL HFW HL2
  repeat (first
    | (refine wpS_move rfl ?_; simp only [Act.eval, Act.put, Array.getD_eq_getD_getElem?, List.getElem?_toArray, List.getElem?_cons_zero, List.getElem?_cons_succ, Option.getD_some, List.setIfInBounds_toArray, List.set_cons_zero, List.set_cons_succ])
    | (refine wpS_assign rfl ?_; simp only [Act.eval, Act.put, Array.getD_eq_getD_getElem?, List.getElem?_toArray, List.getElem?_cons_zero, List.getElem?_cons_succ, Option.getD_some, List.setIfInBounds_toArray, List.set_cons_zero, List.set_cons_succ])
    | (refine wpS_read (v := ?_) rfl ?_ ?_; rotate_left; (focus (intro w' hG; go_simp; try (with_reducible rfl))); simp only [Act.put, List.setIfInBounds_toArray, List.set_cons_zero, List.set_cons_succ])
    | (refine wpS_skip rfl ?_; simp only [Act.put, List.setIfInBounds_toArray, List.set_cons_zero, List.set_cons_succ]))
  refine wpS_nil ?_
  obtain ⟨⟨c0, c1, c2, c3, c4⟩, -⟩ := HV8.out.1.five
  obtain ⟨⟨d0, d1, d2, d3, d4⟩, k0, k1, k2, k3, k4⟩ := HV8.out.2.1.five
  obtain ⟨⟨e0, e1, e2, e3, e4⟩, f0, f1, f2, f3, f4⟩ := HV8.out.2.2.1.five
  refine last_store (w' := w8.setCell ⟨b, 4, none⟩ (.slice a8 z1.length p8)) rfl rfl (by go_simp) ?_
  simp only [Act.put, List.setIfInBounds_toArray, List.set_cons_zero, List.set_cons_succ]
  have HB : Hid (w.heap.size + 3 ≤ b ∧ b < w5.heap.size) := ⟨HV5.out.2.2.2.2, HV5.out.2.2.1.lt⟩
  have hu := upd_one w8 b 4 (.slice a8 z1.length p8)
  have HV9 : Hid (VarAt (w8.setCell ⟨b, 4, none⟩ (.slice a8 z1.length p8)) (w.heap.size + 1) [.int .i64 0, .int .i64 0, .int .i64 0, .int .i64 0, .slice none 0 0] ∧ VarAt (w8.setCell ⟨b, 4, none⟩ (.slice a8 z1.length p8)) b [.int .i64 3, .int .i64 xp, .int .i64 xf, .int .i64 0, .slice a8 z1.length p8] ∧ Grow w (w8.setCell ⟨b, 4, none⟩ (.slice a8 z1.length p8)) ∧ Own .u8 w5.heap.size (w8.setCell ⟨b, 4, none⟩ (.slice a8 z1.length p8)) (.slice a8 z1.length p8) z1) :=
    ⟨HV8.out.2.1.upd hu (by have := HB.out; omega), HV8.out.2.2.1.set 4 _, UpdS.new HV8.out.2.2.2.1 hu (fun i hi => by have := HB.out; omega), Own.upd HO.out hu (fun i hi => by have := HB.out; omega)⟩
  generalize w8.setCell ⟨b, 4, none⟩ (.slice a8 z1.length p8) = w9 at *
  clear hu HV8 HO g58
  clear c0 c1 c2 c3 c4 d0 d1 d2 d3 d4 k0 k1 k2 k3 k4 e0 e1 e2 e3 e4 f0 f1 f2 f3 f4
  obtain ⟨⟨d0, d1, d2, d3, d4⟩, k0, k1, k2, k3, k4⟩ := HV9.out.1.five
  obtain ⟨⟨e0, e1, e2, e3, e4⟩, f0, f1, f2, f3, f4⟩ := HV9.out.2.1.five
  go_wp2
  have hU := upd_five w9 (w.heap.size + 1) (.int .i64 3) (.int .i64 xp) (.int .i64 xf) (.int .i64 0) (.slice a8 z1.length p8)
  exact bodyPost_ret_by (results_cell rfl _ _ _ _ rfl (load_Rq (w.heap.size + 1) 3 xp xf 0 (.slice a8 z1.length p8) _ (HV9.out.1.set5 _ _ _ _ _) rfl)) rfl ⟨⟨3, xp, xf, 0, z1⟩, .slice a8 z1.length p8, rfl, (Own.upd HV9.out.2.2.2 hU (fun i hi => by have := HB.out; omega)).rd, UpdS.new HV9.out.2.2.1 hU (fun i hi => by omega), HE.out⟩

theorem rgood_any (w : World) (r : Rq) (a : Option Addr) (n c : Nat) (B : Nat) (k : Int) (hr : Rd .u8 B w (.slice a n c) r.z) (hok : r.Ok maxLen) (hk : 1 ≤ k ∧ k ≤ 1000000) :
    Calls Tryd.prog 9 #[.agg #[.int .i64 r.o, .int .i64 r.p, .int .i64 r.f, .int .i64 r.l, .slice a n c], .int .i64 k] w (GoodPost w k) := by
  have hb := around_bd r.o 14 (by omega)
  have ho := gOp_bd hb.1 hb.2
  by_cases h2 : gOp (around r.o 14) = 2
  · exact good_read w r a n c B k hr hok hk h2
  by_cases h3 : gOp (around r.o 14) = 3
  · exact good_write w r a n c B k hr hok hk h3
  by_cases h6 : gOp (around r.o 14) = 6
  · exact good_six w r a n c B k hr hok hk h6
  by_cases h8 : gOp (around r.o 14) = 8
  · exact good_eight w r a n c B k hr hok hk h8
  exact good_page w r a n c B k hr hok hk ⟨ho.1, ho.2, h2, h3, h6, h8⟩
end Go.Proofs.YtdafamocnjfmjaaDoor
