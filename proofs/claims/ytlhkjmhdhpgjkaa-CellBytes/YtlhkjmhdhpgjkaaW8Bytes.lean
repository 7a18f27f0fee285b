/-
  The walk of the law CellBytes. Conditions: none but the reading of its arguments.
-/
import Derived.Test.YtlhkjmhdhpgjkaaW8Com
namespace Go.Proofs.Ytlhkjmhdhpgjkaa
open Go.RowKit
set_option linter.unusedVariables false
set_option linter.unusedSimpArgs false


theorem cell_grow {w w' : World} (g : Grow w w') {b o : Nat} {v : Value} (h : w.cell? ⟨b, o, none⟩ = some v) : w'.cell? ⟨b, o, none⟩ = some v := by
  rw [Below.cell (p := ⟨b, o, none⟩) g (World.block_lt_of_cell? _ _ h)]; exact h

/-- pages, places and numbers, three of each -/
def ThreeB (w : World) (bp bo bn : Nat) : Prop := ∀ j, j < 3 → ∃ V L O M, w.cell? ⟨bp, j, none⟩ = some V ∧ Rd .u8 w.heap.size w V L ∧ w.cell? ⟨bo, j, none⟩ = some (.int .i64 O) ∧ (Lit.int .i64 O).wf = true ∧ w.cell? ⟨bn, j, none⟩ = some (.int .i64 M) ∧ (Lit.int .i64 M).wf = true

set_option maxRecDepth 8000 in
set_option maxHeartbeats 8000000 in
theorem cellBytes_walk (v vy : Value) (zs ys : List Int) (off n : Int) (w : World) (h : Rd .u8 w.heap.size w v zs) (hy : Rd .u8 w.heap.size w vy ys) (hoff : (Lit.int .i64 off).wf = true) (hn : (Lit.int .i64 n).wf = true) :
    Calls Try.prog 6 #[v, .int .i64 off, .int .i64 n, vy] w fun e w' => e = .returned (.bool true) ∧ Below w.heap.size w w' := by
  obtain ⟨pg, hpg⟩ := name_list (fillL zs 32)
  have hlp : pg.length = 32 := by rw [← hpg, fillL_length]
  have HP : Hid (fillL zs 32 = pg) := hpg
  have HPL : Hid (pg.length = 32) := hlp
  obtain ⟨ts, hts⟩ := name_list (zs.take 40)
  obtain ⟨l3, hl3⟩ : ∃ l, ts.length = l := ⟨_, rfl⟩
  have hlt3 : l3 ≤ 40 := by rw [← hl3, ← hts, List.length_take]; omega
  have HT : Hid (zs.take 40 = ts) := hts
  have HTL : Hid (ts.length = l3) := hl3
  obtain ⟨fs, hfs⟩ := name_list (ys.take 34)
  have hlf : fs.length ≤ 34 := by rw [← hfs, List.length_take]; omega
  have HF : Hid (ys.take 34 = fs ∧ fs.length ≤ 34) := ⟨hfs, hlf⟩
  have hbd := around_bd off 34 (by omega)
  obtain ⟨ko, hko⟩ := Int.eq_ofNat_of_zero_le hbd.1
  rw [hko] at hbd
  have har := fun w => around_any off 34 w hoff (by omega) (by omega)
  rw [hko] at har
  have HRO : Hid (∀ w, Calls Try.prog 16 #[.int .i64 off, .int .i64 34] w fun e w' => e = .returned (.int .i64 (ko : Int)) ∧ w = w') := har
  have hbn := around_bd n 34 (by omega)
  obtain ⟨kn, hkn⟩ := Int.eq_ofNat_of_zero_le hbn.1
  rw [hkn] at hbn
  have hnr := fun w => around_any n 34 w hn (by omega) (by omega)
  rw [hkn] at hnr
  have HRN : Hid (∀ w, Calls Try.prog 16 #[.int .i64 n, .int .i64 34] w fun e w' => e = .returned (.int .i64 (kn : Int)) ∧ w = w') := hnr
  have HWF : Hid ((Lit.int .i64 (ko : Int)).wf = true ∧ (Lit.int .i64 off).wf = true ∧ (Lit.int .i64 (kn : Int)).wf = true ∧ (Lit.int .i64 n).wf = true) := ⟨wfI (by omega), hoff, wfI (by omega), hn⟩
  clear har hko hbd hnr hkn hbn hpg hlp hts hl3 hfs hlf hoff hn
  go_enter Try.func6, Try.ntmps6
  go_wp2_with fail
  refine (fill_any _ zs _ 32 _ _ rfl h (by omega)).mono ?_
  rintro e w1 ⟨v1, rfl, ho1, hb1⟩
  rw [HP.out] at ho1
  obtain ⟨a1, c1, hv1⟩ := ho1.shape
  rw [HPL.out] at hv1
  subst hv1
  go_wp2_with fail
  refine (fill_any _ zs _ 32 _ _ rfl (h.below hb1) (by omega)).mono ?_
  rintro e w2 ⟨v2, rfl, ho2, hb2⟩
  rw [HP.out] at ho2
  obtain ⟨a2, c2, hv2⟩ := ho2.shape
  rw [HPL.out] at hv2
  subst hv2
  have g2 : Grow w w2 := Grow.trans hb1 hb2
  go_wp2_with fail
  refine (fewB_any _ zs _ 40 _ _ rfl (h.below g2) (by omega)).mono ?_
  rintro e w3 ⟨v3, rfl, ho3, hb3⟩
  rw [HT.out] at ho3
  obtain ⟨a3, c3, hv3⟩ := ho3.shape
  rw [HTL.out] at hv3
  subst hv3
  have gA : Grow w3 (w3.alloc (.cells #[.slice a1 32 c1, .slice a2 32 c2, .slice a3 l3 c3] 22)) := (Grow.refl w3).alloc _
  have g3 : Grow w w3 := Grow.trans g2 hb3
  have Y1 : Hid ((w3.alloc (.cells #[.slice a1 32 c1, .slice a2 32 c2, .slice a3 l3 c3] 22)).cell? ⟨w3.heap.size, 0, none⟩ = some (.slice a1 32 c1) ∧ (w3.alloc (.cells #[.slice a1 32 c1, .slice a2 32 c2, .slice a3 l3 c3] 22)).cell? ⟨w3.heap.size, 1, none⟩ = some (.slice a2 32 c2) ∧ (w3.alloc (.cells #[.slice a1 32 c1, .slice a2 32 c2, .slice a3 l3 c3] 22)).cell? ⟨w3.heap.size, 2, none⟩ = some (.slice a3 l3 c3) ∧
      Rd .u8 (w3.alloc (.cells #[.slice a1 32 c1, .slice a2 32 c2, .slice a3 l3 c3] 22)).heap.size (w3.alloc (.cells #[.slice a1 32 c1, .slice a2 32 c2, .slice a3 l3 c3] 22)) (.slice a1 32 c1) pg ∧ Rd .u8 (w3.alloc (.cells #[.slice a1 32 c1, .slice a2 32 c2, .slice a3 l3 c3] 22)).heap.size (w3.alloc (.cells #[.slice a1 32 c1, .slice a2 32 c2, .slice a3 l3 c3] 22)) (.slice a2 32 c2) pg ∧ Rd .u8 (w3.alloc (.cells #[.slice a1 32 c1, .slice a2 32 c2, .slice a3 l3 c3] 22)).heap.size (w3.alloc (.cells #[.slice a1 32 c1, .slice a2 32 c2, .slice a3 l3 c3] 22)) (.slice a3 l3 c3) ts ∧ Grow w (w3.alloc (.cells #[.slice a1 32 c1, .slice a2 32 c2, .slice a3 l3 c3] 22))) :=
    ⟨World.cell?_alloc_new _ _ _ _, World.cell?_alloc_new _ _ _ _, World.cell?_alloc_new _ _ _ _, ((ho1.rd.below hb2).size.below (Grow.trans hb3 gA)).size, (ho2.rd.below (Grow.trans hb3 gA)).size, (ho3.rd.below gA).size, g3.trans gA⟩
  clear ho1 ho2 ho3 hb1 hb2 hb3 g2 g3 gA
  go_wp2_with fail
  generalize w3.alloc (.cells #[.slice a1 32 c1, .slice a2 32 c2, .slice a3 l3 c3] 22) = W1 at Y1 ⊢
  generalize w3.heap.size = bp at Y1 ⊢
  refine (HRO.out W1).mono ?_
  rintro e u1 ⟨rfl, rfl⟩
  go_wp2_with fail
  refine (HRO.out W1).mono ?_
  rintro e u1 ⟨rfl, rfl⟩
  have Y2 : Hid ((W1.alloc (.cells #[.int .i64 (ko : Int), .int .i64 off, .int .i64 (ko : Int)] 3)).cell? ⟨W1.heap.size, 0, none⟩ = some (.int .i64 (ko : Int)) ∧ (W1.alloc (.cells #[.int .i64 (ko : Int), .int .i64 off, .int .i64 (ko : Int)] 3)).cell? ⟨W1.heap.size, 1, none⟩ = some (.int .i64 off) ∧ (W1.alloc (.cells #[.int .i64 (ko : Int), .int .i64 off, .int .i64 (ko : Int)] 3)).cell? ⟨W1.heap.size, 2, none⟩ = some (.int .i64 (ko : Int)) ∧ Grow W1 (W1.alloc (.cells #[.int .i64 (ko : Int), .int .i64 off, .int .i64 (ko : Int)] 3))) :=
    ⟨World.cell?_alloc_new _ _ _ _, World.cell?_alloc_new _ _ _ _, World.cell?_alloc_new _ _ _ _, (Grow.refl W1).alloc _⟩
  go_wp2_with fail
  generalize W1.alloc (.cells #[.int .i64 (ko : Int), .int .i64 off, .int .i64 (ko : Int)] 3) = W2 at Y2 ⊢
  generalize W1.heap.size = bo at Y2 ⊢
  refine (HRN.out W2).mono ?_
  rintro e u1 ⟨rfl, rfl⟩
  go_wp2_with fail
  refine (HRN.out W2).mono ?_
  rintro e u1 ⟨rfl, rfl⟩
  have Y3 : Hid ((W2.alloc (.cells #[.int .i64 (kn : Int), .int .i64 n, .int .i64 (kn : Int)] 3)).cell? ⟨W2.heap.size, 0, none⟩ = some (.int .i64 (kn : Int)) ∧ (W2.alloc (.cells #[.int .i64 (kn : Int), .int .i64 n, .int .i64 (kn : Int)] 3)).cell? ⟨W2.heap.size, 1, none⟩ = some (.int .i64 n) ∧ (W2.alloc (.cells #[.int .i64 (kn : Int), .int .i64 n, .int .i64 (kn : Int)] 3)).cell? ⟨W2.heap.size, 2, none⟩ = some (.int .i64 (kn : Int)) ∧ Grow W2 (W2.alloc (.cells #[.int .i64 (kn : Int), .int .i64 n, .int .i64 (kn : Int)] 3))) :=
    ⟨World.cell?_alloc_new _ _ _ _, World.cell?_alloc_new _ _ _ _, World.cell?_alloc_new _ _ _ _, (Grow.refl W2).alloc _⟩
  go_wp2_with fail
  generalize W2.alloc (.cells #[.int .i64 (kn : Int), .int .i64 n, .int .i64 (kn : Int)] 3) = W3 at Y3 ⊢
  generalize W2.heap.size = bn at Y3 ⊢
  have gW : Grow W1 W3 := Grow.trans Y2.out.2.2.2 Y3.out.2.2.2
  refine (fewB_any _ ys _ 34 _ _ rfl (hy.below (Y1.out.2.2.2.2.2.2.trans gW)) (by omega)).mono ?_
  rintro e w4 ⟨v4, rfl, ho4, hb4⟩
  rw [HF.out.1] at ho4
  have g14 : Grow W1 w4 := gW.trans hb4
  have g24 : Grow W2 w4 := Grow.trans Y3.out.2.2.2 hb4
  have HZ : Hid (ThreeB w4 bp bo bn) := fun j hj => by
    have hj' : j = 0 ∨ j = 1 ∨ j = 2 := by omega
    rcases hj' with rfl | rfl | rfl
    · exact ⟨_, pg, _, _, cell_grow g14 Y1.out.1, (Y1.out.2.2.2.1.below g14).size, cell_grow g24 Y2.out.1, HWF.out.1, cell_grow hb4 Y3.out.1, HWF.out.2.2.1⟩
    · exact ⟨_, pg, _, _, cell_grow g14 Y1.out.2.1, (Y1.out.2.2.2.2.1.below g14).size, cell_grow g24 Y2.out.2.1, HWF.out.2.1, cell_grow hb4 Y3.out.2.1, HWF.out.2.2.2⟩
    · exact ⟨_, ts, _, _, cell_grow g14 Y1.out.2.2.1, (Y1.out.2.2.2.2.2.1.below g14).size, cell_grow g24 Y2.out.2.2.1, HWF.out.1, cell_grow hb4 Y3.out.2.2.1, HWF.out.2.2.1⟩
  have HA : Hid (w4.cell? ⟨bp, 0, none⟩ = some (.slice a1 32 c1) ∧ Rd .u8 w4.heap.size w4 (.slice a1 32 c1) pg ∧ Rd .u8 w4.heap.size w4 v4 fs ∧ Grow w w4) := ⟨cell_grow g14 Y1.out.1, (Y1.out.2.2.2.1.below g14).size, ho4.rd, Y1.out.2.2.2.2.2.2.trans g14⟩
  obtain ⟨a4, c4, hv4⟩ := ho4.shape
  subst hv4
  clear ho4 hb4 g14 g24 gW Y1 Y2 Y3 hy
  obtain ⟨lf, hlf⟩ : ∃ l, fs.length = l := ⟨_, rfl⟩
  rw [hlf] at HA ⊢
  clear hlf
  go_wp2
  go_loopg [13] 3 (fun k iv wr => ∃ j : Nat, k = 3 - j ∧ j ≤ 3 ∧ iv = .int .i64 (j : Int) ∧ Grow w4 wr)
  case atStart => exact ⟨0, rfl, Nat.zero_le _, rfl, Grow.refl _⟩
  case round =>
    obtain ⟨j, hkk, hj, rfl, hbr⟩ := hrel
    by_cases hlt : j < 3
    · have hlt' : (j : Int) < 3 := by omega
      have hj0 : (0 : Int) ≤ (j : Int) := by omega
      obtain ⟨V, L, O, M, d0, d1, d2, d3, d4, d5⟩ := HZ.out j hlt
      have kc : ∀ w', Grow w4 w' → w'.cell? ⟨bp, j, none⟩ = some V ∧ w'.cell? ⟨bo, j, none⟩ = some (.int .i64 O) ∧ w'.cell? ⟨bn, j, none⟩ = some (.int .i64 M) := fun w' g => ⟨cell_grow g d0, cell_grow g d2, cell_grow g d4⟩
      have HRL : Hid (Rd .u8 w4.heap.size w4 V L ∧ (Lit.int .i64 O).wf = true ∧ (Lit.int .i64 M).wf = true) := ⟨d1, d3, d5⟩
      have HK : Hid (gk = 3 - j ∧ j < 3 ∧ Grow w4 wr) := ⟨hkk, hlt, hbr⟩
      obtain ⟨aL, cL, hVL, -⟩ := d1
      subst hVL
      have hget := fun u (g : Grow w4 u) => get_any _ L O M _ u (HRL.out.1.below g) HRL.out.2.1 HRL.out.2.2
      have hrget := fun u (g : Grow w4 u) => rget_any _ L O M _ u (HRL.out.1.below g) HRL.out.2.1 HRL.out.2.2
      have hput := fun u (g : Grow w4 u) => putp_any _ _ L fs O _ _ u (HRL.out.1.below g) (HA.out.2.2.1.below g) HRL.out.2.1
      have hrput := fun u (g : Grow w4 u) => rputp_any _ _ L fs O _ _ u (HRL.out.1.below g) (HA.out.2.2.1.below g) HRL.out.2.1
      generalize got L O M = G at hget hrget
      generalize putted L O fs = T at hput hrput
      obtain ⟨GL, GE⟩ := G
      obtain ⟨TL, TE⟩ := T
      generalize L.length = lL at hget hrget hput hrput kc HRL ⊢
      clear d0 d2 d3 d4 d5 hlt hkk hbr hj
      have ga : Grow w4 wr.drew := HK.out.2.2.trans (Grow.refl wr).drew
      go_wp2
      refine wp_region_sched (by kernel_rfl) [(0, false), (1, false), (2, false), (3, false), (4, false), (5, false), (6, false), (7, false), (8, false), (9, false), (10, false), (11, false), (12, true), (13, false), (14, false), (15, false), (16, false), (17, false)] (by kernel_rfl) (by kernel_rfl) rfl (fun _ _ d _ _ h => by cases d <;> exact h) ?_
      simp only [inOrder, List.filterMap_cons, List.filterMap_nil, List.getElem?_toArray, List.getElem?_cons_zero, List.getElem?_cons_succ, Option.map_some]
      repeat (first
        | (refine wpS_move rfl ?_; simp only [Act.eval, Act.put, Array.getD_eq_getD_getElem?, List.getElem?_toArray, List.getElem?_cons_zero, List.getElem?_cons_succ, Option.getD_some, List.setIfInBounds_toArray, List.set_cons_zero, List.set_cons_succ])
        | (refine wpS_assign rfl ?_; simp only [Act.eval, Act.put, Array.getD_eq_getD_getElem?, List.getElem?_toArray, List.getElem?_cons_zero, List.getElem?_cons_succ, Option.getD_some, List.setIfInBounds_toArray, List.set_cons_zero, List.set_cons_succ])
        | (refine wpS_read (v := ?_) rfl ?_ ?_; rotate_left; (focus (intro w' hG; obtain ⟨q0, q1, q2⟩ := kc w' (ga.trans hG); go_simp; try (with_reducible rfl))); simp only [Act.put, List.setIfInBounds_toArray, List.set_cons_zero, List.set_cons_succ])
        | (refine wpS_skip rfl ?_; simp only [Act.put, List.setIfInBounds_toArray, List.set_cons_zero, List.set_cons_succ]))
      refine wpS_call (f := ?_) (args := ?_) (by rfl) ?_ ?_
      rotate_left 2; focus (go_simp; constructor <;> with_reducible rfl)
      refine (hget wr.drew ga).mono ?_
      rintro e wa ⟨va, rfl, hoa, fa⟩
      refine ⟨_, rfl, fa, ?_⟩
      simp only [Act.put, List.setIfInBounds_toArray, List.set_cons_zero, List.set_cons_succ]
      repeat (first
        | (refine wpS_move rfl ?_; simp only [Act.eval, Act.put, Array.getD_eq_getD_getElem?, List.getElem?_toArray, List.getElem?_cons_zero, List.getElem?_cons_succ, Option.getD_some, List.setIfInBounds_toArray, List.set_cons_zero, List.set_cons_succ])
        | (refine wpS_assign rfl ?_; simp only [Act.eval, Act.put, Array.getD_eq_getD_getElem?, List.getElem?_toArray, List.getElem?_cons_zero, List.getElem?_cons_succ, Option.getD_some, List.setIfInBounds_toArray, List.set_cons_zero, List.set_cons_succ])
        | (refine wpS_read (v := ?_) rfl ?_ ?_; rotate_left; (focus (intro w' hG; skip; go_simp; try (with_reducible rfl))); simp only [Act.put, List.setIfInBounds_toArray, List.set_cons_zero, List.set_cons_succ])
        | (refine wpS_skip rfl ?_; simp only [Act.put, List.setIfInBounds_toArray, List.set_cons_zero, List.set_cons_succ]))
      refine wpS_nil ?_
      have gb : Grow w4 wa.drew := (ga.trans fa).trans (Grow.refl wa).drew
      go_wp2
      refine wp_region_sched (by kernel_rfl) [(0, false), (1, false), (2, false), (3, false), (4, false), (5, false), (6, false), (7, false), (8, false), (9, false), (10, false), (11, false), (12, true), (13, false), (14, false), (15, false), (16, false), (17, false)] (by kernel_rfl) (by kernel_rfl) rfl (fun _ _ d _ _ h => by cases d <;> exact h) ?_
      simp only [inOrder, List.filterMap_cons, List.filterMap_nil, List.getElem?_toArray, List.getElem?_cons_zero, List.getElem?_cons_succ, Option.map_some]
      repeat (first
        | (refine wpS_move rfl ?_; simp only [Act.eval, Act.put, Array.getD_eq_getD_getElem?, List.getElem?_toArray, List.getElem?_cons_zero, List.getElem?_cons_succ, Option.getD_some, List.setIfInBounds_toArray, List.set_cons_zero, List.set_cons_succ])
        | (refine wpS_assign rfl ?_; simp only [Act.eval, Act.put, Array.getD_eq_getD_getElem?, List.getElem?_toArray, List.getElem?_cons_zero, List.getElem?_cons_succ, Option.getD_some, List.setIfInBounds_toArray, List.set_cons_zero, List.set_cons_succ])
        | (refine wpS_read (v := ?_) rfl ?_ ?_; rotate_left; (focus (intro w' hG; obtain ⟨q0, q1, q2⟩ := kc w' (gb.trans hG); go_simp; try (with_reducible rfl))); simp only [Act.put, List.setIfInBounds_toArray, List.set_cons_zero, List.set_cons_succ])
        | (refine wpS_skip rfl ?_; simp only [Act.put, List.setIfInBounds_toArray, List.set_cons_zero, List.set_cons_succ]))
      refine wpS_call (f := ?_) (args := ?_) (by rfl) ?_ ?_
      rotate_left 2; focus (go_simp; constructor <;> with_reducible rfl)
      refine (hrget wa.drew gb).mono ?_
      rintro e wb ⟨vb, rfl, hob, fb⟩
      refine ⟨_, rfl, fb, ?_⟩
      simp only [Act.put, List.setIfInBounds_toArray, List.set_cons_zero, List.set_cons_succ]
      repeat (first
        | (refine wpS_move rfl ?_; simp only [Act.eval, Act.put, Array.getD_eq_getD_getElem?, List.getElem?_toArray, List.getElem?_cons_zero, List.getElem?_cons_succ, Option.getD_some, List.setIfInBounds_toArray, List.set_cons_zero, List.set_cons_succ])
        | (refine wpS_assign rfl ?_; simp only [Act.eval, Act.put, Array.getD_eq_getD_getElem?, List.getElem?_toArray, List.getElem?_cons_zero, List.getElem?_cons_succ, Option.getD_some, List.setIfInBounds_toArray, List.set_cons_zero, List.set_cons_succ])
        | (refine wpS_read (v := ?_) rfl ?_ ?_; rotate_left; (focus (intro w' hG; skip; go_simp; try (with_reducible rfl))); simp only [Act.put, List.setIfInBounds_toArray, List.set_cons_zero, List.set_cons_succ])
        | (refine wpS_skip rfl ?_; simp only [Act.put, List.setIfInBounds_toArray, List.set_cons_zero, List.set_cons_succ]))
      refine wpS_nil ?_
      have gc : Grow w4 wb.drew := (gb.trans fb).trans (Grow.refl wb).drew
      go_wp2
      refine wp_region_sched (by kernel_rfl) [(0, false), (1, false), (2, false), (3, false), (4, false), (5, false), (6, false), (7, false), (8, false), (9, true), (10, false), (11, false), (12, false), (13, false), (14, false)] (by kernel_rfl) (by kernel_rfl) rfl (fun _ _ d _ _ h => by cases d <;> exact h) ?_
      simp only [inOrder, List.filterMap_cons, List.filterMap_nil, List.getElem?_toArray, List.getElem?_cons_zero, List.getElem?_cons_succ, Option.map_some]
      repeat (first
        | (refine wpS_move rfl ?_; simp only [Act.eval, Act.put, Array.getD_eq_getD_getElem?, List.getElem?_toArray, List.getElem?_cons_zero, List.getElem?_cons_succ, Option.getD_some, List.setIfInBounds_toArray, List.set_cons_zero, List.set_cons_succ])
        | (refine wpS_assign rfl ?_; simp only [Act.eval, Act.put, Array.getD_eq_getD_getElem?, List.getElem?_toArray, List.getElem?_cons_zero, List.getElem?_cons_succ, Option.getD_some, List.setIfInBounds_toArray, List.set_cons_zero, List.set_cons_succ])
        | (refine wpS_read (v := ?_) rfl ?_ ?_; rotate_left; (focus (intro w' hG; obtain ⟨q0, q1, q2⟩ := kc w' (gc.trans hG); go_simp; try (with_reducible rfl))); simp only [Act.put, List.setIfInBounds_toArray, List.set_cons_zero, List.set_cons_succ])
        | (refine wpS_skip rfl ?_; simp only [Act.put, List.setIfInBounds_toArray, List.set_cons_zero, List.set_cons_succ]))
      refine wpS_call (f := ?_) (args := ?_) (by rfl) ?_ ?_
      rotate_left 2; focus (go_simp; constructor <;> with_reducible rfl)
      refine (hput wb.drew gc).mono ?_
      rintro e wc ⟨vc, rfl, hoc, fc⟩
      refine ⟨_, rfl, fc, ?_⟩
      simp only [Act.put, List.setIfInBounds_toArray, List.set_cons_zero, List.set_cons_succ]
      repeat (first
        | (refine wpS_move rfl ?_; simp only [Act.eval, Act.put, Array.getD_eq_getD_getElem?, List.getElem?_toArray, List.getElem?_cons_zero, List.getElem?_cons_succ, Option.getD_some, List.setIfInBounds_toArray, List.set_cons_zero, List.set_cons_succ])
        | (refine wpS_assign rfl ?_; simp only [Act.eval, Act.put, Array.getD_eq_getD_getElem?, List.getElem?_toArray, List.getElem?_cons_zero, List.getElem?_cons_succ, Option.getD_some, List.setIfInBounds_toArray, List.set_cons_zero, List.set_cons_succ])
        | (refine wpS_read (v := ?_) rfl ?_ ?_; rotate_left; (focus (intro w' hG; skip; go_simp; try (with_reducible rfl))); simp only [Act.put, List.setIfInBounds_toArray, List.set_cons_zero, List.set_cons_succ])
        | (refine wpS_skip rfl ?_; simp only [Act.put, List.setIfInBounds_toArray, List.set_cons_zero, List.set_cons_succ]))
      refine wpS_nil ?_
      have gd : Grow w4 wc.drew := (gc.trans fc).trans (Grow.refl wc).drew
      go_wp2
      refine wp_region_sched (by kernel_rfl) [(0, false), (1, false), (2, false), (3, false), (4, false), (5, false), (6, false), (7, false), (8, false), (9, true), (10, false), (11, false), (12, false), (13, false), (14, false)] (by kernel_rfl) (by kernel_rfl) rfl (fun _ _ d _ _ h => by cases d <;> exact h) ?_
      simp only [inOrder, List.filterMap_cons, List.filterMap_nil, List.getElem?_toArray, List.getElem?_cons_zero, List.getElem?_cons_succ, Option.map_some]
      repeat (first
        | (refine wpS_move rfl ?_; simp only [Act.eval, Act.put, Array.getD_eq_getD_getElem?, List.getElem?_toArray, List.getElem?_cons_zero, List.getElem?_cons_succ, Option.getD_some, List.setIfInBounds_toArray, List.set_cons_zero, List.set_cons_succ])
        | (refine wpS_assign rfl ?_; simp only [Act.eval, Act.put, Array.getD_eq_getD_getElem?, List.getElem?_toArray, List.getElem?_cons_zero, List.getElem?_cons_succ, Option.getD_some, List.setIfInBounds_toArray, List.set_cons_zero, List.set_cons_succ])
        | (refine wpS_read (v := ?_) rfl ?_ ?_; rotate_left; (focus (intro w' hG; obtain ⟨q0, q1, q2⟩ := kc w' (gd.trans hG); go_simp; try (with_reducible rfl))); simp only [Act.put, List.setIfInBounds_toArray, List.set_cons_zero, List.set_cons_succ])
        | (refine wpS_skip rfl ?_; simp only [Act.put, List.setIfInBounds_toArray, List.set_cons_zero, List.set_cons_succ]))
      refine wpS_call (f := ?_) (args := ?_) (by rfl) ?_ ?_
      rotate_left 2; focus (go_simp; constructor <;> with_reducible rfl)
      refine (hrput wc.drew gd).mono ?_
      rintro e wd ⟨vd, rfl, hod, fd⟩
      refine ⟨_, rfl, fd, ?_⟩
      simp only [Act.put, List.setIfInBounds_toArray, List.set_cons_zero, List.set_cons_succ]
      repeat (first
        | (refine wpS_move rfl ?_; simp only [Act.eval, Act.put, Array.getD_eq_getD_getElem?, List.getElem?_toArray, List.getElem?_cons_zero, List.getElem?_cons_succ, Option.getD_some, List.setIfInBounds_toArray, List.set_cons_zero, List.set_cons_succ])
        | (refine wpS_assign rfl ?_; simp only [Act.eval, Act.put, Array.getD_eq_getD_getElem?, List.getElem?_toArray, List.getElem?_cons_zero, List.getElem?_cons_succ, Option.getD_some, List.setIfInBounds_toArray, List.set_cons_zero, List.set_cons_succ])
        | (refine wpS_read (v := ?_) rfl ?_ ?_; rotate_left; (focus (intro w' hG; skip; go_simp; try (with_reducible rfl))); simp only [Act.put, List.setIfInBounds_toArray, List.set_cons_zero, List.set_cons_succ])
        | (refine wpS_skip rfl ?_; simp only [Act.put, List.setIfInBounds_toArray, List.set_cons_zero, List.set_cons_succ]))
      refine wpS_nil ?_
      have fcd : Grow wc wd := (Grow.refl wc).drew.trans fd
      have fbd : Grow wb wd := ((Grow.refl wb).drew.trans fc).trans fcd
      have fad : Grow wa wd := ((Grow.refl wa).drew.trans fb).trans fbd
      have s1 := (hoa.rd.below fad).string (P := Try.prog) 22 9 5 Try.underlying22 Try.underlying5 Try.underlying9
      have s2 := (hob.rd.below fbd).string (P := Try.prog) 22 9 5 Try.underlying22 Try.underlying5 Try.underlying9
      have s3 := (hoc.rd.below fcd).string (P := Try.prog) 22 9 5 Try.underlying22 Try.underlying5 Try.underlying9
      have s4 := hod.rd.string (P := Try.prog) 22 9 5 Try.underlying22 Try.underlying5 Try.underlying9
      have HGD : Hid (Grow w4 wd) := gd.trans fd
      clear hoa hob hoc hod fa fb fc fd fcd fbd fad ga gb gc gd kc hget hrget hput hrput
      go_wp2
      go_roundg (3 - (j + 1))
      case measure => have := HK.out; omega
      case rel => exact ⟨j + 1, rfl, by have := HK.out; omega, by go_num, HGD.out⟩
    · have hge : ¬ (j : Int) < 3 := by omega
      clear hlt hkk hj HZ
      have ga : Grow w4 wr.drew := hbr.trans (Grow.refl wr).drew
      have kc : ∀ w', Grow w4 w' → w'.cell? ⟨bp, 0, none⟩ = some (.slice a1 32 c1) := fun w' g => cell_grow g HA.out.1
      have k1 : ∀ w', Grow wr.drew w' → (convert 22 9 (.slice a1 32 c1)).run Try.prog w' = .ok (.string (strOfNums pg)) w' := fun w' g => (HA.out.2.1.below (ga.trans g)).string 22 9 5 Try.underlying22 Try.underlying5 Try.underlying9
      have hfl := fill_any v zs _ 32 _ wr.drew rfl (h.below (HA.out.2.2.2.trans ga)) (by omega)
      rw [HP.out] at hfl
      go_wp2
      refine wp_region_sched (by kernel_rfl) [(0, false), (1, false), (2, false), (3, false), (4, false), (5, true), (6, false), (7, false), (8, false), (9, true), (10, false), (11, false)] (by kernel_rfl) (by kernel_rfl) rfl (fun _ _ d _ _ h => by cases d <;> exact h) ?_
      simp only [inOrder, List.filterMap_cons, List.filterMap_nil, List.getElem?_toArray, List.getElem?_cons_zero, List.getElem?_cons_succ, Option.map_some]
      repeat (first
        | (refine wpS_move rfl ?_; simp only [Act.eval, Act.put, Array.getD_eq_getD_getElem?, List.getElem?_toArray, List.getElem?_cons_zero, List.getElem?_cons_succ, Option.getD_some, List.setIfInBounds_toArray, List.set_cons_zero, List.set_cons_succ])
        | (refine wpS_assign rfl ?_; simp only [Act.eval, Act.put, Array.getD_eq_getD_getElem?, List.getElem?_toArray, List.getElem?_cons_zero, List.getElem?_cons_succ, Option.getD_some, List.setIfInBounds_toArray, List.set_cons_zero, List.set_cons_succ])
        | (refine wpS_read (v := ?_) rfl ?_ ?_; rotate_left; (focus (intro w' hG; have q0 := kc w' (ga.trans hG); go_simp; try (with_reducible rfl))); simp only [Act.put, List.setIfInBounds_toArray, List.set_cons_zero, List.set_cons_succ])
        | (refine wpS_skip rfl ?_; simp only [Act.put, List.setIfInBounds_toArray, List.set_cons_zero, List.set_cons_succ]))
      refine wpS_call (f := ?_) (args := ?_) (by rfl) ?_ ?_
      rotate_left 2; focus (go_simp; constructor <;> with_reducible rfl)
      refine (hfl).mono ?_
      rintro e wa ⟨va, rfl, hoa, fa⟩
      refine ⟨_, rfl, fa, ?_⟩
      simp only [Act.put, List.setIfInBounds_toArray, List.set_cons_zero, List.set_cons_succ]
      have k2 : ∀ w', Grow wa w' → (convert 22 9 va).run Try.prog w' = .ok (.string (strOfNums pg)) w' := fun w' g => (hoa.rd.below g).string 22 9 5 Try.underlying22 Try.underlying5 Try.underlying9
      repeat (first
        | (refine wpS_move rfl ?_; simp only [Act.eval, Act.put, Array.getD_eq_getD_getElem?, List.getElem?_toArray, List.getElem?_cons_zero, List.getElem?_cons_succ, Option.getD_some, List.setIfInBounds_toArray, List.set_cons_zero, List.set_cons_succ])
        | (refine wpS_assign rfl ?_; simp only [Act.eval, Act.put, Array.getD_eq_getD_getElem?, List.getElem?_toArray, List.getElem?_cons_zero, List.getElem?_cons_succ, Option.getD_some, List.setIfInBounds_toArray, List.set_cons_zero, List.set_cons_succ])
        | (refine wpS_read (v := ?_) rfl ?_ ?_; rotate_left; (focus (intro w' hG; skip; go_simp; try (with_reducible rfl))); simp only [Act.put, List.setIfInBounds_toArray, List.set_cons_zero, List.set_cons_succ])
        | (refine wpS_skip rfl ?_; simp only [Act.put, List.setIfInBounds_toArray, List.set_cons_zero, List.set_cons_succ]))
      refine wpS_call (f := ?_) (args := ?_) (by rfl) ?_ ?_
      rotate_left 2; focus (go_simp; constructor <;> with_reducible rfl)
      refine (lives8_any wa).mono ?_
      rintro e wb ⟨rfl, fb⟩
      refine ⟨_, rfl, fb, ?_⟩
      simp only [Act.put, List.setIfInBounds_toArray, List.set_cons_zero, List.set_cons_succ]
      repeat (first
        | (refine wpS_move rfl ?_; simp only [Act.eval, Act.put, Array.getD_eq_getD_getElem?, List.getElem?_toArray, List.getElem?_cons_zero, List.getElem?_cons_succ, Option.getD_some, List.setIfInBounds_toArray, List.set_cons_zero, List.set_cons_succ])
        | (refine wpS_assign rfl ?_; simp only [Act.eval, Act.put, Array.getD_eq_getD_getElem?, List.getElem?_toArray, List.getElem?_cons_zero, List.getElem?_cons_succ, Option.getD_some, List.setIfInBounds_toArray, List.set_cons_zero, List.set_cons_succ])
        | (refine wpS_read (v := ?_) rfl ?_ ?_; rotate_left; (focus (intro w' hG; skip; go_simp; try (with_reducible rfl))); simp only [Act.put, List.setIfInBounds_toArray, List.set_cons_zero, List.set_cons_succ])
        | (refine wpS_skip rfl ?_; simp only [Act.put, List.setIfInBounds_toArray, List.set_cons_zero, List.set_cons_succ]))
      refine wpS_nil ?_
      go_wp2
      go_ret
      exact ⟨rfl, ((HA.out.2.2.2.trans ga).trans fa).trans fb⟩
end Go.Proofs.Ytlhkjmhdhpgjkaa
