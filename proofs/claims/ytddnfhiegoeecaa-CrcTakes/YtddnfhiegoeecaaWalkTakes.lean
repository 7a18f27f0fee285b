/-
  The walk of allotmentlaw02.CrcTakes: it returns true, and nothing that was there is written. Conditions: none but the reading of its arguments.
-/
import Derived.Test.YtddnfhiegoeecaaWalkTurn
namespace Go.Proofs.Ytddnfhiegoeecaa
open Go.RowKit
set_option linter.unusedVariables false
set_option linter.unusedSimpArgs false

/-- five slices in a row -/
def Five (w : World) (g : Nat) : Prop := ∀ j, j < 5 → ∃ V L, w.cell? ⟨g, j, none⟩ = some V ∧ Rd .u8 w.heap.size w V L ∧ Oct L ∧ L.length ≤ 1000000

theorem isGood_eq (L : List Int) (m : Nat) (hm : L.length = m + 4) : isGood L = decide (L.drop m = le 4 (chk 0 (L.take m) : Nat)) := by
  unfold isGood
  rw [hm, Nat.add_sub_cancel]
  by_cases h : L.drop m = le 4 (chk 0 (L.take m) : Nat)
  · rw [decide_eq_true h]
    refine decide_eq_true ⟨by omega, ?_⟩
    rw [← h, List.take_append_drop]
  · rw [decide_eq_false h]
    refine decide_eq_false fun e => h ?_
    have e2 : L.take m ++ le 4 (chk 0 (L.take m) : Nat) = L.take m ++ L.drop m := by rw [List.take_append_drop]; exact e.2
    exact (List.append_cancel_left e2).symm
theorem taken_eq (L : List Int) (m : Nat) (hm : L.length = m + 4) : taken L = if L.drop m = le 4 (chk 0 (L.take m) : Nat) then (L.take m, 0) else ([], 9) := by
  unfold taken
  rw [if_neg (by omega), hm, Nat.add_sub_cancel]

set_option maxHeartbeats 4000000 in
theorem crcTakes_walk (v : Value) (zs : List Int) (at' c0 : Int) (w : World) (h : Rd .u8 w.heap.size w v zs) (ho : Oct zs) (hat : (Lit.int .i64 at').wf = true) (hc0 : 0 ≤ c0) (hc1 : c0 < 256) :
    Calls Try.prog 6 #[v, .int .i64 at', .int .u8 c0] w fun e w' => e = .returned (.bool true) ∧ Below w.heap.size w w' := by
  obtain ⟨i0, hi, hz0, hz1, hz2⟩ := info_parts Try.info5
  obtain ⟨ys, hys⟩ : ∃ ys, zs.take 20 = ys := ⟨_, rfl⟩
  have hoy : Oct ys := by rw [← hys]; exact ho.take 20
  have hly : ys.length ≤ 20 := by rw [← hys, List.length_take]; omega
  have HY : Hid (zs.take 20 = ys) := hys
  clear hys
  obtain ⟨ps, hps⟩ : ∃ ps, ys ++ le 4 (chk 0 ys : Nat) = ps := ⟨_, rfl⟩
  have hop : Oct ps := by rw [← hps]; exact hoy.append (oct_le _ _)
  have hlp : ps.length = ys.length + 4 := by rw [← hps, List.length_append, le_length]
  have HP : Hid (ys ++ le 4 (chk 0 ys : Nat) = ps) := hps
  have HP60 : Hid (ps.take 60 = ps) := List.take_of_length_le (by omega)
  clear hps
  have hl24 : ps.length ≤ 24 := by omega
  have hpos : 0 < ps.length := by omega
  clear hlp
  have hbd := around_bd at' (ps.length : Int) (by omega)
  obtain ⟨k, hk⟩ := Int.eq_ofNat_of_zero_le hbd.1
  rw [hk] at hbd
  obtain ⟨-, hk1⟩ := hbd
  have har := fun w => around_any at' (ps.length : Int) w hat (by omega) (by omega)
  rw [hk] at har
  have HR : Hid (∀ w, Calls Try.prog 17 #[.int .i64 at', .int .i64 (ps.length : Int)] w fun e w' => e = .returned (.int .i64 (k : Int)) ∧ w = w') := har
  clear har hk
  have hk : k < ps.length := by omega
  have hk0 : (0 : Int) ≤ (k : Int) := by omega
  go_enter Try.func6, Try.ntmps6
  go_wp2_with fail
  refine (few_any _ zs _ 20 _ _ rfl h (by omega)).mono ?_
  rintro e w1 ⟨v1, rfl, ho1, hb1⟩
  rw [HY.out] at ho1
  go_wp2_with fail
  refine (rput_any _ ys _ _ ho1.rd hoy (by omega)).mono ?_
  rintro e w2 ⟨v2, rfl, ho2, hb2⟩
  rw [HP.out] at ho2
  have hb12 := hb1.trans (hb2.mono hb1.size)
  have hr2 := ho2.rd
  obtain ⟨a2, c2, hv2⟩ := ho2.shape
  subst hv2
  obtain ⟨-, hkc, hcm2⟩ := hr2.caps
  clear ho1 ho2
  go_wp2_with fail
  refine HR.out w2 |>.mono ?_
  rintro e w3 ⟨rfl, rfl⟩
  go_wp2_with fail
  refine (few_any _ ps _ 60 _ _ rfl hr2 (by omega)).mono ?_
  rintro e w3 ⟨v3, rfl, ho3, hb3⟩
  rw [HP60.out] at ho3
  have hb13 := hb12.trans (hb3.mono hb12.size)
  obtain ⟨g, o, c, rfl, hg, hgc, hcm, hcell, hfr, hset⟩ := ho3.row hk
  have hown := hset c0
  have hr4 : Rd .u8 (w3.setCell ⟨g, o + k, none⟩ (.int .u8 c0)).heap.size (w3.setCell ⟨g, o + k, none⟩ (.int .u8 c0)) (.slice a2 ps.length c2) ps := ((hr2.below hb3).below ((Below.refl w2.heap.size w3).setCell hg _)).size
  have hb14 : Below w.heap.size w (w3.setCell ⟨g, o + k, none⟩ (.int .u8 c0)) := hb13.setCell (Nat.le_trans hb12.size hg) _
  have hos : Oct (ps.set k c0) := hop.set k hc0 hc1
  have HLS : Hid ((ps.set k c0).length ≤ 1000000) := by show (ps.set k c0).length ≤ 1000000; rw [List.length_set]; omega
  clear hset hr2 ho3
  unfold maxLen at hcm
  go_wp2_with fail
  refine (few_any _ ps _ 60 _ _ rfl hr4 (by omega)).mono ?_
  rintro e w5 ⟨v5, rfl, ho5, hb5⟩
  rw [HP60.out] at ho5
  generalize (w3.setCell ⟨g, o + k, none⟩ (.int .u8 c0)) = w4 at ho5 hb5 hb14 hown hr4
  have hb15 := hb14.trans (hb5.mono hb14.size)
  have hr5 := hr4.below hb5
  have hro5 := hown.rd.below hb5
  clear hown hr4
  go_wp2_with (at_builtin; refine wpList_app rfl (.tmp 30) (.tmp 32) 22 22 rfl i0 (.int .u8 0) 1 Try.underlying22 hi hz0 hz1 hz2 rfl rfl rfl (ho5.alloc _) (Src.one (w := w5) Try.underlying22 .u8 c0 5) (by simp only [maxLen, List.length_singleton]; omega) (by simp only [List.length_singleton]; omega) (Nat.le_trans hb5.size (by simp)) ?_)
  intro v6 w6 ho6 hb6
  have hb56 : Below w4.heap.size w5 w6 := ((Below.refl w4.heap.size w5).alloc hb5.size _).trans hb6
  have hr6 := (hr5.below hb56).size
  have hrs6 := (hro5.below hb56).size
  have hrm6 := ho6.rd
  have hb16 := hb15.trans (hb56.mono hb14.size)
  have hkc2 : (k : Int) ≤ (c2 : Int) := by omega
  unfold maxLen at hcm2
  clear ho5 hb5 hr5 hro5 ho6 hb6 hb56 hb15 hb14 hb13 hb12 hcell hfr
  have hoss : Oct (ps ++ [c0]) := hop.append (fun x hx => by simp at hx; omega)
  have hlm : (ps ++ [c0]).length ≤ 1000000 := by rw [List.length_append, List.length_singleton]; omega
  generalize ps ++ [c0] = ms at hrm6 hoss hlm
  have hof := ho.take 40
  have hlf : (zs.take 40).length ≤ 1000000 := by rw [List.length_take]; omega
  obtain ⟨fs, hfs⟩ : ∃ fs, zs.take 40 = fs := ⟨_, rfl⟩
  rw [hfs] at hof hlf
  have HF : Hid (zs.take 40 = fs) := hfs
  clear hfs
  obtain ⟨a6, c6, hv6, -⟩ := hrm6.size
  subst hv6
  go_wp2
  refine wp_region_sched (by kernel_rfl) [(0, false), (2, false), (3, false), (4, false), (5, false), (6, false), (7, false), (1, true), (8, true), (9, false)] (by kernel_rfl) (by kernel_rfl) rfl (fun _ _ d _ _ h => by cases d <;> exact h) ?_
  simp only [inOrder, List.filterMap_cons, List.filterMap_nil, List.getElem?_toArray, List.getElem?_cons_zero, List.getElem?_cons_succ, Option.map_some]
  repeat (first
    | (refine wpS_move rfl ?_; simp only [Act.eval, Act.put, Array.getD_eq_getD_getElem?, List.getElem?_toArray, List.getElem?_cons_zero, List.getElem?_cons_succ, Option.getD_some, List.setIfInBounds_toArray, List.set_cons_zero, List.set_cons_succ])
    | (refine wpS_assign rfl ?_; simp only [Act.eval, Act.put, Array.getD_eq_getD_getElem?, List.getElem?_toArray, List.getElem?_cons_zero, List.getElem?_cons_succ, Option.getD_some, List.setIfInBounds_toArray, List.set_cons_zero, List.set_cons_succ])
    | (refine wpS_read (v := ?_) rfl ?_ ?_; rotate_left; (focus (intro w' hG; go_simp; try (with_reducible rfl))); simp only [Act.put, List.setIfInBounds_toArray, List.set_cons_zero, List.set_cons_succ]))
  refine wpS_call (f := ?_) (args := ?_) (by rfl) ?_ ?_
  rotate_left 2; focus (go_simp; constructor <;> with_reducible rfl)
  refine (few_any _ zs _ 40 _ _ rfl (h.below hb16.drew) (by omega)).mono ?_
  rintro e w7 ⟨v7, rfl, ho7, hb7⟩
  rw [HF.out] at ho7
  refine ⟨v7, rfl, hb7, ?_⟩
  obtain ⟨a7, c7, hv7⟩ := ho7.shape
  subst hv7
  simp only [Act.put, List.setIfInBounds_toArray, List.set_cons_zero, List.set_cons_succ]
  refine wpS_act (v := ?_) (w' := ?_) (by rfl) ?_ ?_ ?_
  rotate_left 2; focus (go_simp; constructor <;> with_reducible rfl)
  · exact (Grow.refl _).alloc _
  simp only [Act.put, List.setIfInBounds_toArray, List.set_cons_zero, List.set_cons_succ]
  repeat (first
    | (refine wpS_move rfl ?_; simp only [Act.eval, Act.put, Array.getD_eq_getD_getElem?, List.getElem?_toArray, List.getElem?_cons_zero, List.getElem?_cons_succ, Option.getD_some, List.setIfInBounds_toArray, List.set_cons_zero, List.set_cons_succ])
    | (refine wpS_assign rfl ?_; simp only [Act.eval, Act.put, Array.getD_eq_getD_getElem?, List.getElem?_toArray, List.getElem?_cons_zero, List.getElem?_cons_succ, Option.getD_some, List.setIfInBounds_toArray, List.set_cons_zero, List.set_cons_succ])
    | (refine wpS_read (v := ?_) rfl ?_ ?_; rotate_left; (focus (intro w' hG; go_simp; try (with_reducible rfl))); simp only [Act.put, List.setIfInBounds_toArray, List.set_cons_zero, List.set_cons_succ]))
  refine wpS_nil ?_
  have hgr : Grow w6 (w7.alloc (Obj.cells #[Value.slice a7 fs.length c7, Value.slice a2 ps.length c2, Value.slice (some ⟨g, o, none⟩) ps.length c, Value.slice a2 k c2, Value.slice a6 ms.length c6] 22)) := (Grow.trans (Grow.refl w6).drew hb7).alloc _
  have hfive : Five (w7.alloc (Obj.cells #[Value.slice a7 fs.length c7, Value.slice a2 ps.length c2, Value.slice (some ⟨g, o, none⟩) ps.length c, Value.slice a2 k c2, Value.slice a6 ms.length c6] 22)) w7.heap.size := fun j hj => by
    rw [World.cell?_alloc_new]
    have : j = 0 ∨ j = 1 ∨ j = 2 ∨ j = 3 ∨ j = 4 := by omega
    rcases this with rfl | rfl | rfl | rfl | rfl
    · exact ⟨_, fs, rfl, (ho7.alloc _).rd, hof, hlf⟩
    · exact ⟨_, ps, rfl, (hr6.below hgr).size, hop, by omega⟩
    · exact ⟨_, ps.set k c0, rfl, (hrs6.below hgr).size, hos, HLS.out⟩
    · exact ⟨_, ps.take k, rfl, ((hr6.below hgr).size.take k (by omega)), hop.take k, by rw [List.length_take]; omega⟩
    · exact ⟨_, ms, rfl, (hrm6.below hgr).size, hoss, hlm⟩
  have hAlt8 : w7.heap.size < (w7.alloc (Obj.cells #[Value.slice a7 fs.length c7, Value.slice a2 ps.length c2, Value.slice (some ⟨g, o, none⟩) ps.length c, Value.slice a2 k c2, Value.slice a6 ms.length c6] 22)).heap.size := by simp
  generalize (w7.alloc (Obj.cells #[Value.slice a7 fs.length c7, Value.slice a2 ps.length c2, Value.slice (some ⟨g, o, none⟩) ps.length c, Value.slice a2 k c2, Value.slice a6 ms.length c6] 22)) = w8 at hgr hfive hAlt8
  have HFI : Hid (Five w8 w7.heap.size) := hfive
  have hb18 : Below w.heap.size w w8 := hb16.trans (hgr.below hb16.size)
  clear hfive hr6 hrs6 hrm6 ho7 hb7 hgr hk hk0 hk1 hkc hkc2 hcm hcm2 hgc hg hb1 hb2 hb3 hlm hlf hl24 hpos hly
  go_wp2
  go_loopg [12] 5 (fun k c wr => ∃ j : Nat, k = 5 - j ∧ j ≤ 5 ∧ c = .int .i64 j ∧ Below w8.heap.size w8 wr)
  case atStart => exact ⟨0, rfl, Nat.zero_le _, rfl, Below.refl _ _⟩
  case round =>
    obtain ⟨j, hkk, hj, rfl, hbr⟩ := hrel
    by_cases hlt : j < 5
    · have hlt' : (j : Int) < 5 := by omega
      obtain ⟨V, L, hcel, hrL8, hoL, hlL⟩ := HFI.out j hlt
      have hrL := (hrL8.below hbr).size
      have hcelr : wr.cell? ⟨w7.heap.size, j, none⟩ = some V := by rw [hbr.cell (p := ⟨w7.heap.size, j, none⟩) hAlt8]; exact hcel
      have hAlt : w7.heap.size < wr.heap.size := Nat.lt_of_lt_of_le hAlt8 hbr.size
      obtain ⟨aL, cL, hVL, hLc, hcLm, -⟩ := hrL.size
      subst hVL
      clear hcel hrL8
      unfold maxLen at hcLm
      by_cases h4 : L.length < 4
      · have h4' : (L.length : Int) < 4 := by omega
        have HT : Hid (taken L = ([], 2)) := by unfold taken; rw [if_pos h4]; rfl
        have HG : Hid (isGood L = false) := decide_eq_false (by omega)
        go_wp2_with fail
        refine (take_any _ L _ _ hrL hoL hlL).mono ?_
        rintro e wa ⟨va, rfl, hoa, hba⟩
        rw [HT.out] at hoa ⊢
        obtain ⟨aa, ca, hva⟩ := hoa.shape
        rw [show (([], 2) : List Int × Int).1 = [] from rfl, show ([] : List Int).length = 0 from rfl] at hva
        subst hva
        have hcela : wa.cell? ⟨w7.heap.size, j, none⟩ = some (.slice aL L.length cL) := by rw [hba.cell (p := ⟨w7.heap.size, j, none⟩) hAlt]; exact hcelr
        go_wp2_with fail
        refine (good_any _ L _ _ (hrL.below hba) hoL hlL).mono ?_
        rintro e wb ⟨rfl, hbb⟩
        rw [HG.out]
        have hcelb : wb.cell? ⟨w7.heap.size, j, none⟩ = some (.slice aL L.length cL) := by rw [hbb.cell (p := ⟨w7.heap.size, j, none⟩) (Nat.lt_of_lt_of_le hAlt hba.size)]; exact hcela
        have hbab : Below w8.heap.size w8 wb := hbr.trans ((hba.mono hbr.size).trans (hbb.mono (Nat.le_trans hbr.size hba.size)))
        go_wp2
        refine wp_region_sched (by kernel_rfl) [(0, false), (1, false), (2, false), (3, false), (4, false), (5, false), (6, false), (7, false), (8, false), (9, false), (10, false), (11, false), (12, false), (13, false), (14, false), (15, false), (16, false), (17, false), (18, false)] (by kernel_rfl) (by kernel_rfl) rfl (fun _ _ d _ _ h => by cases d <;> exact h) ?_
        simp only [inOrder, List.filterMap_cons, List.filterMap_nil, List.getElem?_toArray, List.getElem?_cons_zero, List.getElem?_cons_succ, Option.map_some]
        repeat (first
          | (refine wpS_move rfl ?_; simp only [Act.eval, Act.put, Array.getD_eq_getD_getElem?, List.getElem?_toArray, List.getElem?_cons_zero, List.getElem?_cons_succ, Option.getD_some, List.setIfInBounds_toArray, List.set_cons_zero, List.set_cons_succ])
          | (refine wpS_assign rfl ?_; simp only [Act.eval, Act.put, Array.getD_eq_getD_getElem?, List.getElem?_toArray, List.getElem?_cons_zero, List.getElem?_cons_succ, Option.getD_some, List.setIfInBounds_toArray, List.set_cons_zero, List.set_cons_succ])
          | (refine wpS_read (v := ?_) rfl ?_ ?_; rotate_left; (focus (intro w' hG; go_simp; try (with_reducible rfl))); simp only [Act.put, List.setIfInBounds_toArray, List.set_cons_zero, List.set_cons_succ])
          | (refine wpS_skip rfl ?_; simp only [Act.put, List.setIfInBounds_toArray, List.set_cons_zero, List.set_cons_succ]))
        refine wpS_nil ?_
        go_wp2
        go_roundg (5 - (j + 1))
        case measure => omega
        case rel => exact ⟨j + 1, rfl, by omega, by go_num, hbab.drew⟩
      · obtain ⟨m, hm⟩ : ∃ m, L.length = m + 4 := ⟨L.length - 4, by omega⟩
        have hge : ¬ (L.length : Int) < 4 := by omega
        have hT := taken_eq L m hm
        have hG := isGood_eq L m hm
        by_cases hq : L.drop m = le 4 (chk 0 (L.take m) : Nat)
        · rw [if_pos hq] at hT
          rw [decide_eq_true hq] at hG
          have HT : Hid (taken L = (L.take m, 0)) := hT
          have HG : Hid (isGood L = true) := hG
          have HM : Hid (L.length = m + 4) := hm
          clear hT hG hq hm
          go_wp2_with fail
          refine (take_any _ L _ _ hrL hoL hlL).mono ?_
          rintro e wa ⟨va, rfl, hoa, hba⟩
          rw [HT.out] at hoa ⊢
          replace hoa : Own .u8 wr.heap.size wa va (L.take m) := hoa
          have hcela : wa.cell? ⟨w7.heap.size, j, none⟩ = some (.slice aL L.length cL) := by rw [hba.cell (p := ⟨w7.heap.size, j, none⟩) hAlt]; exact hcelr
          go_wp2_with fail
          refine (good_any _ L _ _ (hrL.below hba) hoL hlL).mono ?_
          rintro e wb ⟨rfl, hbb⟩
          rw [HG.out]
          have hcelb : wb.cell? ⟨w7.heap.size, j, none⟩ = some (.slice aL L.length cL) := by rw [hbb.cell (p := ⟨w7.heap.size, j, none⟩) (Nat.lt_of_lt_of_le hAlt hba.size)]; exact hcela
          have hbab : Below w8.heap.size w8 wb := hbr.trans ((hba.mono hbr.size).trans (hbb.mono (Nat.le_trans hbr.size hba.size)))
          go_wp2
          have hm := HM.out
          have hmL : m ≤ L.length := by omega
          have hcw : ∀ w', Grow wb.drew w' → w'.cell? ⟨w7.heap.size, j, none⟩ = some (.slice aL L.length cL) := fun w' hg => by
            rw [Below.cell (Grow.trans (Grow.refl wb).drew hg) (p := ⟨w7.heap.size, j, none⟩) (Nat.lt_of_lt_of_le hAlt (Nat.le_trans hba.size hbb.size))]
            exact hcelb
          have hsx : ∀ w', Grow wb.drew w' → (convert 22 9 va).run Try.prog w' = .ok (.string (strOfNums (L.take m))) w' := fun w' hg => ((hoa.rd.below hbb).size.below (Grow.trans (Grow.refl wb).drew hg)).string 22 9 5 Try.underlying22 Try.underlying5 Try.underlying9
          have hst : ∀ w', Grow wb.drew w' → (convert 22 9 (.slice aL m cL)).run Try.prog w' = .ok (.string (strOfNums (L.take m))) w' := fun w' hg => (((((hrL.take m hmL).below hba).size.below hbb).size).below (Grow.trans (Grow.refl wb).drew hg)).string 22 9 5 Try.underlying22 Try.underlying5 Try.underlying9
          have hsub : (L.length : Int) - 4 = (m : Int) := by omega
          have hmc : (m : Int) ≤ (cL : Int) := by omega
          have hm63 : (m : Int) < 1000000 := by omega
          have hwr : IntKind.i64.wrap (m : Int) = (m : Int) := by rw [IntKind.wrap_i64]; omega
          clear hm hmL
          refine wp_region_sched (by kernel_rfl) [(0, false), (1, false), (2, false), (3, false), (4, false), (5, false), (6, false), (7, false), (8, false), (9, false), (10, false), (11, false), (12, false), (13, false), (14, false), (15, false), (16, false), (17, false), (18, false)] (by kernel_rfl) (by kernel_rfl) rfl (fun _ _ d _ _ h => by cases d <;> exact h) ?_
          simp only [inOrder, List.filterMap_cons, List.filterMap_nil, List.getElem?_toArray, List.getElem?_cons_zero, List.getElem?_cons_succ, Option.map_some]
          repeat (first
            | (refine wpS_move rfl ?_; simp only [Act.eval, Act.put, Array.getD_eq_getD_getElem?, List.getElem?_toArray, List.getElem?_cons_zero, List.getElem?_cons_succ, Option.getD_some, List.setIfInBounds_toArray, List.set_cons_zero, List.set_cons_succ])
            | (refine wpS_assign rfl ?_; simp only [Act.eval, Act.put, Array.getD_eq_getD_getElem?, List.getElem?_toArray, List.getElem?_cons_zero, List.getElem?_cons_succ, Option.getD_some, List.setIfInBounds_toArray, List.set_cons_zero, List.set_cons_succ])
            | (refine wpS_read (v := ?_) rfl ?_ ?_; rotate_left; (focus (intro w' hG; go_simp; try (with_reducible rfl))); simp only [Act.put, List.setIfInBounds_toArray, List.set_cons_zero, List.set_cons_succ])
            | (refine wpS_skip rfl ?_; simp only [Act.put, List.setIfInBounds_toArray, List.set_cons_zero, List.set_cons_succ]))
          refine wpS_nil ?_
          clear hsub hwr hcw hsx hst
          go_wp2
          go_roundg (5 - (j + 1))
          case measure => omega
          case rel => exact ⟨j + 1, rfl, by omega, by go_num, hbab.drew⟩
        · rw [if_neg hq] at hT
          rw [decide_eq_false hq] at hG
          have HT : Hid (taken L = ([], 9)) := hT
          have HG : Hid (isGood L = false) := hG
          clear hT hG hq hm
          go_wp2_with fail
          refine (take_any _ L _ _ hrL hoL hlL).mono ?_
          rintro e wa ⟨va, rfl, hoa, hba⟩
          rw [HT.out] at hoa ⊢
          obtain ⟨aa, ca, hva⟩ := hoa.shape
          rw [show (([], 9) : List Int × Int).1 = [] from rfl, show ([] : List Int).length = 0 from rfl] at hva
          subst hva
          have hcela : wa.cell? ⟨w7.heap.size, j, none⟩ = some (.slice aL L.length cL) := by rw [hba.cell (p := ⟨w7.heap.size, j, none⟩) hAlt]; exact hcelr
          go_wp2_with fail
          refine (good_any _ L _ _ (hrL.below hba) hoL hlL).mono ?_
          rintro e wb ⟨rfl, hbb⟩
          rw [HG.out]
          have hcelb : wb.cell? ⟨w7.heap.size, j, none⟩ = some (.slice aL L.length cL) := by rw [hbb.cell (p := ⟨w7.heap.size, j, none⟩) (Nat.lt_of_lt_of_le hAlt hba.size)]; exact hcela
          have hbab : Below w8.heap.size w8 wb := hbr.trans ((hba.mono hbr.size).trans (hbb.mono (Nat.le_trans hbr.size hba.size)))
          go_wp2
          refine wp_region_sched (by kernel_rfl) [(0, false), (1, false), (2, false), (3, false), (4, false), (5, false), (6, false), (7, false), (8, false), (9, false), (10, false), (11, false), (12, false), (13, false), (14, false), (15, false), (16, false), (17, false), (18, false)] (by kernel_rfl) (by kernel_rfl) rfl (fun _ _ d _ _ h => by cases d <;> exact h) ?_
          simp only [inOrder, List.filterMap_cons, List.filterMap_nil, List.getElem?_toArray, List.getElem?_cons_zero, List.getElem?_cons_succ, Option.map_some]
          repeat (first
            | (refine wpS_move rfl ?_; simp only [Act.eval, Act.put, Array.getD_eq_getD_getElem?, List.getElem?_toArray, List.getElem?_cons_zero, List.getElem?_cons_succ, Option.getD_some, List.setIfInBounds_toArray, List.set_cons_zero, List.set_cons_succ])
            | (refine wpS_assign rfl ?_; simp only [Act.eval, Act.put, Array.getD_eq_getD_getElem?, List.getElem?_toArray, List.getElem?_cons_zero, List.getElem?_cons_succ, Option.getD_some, List.setIfInBounds_toArray, List.set_cons_zero, List.set_cons_succ])
            | (refine wpS_read (v := ?_) rfl ?_ ?_; rotate_left; (focus (intro w' hG; go_simp; try (with_reducible rfl))); simp only [Act.put, List.setIfInBounds_toArray, List.set_cons_zero, List.set_cons_succ])
            | (refine wpS_skip rfl ?_; simp only [Act.put, List.setIfInBounds_toArray, List.set_cons_zero, List.set_cons_succ]))
          refine wpS_nil ?_
          go_wp2
          go_roundg (5 - (j + 1))
          case measure => omega
          case rel => exact ⟨j + 1, rfl, by omega, by go_num, hbab.drew⟩
    · obtain rfl : j = 5 := by omega
      go_wp2_with fail
      refine (lives_any _).mono ?_
      rintro e w9 ⟨rfl, hb9⟩
      go_wp2
      go_ret
      exact ⟨rfl, hb18.trans ((hbr.mono hb18.size).trans (hb9.mono (Nat.le_trans hb18.size hbr.size)))⟩
end Go.Proofs.Ytddnfhiegoeecaa
