/-
  The walk of the law CellPuts. Conditions: none but the reading of its arguments.
-/
import Derived.Test.YtlhkjmhdhpgjkaaW8Com
namespace Go.Proofs.Ytlhkjmhdhpgjkaa
open Go.RowKit
set_option linter.unusedVariables false
set_option linter.unusedSimpArgs false


theorem midL_get {α : Type} {zs ys : List α} {l : Nat} (h : l + ys.length ≤ zs.length) : ((midL zs l ys).drop l).take ys.length = ys := by
  unfold midL
  have e1 : (zs.take l).length = l := by rw [List.length_take]; omega
  rw [List.append_assoc, List.drop_left' e1, List.take_left' rfl]
theorem midL_pre {α : Type} {zs ys : List α} {l : Nat} (h : l + ys.length ≤ zs.length) : (midL zs l ys).take l = zs.take l := by
  unfold midL
  have e1 : (zs.take l).length = l := by rw [List.length_take]; omega
  rw [List.append_assoc, List.take_left' e1]
theorem midL_post {α : Type} {zs ys : List α} {l : Nat} (h : l + ys.length ≤ zs.length) : (midL zs l ys).drop (l + ys.length) = zs.drop (l + ys.length) := by
  unfold midL
  have e1 : (zs.take l ++ ys).length = l + ys.length := by rw [List.length_append, List.length_take]; omega
  rw [List.drop_left' e1]

set_option maxRecDepth 8000 in
set_option maxHeartbeats 8000000 in
theorem cellPuts_walk (v vy : Value) (zs ys : List Int) (off : Int) (w : World) (h : Rd .u8 w.heap.size w v zs) (hy : Rd .u8 w.heap.size w vy ys) (hoff : (Lit.int .i64 off).wf = true) :
    Calls Try.prog 7 #[v, .int .i64 off, vy] w fun e w' => e = .returned (.bool true) ∧ Below w.heap.size w w' := by
  obtain ⟨pg, hpg⟩ := name_list (fillL zs 32)
  have hlp : pg.length = 32 := by rw [← hpg, fillL_length]
  have HP : Hid (fillL zs 32 = pg) := hpg
  have hbd := around_bd off 33 (by omega)
  obtain ⟨k, hk⟩ := Int.eq_ofNat_of_zero_le hbd.1
  rw [hk] at hbd
  have har := fun w => around_any off 33 w hoff (by omega) (by omega)
  rw [hk] at har
  have HR : Hid (∀ w, Calls Try.prog 16 #[.int .i64 off, .int .i64 33] w fun e w' => e = .returned (.int .i64 (k : Int)) ∧ w = w') := har
  have hk32 : k ≤ 32 := by omega
  clear har hk hbd hpg hoff
  obtain ⟨r, hr⟩ : ∃ r : Nat, r = 32 - k := ⟨_, rfl⟩
  have hsub1 : (32 : Int) - (k : Int) = (r : Int) := by omega
  have hwr1 : IntKind.i64.wrap (r : Int) = (r : Int) := by rw [IntKind.wrap_i64]; omega
  have hwrk : IntKind.i64.wrap ((32 : Int) - (k : Int)) = (r : Int) := by rw [IntKind.wrap_i64]; omega
  obtain ⟨fs, hfs⟩ := name_list (ys.take r)
  obtain ⟨m, hm⟩ : ∃ m, fs.length = m := ⟨_, rfl⟩
  have hmr : m ≤ r := by rw [← hm, ← hfs, List.length_take]; omega
  have HF : Hid (ys.take r = fs) := hfs
  have HM : Hid (fs.length = m) := hm
  have hkm : k + m ≤ 32 := by omega
  obtain ⟨s, hs⟩ : ∃ s : Nat, s = k + m := ⟨_, rfl⟩
  obtain ⟨t, ht⟩ : ∃ t : Nat, t = 32 - s := ⟨_, rfl⟩
  have hst : s + t ≤ 32 := by omega
  have hs32 : s ≤ 32 := by omega
  have hsum : (k : Int) + (m : Int) = (s : Int) := by omega
  have hsub2 : (r : Int) - (m : Int) = (t : Int) := by omega
  have hwsum : IntKind.i64.wrap ((k : Int) + (m : Int)) = (s : Int) := by rw [IntKind.wrap_i64]; omega
  have hwsub2 : IntKind.i64.wrap ((r : Int) - (m : Int)) = (t : Int) := by rw [IntKind.wrap_i64]; omega
  have hlm : k + fs.length ≤ pg.length := by omega
  have HM1 : Hid (((midL pg k fs).drop k).take m = fs) := by show ((midL pg k fs).drop k).take m = fs; rw [← hm]; exact midL_get hlm
  have HM2 : Hid (((midL pg k fs).drop 0).take k = pg.take k) := by show ((midL pg k fs).drop 0).take k = pg.take k; rw [List.drop_zero]; exact midL_pre hlm
  have HM3 : Hid (((midL pg k fs).drop s).take t = pg.drop s) := by
    show ((midL pg k fs).drop s).take t = pg.drop s
    rw [hs, ← hm, midL_post hlm]
    exact List.take_of_length_le (by rw [List.length_drop]; omega)
  have HML : Hid ((midL pg k fs).length = 32) := by show (midL pg k fs).length = 32; rw [midL_length hlm, hlp]
  have HPL : Hid (pg.length = 32) := hlp
  have HST : Hid (s = k + m ∧ t = 32 - s) := ⟨hs, ht⟩
  clear hfs hm hlp hlm hr hs ht
  go_enter Try.func7, Try.ntmps7
  go_wp2_with fail
  refine (fill_any _ zs _ 32 _ _ rfl h (by omega)).mono ?_
  rintro e w1 ⟨v1, rfl, ho1, hb1⟩
  rw [HP.out] at ho1
  have hr1 := ho1.rd
  obtain ⟨a1, c1, hv1⟩ := ho1.shape
  rw [HPL.out] at hv1
  subst hv1
  clear ho1
  go_wp2_with fail
  refine (HR.out w1).mono ?_
  rintro e w2 ⟨rfl, rfl⟩
  go_wp2_with fail
  refine (fewB_any _ ys _ r _ _ (by first | rfl | omega) (hy.below hb1) (by omega)).mono ?_
  rintro e w2 ⟨v2, rfl, ho2, hb2⟩
  rw [HF.out] at ho2
  have hr2 := ho2.rd
  obtain ⟨a2, c2, hv2⟩ := ho2.shape
  rw [HM.out] at hv2
  subst hv2
  have hr12 := (hr1.below hb2).size
  have hput := put_yes a1 a2 c1 m c2 pg fs k _ _ w2 hr12 hr2 hkm
  clear ho2 hr1
  go_wp2_with fail
  refine hput.mono ?_
  rintro e w3 ⟨v3, rfl, ho3, hb3⟩
  obtain ⟨a3, c3, hv3⟩ := ho3.shape
  rw [HML.out] at hv3
  subst hv3
  have hr3 := ho3.rd
  have hg3 := get_yes a3 c3 _ k m _ w3 hr3 hkm
  rw [HM1.out] at hg3
  clear ho3 hput
  go_wp2_with fail
  refine hg3.mono ?_
  rintro e w4 ⟨v4, rfl, ho4, hb4⟩
  have hr34 := (hr3.below hb4).size
  have hg4 := get_yes a3 c3 _ 0 k _ w4 hr34 (by omega)
  rw [HM2.out] at hg4
  clear hg3
  go_wp2_with fail
  refine hg4.mono ?_
  rintro e w5 ⟨v5, rfl, ho5, hb5⟩
  have hr35 := (hr34.below hb5).size
  have hg5 := get_yes a3 c3 _ s t _ w5 hr35 hst
  rw [HM3.out] at hg5
  clear hg4
  go_wp2_with fail
  refine hg5.mono ?_
  rintro e w6 ⟨v6, rfl, ho6, hb6⟩
  have gA : Grow w4 w6 := Grow.trans hb5 hb6
  have gB : Grow w2 w6 := Grow.trans (Grow.trans hb3 hb4) gA
  have Y : Hid (Grow w w6) := Grow.trans hb1 (Grow.trans hb2 gB)
  have hcap := hr12.caps
  have hc32 : 32 ≤ c1 := by omega
  have hcm : c1 ≤ maxLen := by omega
  have hpz := (hr12.below gB).size.drop s (by rw [HPL.out]; exact hs32)
  have kx : ∀ w', Grow w6.drew w' → (convert 22 9 v4).run Try.prog w' = .ok (.string (strOfNums fs)) w' := fun w' g => ((ho4.rd.below gA).size.below ((Grow.refl w6).drew.trans g)).string 22 9 5 Try.underlying22 Try.underlying5 Try.underlying9
  have kf : ∀ w', Grow w6.drew w' → (convert 22 9 (.slice a2 m c2)).run Try.prog w' = .ok (.string (strOfNums fs)) w' := fun w' g => ((hr2.below gB).size.below ((Grow.refl w6).drew.trans g)).string 22 9 5 Try.underlying22 Try.underlying5 Try.underlying9
  have ka : ∀ w', Grow w6.drew w' → (convert 22 9 v5).run Try.prog w' = .ok (.string (strOfNums (pg.take k))) w' := fun w' g => ((ho5.rd.below hb6).size.below ((Grow.refl w6).drew.trans g)).string 22 9 5 Try.underlying22 Try.underlying5 Try.underlying9
  have kp : ∀ w', Grow w6.drew w' → (convert 22 9 (.slice a1 k c1)).run Try.prog w' = .ok (.string (strOfNums (pg.take k))) w' := fun w' g => (((hr12.below gB).size.take k (by rw [HPL.out]; exact hk32)).below ((Grow.refl w6).drew.trans g)).string 22 9 5 Try.underlying22 Try.underlying5 Try.underlying9
  have kz : ∀ w', Grow w6.drew w' → (convert 22 9 v6).run Try.prog w' = .ok (.string (strOfNums (pg.drop s))) w' := fun w' g => (ho6.rd.below ((Grow.refl w6).drew.trans g)).string 22 9 5 Try.underlying22 Try.underlying5 Try.underlying9
  have kq : ∀ w', Grow w6.drew w' → (convert 22 9 (.slice (if c1 = s then a1 else a1.map (·.add s)) (32 - s) (c1 - s))).run Try.prog w' = .ok (.string (strOfNums (pg.drop s))) w' := fun w' g => (hpz.below ((Grow.refl w6).drew.trans g)).string 22 9 5 Try.underlying22 Try.underlying5 Try.underlying9
  generalize pg.take k = A at ka kp
  generalize pg.drop s = Z at kz kq
  have et : 32 - s = t := by have := HST.out; omega

  have HET : Hid (32 - s = t) := et
  unfold maxLen at hcm
  clear et hpz gA gB hcap hr12 hr2 hr3 hr34 hr35 ho4 ho5 ho6 hb1 hb2 hb3 hb4 hb5 hb6 hg5 h hy hsub1 hwr1 hwrk hsub2 hwsub2 hst hmr
  have hkc : (k : Int) ≤ (c1 : Int) := by omega
  have hk0 : (0 : Int) ≤ (k : Int) := by omega
  have hk63 : (k : Int) < 1000000 := by omega
  have hwk : IntKind.i64.wrap (k : Int) = (k : Int) := by rw [IntKind.wrap_i64]; omega
  have hkl : (k : Int) ≤ 32 := by omega
  by_cases hco : c1 = s
  · subst hco
    rw [if_pos rfl, Nat.sub_self, show 32 - c1 = 0 by omega] at kq
    have hsc : (c1 : Int) ≤ 32 := by omega
    have hsg : (32 : Int) ≤ (c1 : Int) := by omega
    have hs0 : (0 : Int) ≤ (c1 : Int) := by omega
    have hs63 : (c1 : Int) < 1000000 := by omega
    have hws : IntKind.i64.wrap (c1 : Int) = (c1 : Int) := by rw [IntKind.wrap_i64]; omega
    go_wp2
    refine wp_region_sched (by kernel_rfl) [(0, false), (1, false), (2, false), (3, false), (4, false), (5, false), (6, false), (7, false), (8, false), (9, false), (10, false), (11, false), (12, false), (13, false), (14, false), (15, false), (16, false), (17, false), (18, false), (19, false), (20, false), (21, false), (22, false), (23, false), (24, false), (25, false), (26, false), (27, false), (28, false), (29, false), (30, false), (31, false), (32, false), (33, false), (34, false), (35, false), (36, false), (37, false), (38, false), (39, false), (40, false), (41, false), (42, false), (43, true), (44, false), (45, false)] (by kernel_rfl) (by kernel_rfl) rfl (fun _ _ d _ _ h => by cases d <;> exact h) ?_
    simp only [inOrder, List.filterMap_cons, List.filterMap_nil, List.getElem?_toArray, List.getElem?_cons_zero, List.getElem?_cons_succ, Option.map_some]
    repeat (first
      | (refine wpS_move rfl ?_; simp only [Act.eval, Act.put, Array.getD_eq_getD_getElem?, List.getElem?_toArray, List.getElem?_cons_zero, List.getElem?_cons_succ, Option.getD_some, List.setIfInBounds_toArray, List.set_cons_zero, List.set_cons_succ])
      | (refine wpS_assign rfl ?_; simp only [Act.eval, Act.put, Array.getD_eq_getD_getElem?, List.getElem?_toArray, List.getElem?_cons_zero, List.getElem?_cons_succ, Option.getD_some, List.setIfInBounds_toArray, List.set_cons_zero, List.set_cons_succ])
      | (refine wpS_read (v := ?_) rfl ?_ ?_; rotate_left; (focus (intro w' hG; skip; go_simp; try (with_reducible rfl))); simp only [Act.put, List.setIfInBounds_toArray, List.set_cons_zero, List.set_cons_succ])
      | (refine wpS_skip rfl ?_; simp only [Act.put, List.setIfInBounds_toArray, List.set_cons_zero, List.set_cons_succ]))
    refine wpS_call (f := ?_) (args := ?_) (by rfl) ?_ ?_
    rotate_left 2; focus (go_simp; constructor <;> with_reducible rfl)
    refine (lives8_any w6.drew).mono ?_
    rintro e w7 ⟨rfl, g7⟩
    refine ⟨_, rfl, g7, ?_⟩
    simp only [Act.put, List.setIfInBounds_toArray, List.set_cons_zero, List.set_cons_succ]
    repeat (first
      | (refine wpS_move rfl ?_; simp only [Act.eval, Act.put, Array.getD_eq_getD_getElem?, List.getElem?_toArray, List.getElem?_cons_zero, List.getElem?_cons_succ, Option.getD_some, List.setIfInBounds_toArray, List.set_cons_zero, List.set_cons_succ])
      | (refine wpS_assign rfl ?_; simp only [Act.eval, Act.put, Array.getD_eq_getD_getElem?, List.getElem?_toArray, List.getElem?_cons_zero, List.getElem?_cons_succ, Option.getD_some, List.setIfInBounds_toArray, List.set_cons_zero, List.set_cons_succ])
      | (refine wpS_read (v := ?_) rfl ?_ ?_; rotate_left; (focus (intro w' hG; skip; go_simp; try (with_reducible rfl))); simp only [Act.put, List.setIfInBounds_toArray, List.set_cons_zero, List.set_cons_succ])
      | (refine wpS_skip rfl ?_; simp only [Act.put, List.setIfInBounds_toArray, List.set_cons_zero, List.set_cons_succ]))
    refine wpS_nil ?_
    go_wp2
    go_ret
    exact ⟨rfl, (Y.out.trans (Grow.refl w6).drew).trans g7⟩
  · rw [if_neg hco] at kq
    have hsc : (s : Int) ≤ (c1 : Int) := by omega
    have hs0 : (0 : Int) ≤ (s : Int) := by omega
    have hs63 : (s : Int) < 1000000 := by omega
    have hws : IntKind.i64.wrap (s : Int) = (s : Int) := by rw [IntKind.wrap_i64]; omega
    have hsl : (s : Int) ≤ 32 := by omega
    go_wp2
    refine wp_region_sched (by kernel_rfl) [(0, false), (1, false), (2, false), (3, false), (4, false), (5, false), (6, false), (7, false), (8, false), (9, false), (10, false), (11, false), (12, false), (13, false), (14, false), (15, false), (16, false), (17, false), (18, false), (19, false), (20, false), (21, false), (22, false), (23, false), (24, false), (25, false), (26, false), (27, false), (28, false), (29, false), (30, false), (31, false), (32, false), (33, false), (34, false), (35, false), (36, false), (37, false), (38, false), (39, false), (40, false), (41, false), (42, false), (43, true), (44, false), (45, false)] (by kernel_rfl) (by kernel_rfl) rfl (fun _ _ d _ _ h => by cases d <;> exact h) ?_
    simp only [inOrder, List.filterMap_cons, List.filterMap_nil, List.getElem?_toArray, List.getElem?_cons_zero, List.getElem?_cons_succ, Option.map_some]
    repeat (first
      | (refine wpS_move rfl ?_; simp only [Act.eval, Act.put, Array.getD_eq_getD_getElem?, List.getElem?_toArray, List.getElem?_cons_zero, List.getElem?_cons_succ, Option.getD_some, List.setIfInBounds_toArray, List.set_cons_zero, List.set_cons_succ])
      | (refine wpS_assign rfl ?_; simp only [Act.eval, Act.put, Array.getD_eq_getD_getElem?, List.getElem?_toArray, List.getElem?_cons_zero, List.getElem?_cons_succ, Option.getD_some, List.setIfInBounds_toArray, List.set_cons_zero, List.set_cons_succ])
      | (refine wpS_read (v := ?_) rfl ?_ ?_; rotate_left; (focus (intro w' hG; skip; go_simp; try (with_reducible rfl))); simp only [Act.put, List.setIfInBounds_toArray, List.set_cons_zero, List.set_cons_succ])
      | (refine wpS_skip rfl ?_; simp only [Act.put, List.setIfInBounds_toArray, List.set_cons_zero, List.set_cons_succ]))
    refine wpS_call (f := ?_) (args := ?_) (by rfl) ?_ ?_
    rotate_left 2; focus (go_simp; constructor <;> with_reducible rfl)
    refine (lives8_any w6.drew).mono ?_
    rintro e w7 ⟨rfl, g7⟩
    refine ⟨_, rfl, g7, ?_⟩
    simp only [Act.put, List.setIfInBounds_toArray, List.set_cons_zero, List.set_cons_succ]
    repeat (first
      | (refine wpS_move rfl ?_; simp only [Act.eval, Act.put, Array.getD_eq_getD_getElem?, List.getElem?_toArray, List.getElem?_cons_zero, List.getElem?_cons_succ, Option.getD_some, List.setIfInBounds_toArray, List.set_cons_zero, List.set_cons_succ])
      | (refine wpS_assign rfl ?_; simp only [Act.eval, Act.put, Array.getD_eq_getD_getElem?, List.getElem?_toArray, List.getElem?_cons_zero, List.getElem?_cons_succ, Option.getD_some, List.setIfInBounds_toArray, List.set_cons_zero, List.set_cons_succ])
      | (refine wpS_read (v := ?_) rfl ?_ ?_; rotate_left; (focus (intro w' hG; skip; go_simp; try (with_reducible rfl))); simp only [Act.put, List.setIfInBounds_toArray, List.set_cons_zero, List.set_cons_succ])
      | (refine wpS_skip rfl ?_; simp only [Act.put, List.setIfInBounds_toArray, List.set_cons_zero, List.set_cons_succ]))
    refine wpS_nil ?_
    go_wp2
    go_ret
    exact ⟨rfl, (Y.out.trans (Grow.refl w6).drew).trans g7⟩
end Go.Proofs.Ytlhkjmhdhpgjkaa
