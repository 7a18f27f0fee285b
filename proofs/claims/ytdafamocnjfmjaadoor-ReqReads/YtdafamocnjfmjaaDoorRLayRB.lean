/-
  The walks of the document's own reader, its texts (allotmentref01.R.Bytes). Conditions: each theorem's own.
-/
import Derived.Test.YtdafamocnjfmjaaDoorRLayR
namespace Go.Proofs.YtdafamocnjfmjaaDoor
open Go.RowKit
set_option linter.unusedVariables false
set_option linter.unusedSimpArgs false

set_option maxHeartbeats 2000000 in
theorem bytesW_short (c B : Nat) (zs : List Int) (i : Nat) (bad : Bool) (most : Int) (w : World) (h : RAt w c B zs i bad) (hs : bad = true ∨ zs.length < i + 8) (hi : i ≤ zs.length) (hl : zs.length ≤ 1000000) :
    Calls Tryd.prog 39 #[.pointer (some ⟨c, 0, none⟩), .int .i64 most] w fun e w' => e = .returned (.slice none 0 0) ∧ RAt w' c B zs i true ∧ Upd c w w' := by
  have HU : Hid (Calls Tryd.prog 38 #[.pointer (some ⟨c, 0, none⟩)] w fun e w' => e = .returned (.int .u64 0) ∧ RAt w' c B zs i true ∧ Upd c w w') := by
    cases bad
    · exact uintW_short c B zs i w h (by simpa using hs) hi hl
    · exact uintW_bad c B zs i w h
  clear h
  go_enter Tryd.func39, Tryd.ntmps39
  go_wp2_with fail
  refine HU.out.mono ?_
  rintro e w1 ⟨rfl, hr1, hu1⟩
  have hres := (hr1.upd (S := fun _ => False) (UpdS.refl _ w1).drew (fun _ f => f.elim) (fun f => f)).setBad
  obtain ⟨a, cp, h0, h1, h2, f0, f1, f2, hr, hB⟩ := hr1
  have k0 : ∀ w', Grow w1.drew w' → w'.cell? ⟨c, 0, none⟩ = some (.slice a zs.length cp) := fun w' hg => by
    rw [hg.cell (p := ⟨c, 0, none⟩) (World.block_lt_of_cell? _ _ h0)]; exact h0
  have k1 : ∀ w', Grow w1.drew w' → w'.cell? ⟨c, 1, none⟩ = some (.int .i64 (i : Int)) := fun w' hg => by
    rw [hg.cell (p := ⟨c, 1, none⟩) (World.block_lt_of_cell? _ _ h1)]; exact h1
  have k2 : ∀ w', Grow w1.drew w' → w'.cell? ⟨c, 2, none⟩ = some (.bool true) := fun w' hg => by
    rw [hg.cell (p := ⟨c, 2, none⟩) (World.block_lt_of_cell? _ _ h2)]; exact h2
  go_wp2
  refine wp_region_sched (by kernel_rfl) [(0, false), (1, false), (2, false), (3, false), (4, false), (5, false), (6, false), (7, false), (8, false), (9, false), (10, false), (11, false), (12, false), (13, false), (14, false), (15, false), (16, false), (17, false), (18, false), (19, false), (20, false), (21, false), (22, false), (23, false), (24, false), (25, false), (26, false), (27, false), (28, false)] (by kernel_rfl) (by kernel_rfl) rfl (fun _ _ d _ _ h => by cases d <;> exact h) ?_
  simp only [inOrder, List.filterMap_cons, List.filterMap_nil, List.getElem?_toArray, List.getElem?_cons_zero, List.getElem?_cons_succ, Option.map_some]
  repeat (first
    | (refine wpS_move rfl ?_; simp only [Act.eval, Act.put, Array.getD_eq_getD_getElem?, List.getElem?_toArray, List.getElem?_cons_zero, List.getElem?_cons_succ, Option.getD_some, List.setIfInBounds_toArray, List.set_cons_zero, List.set_cons_succ])
    | (refine wpS_assign rfl ?_; simp only [Act.eval, Act.put, Array.getD_eq_getD_getElem?, List.getElem?_toArray, List.getElem?_cons_zero, List.getElem?_cons_succ, Option.getD_some, List.setIfInBounds_toArray, List.set_cons_zero, List.set_cons_succ])
    | (refine wpS_read (v := ?_) rfl ?_ ?_; rotate_left; (focus (intro w' hG; go_simp; try (with_reducible rfl))); simp only [Act.put, List.setIfInBounds_toArray, List.set_cons_zero, List.set_cons_succ])
    | (refine wpS_skip rfl ?_; simp only [Act.put, List.setIfInBounds_toArray, List.set_cons_zero, List.set_cons_succ]))
  refine wpS_nil ?_
  clear k0 k1 k2
  go_wp2
  go_ret
  exact ⟨rfl, hres, (hu1.drew).trans (Upd.setCell c 2 _ _)⟩

set_option maxHeartbeats 2000000 in
theorem bytesW_bad (c B : Nat) (zs : List Int) (i i' : Nat) (most n : Int) (w : World) (h : RAt w c B zs i false) (hby : Byte zs) (hs : i + 8 ≤ zs.length) (hl : zs.length ≤ 1000000) (hi' : i' = i + 8) (hm : (Lit.int .i64 most).wf = true) (hn : val ((zs.drop i).take 8) = n)
    (hb : most < 0 ∨ most < n ∨ (zs.length : Int) - (i' : Int) < n) :
    Calls Tryd.prog 39 #[.pointer (some ⟨c, 0, none⟩), .int .i64 most] w fun e w' => e = .returned (.slice none 0 0) ∧ RAt w' c B zs i' true ∧ Upd c w w' := by
  have hmb := bounds_i64 hm
  have hn0 := val_bd ((zs.drop i).take 8) ((hby.drop i).take 8)
  rw [hn, List.length_take, List.length_drop, show min 8 (zs.length - i) = 8 by omega, show (256 : Int) ^ 8 = 18446744073709551616 by decide] at hn0
  obtain ⟨hn0, hn1⟩ := hn0
  have hu := uintW_ok c B zs i w h hby hs hl
  rw [hn, ← hi'] at hu
  have HU : Hid (Calls Tryd.prog 38 #[.pointer (some ⟨c, 0, none⟩)] w fun e w' => e = .returned (.int .u64 n) ∧ RAt w' c B zs i' false ∧ Upd c w w') := hu
  have hil : (i' : Int) ≤ (zs.length : Int) := by omega
  clear hu hn h hi' hs
  by_cases hm0 : most < 0
  · have hd : decide (most < 0) = true := by simp; omega
    go_enter Tryd.func39, Tryd.ntmps39
    go_wp2_with fail
    refine HU.out.mono ?_
    rintro e w1 ⟨rfl, hr1, hu1⟩
    have hres := (hr1.upd (S := fun _ => False) (UpdS.refl _ w1).drew (fun _ f => f.elim) (fun f => f)).setBad
    obtain ⟨a, cp, h0, h1, h2, f0, f1, f2, hr, hB⟩ := hr1
    have k0 : ∀ w', Grow w1.drew w' → w'.cell? ⟨c, 0, none⟩ = some (.slice a zs.length cp) := fun w' hg => by
      rw [hg.cell (p := ⟨c, 0, none⟩) (World.block_lt_of_cell? _ _ h0)]; exact h0
    have k1 : ∀ w', Grow w1.drew w' → w'.cell? ⟨c, 1, none⟩ = some (.int .i64 (i' : Int)) := fun w' hg => by
      rw [hg.cell (p := ⟨c, 1, none⟩) (World.block_lt_of_cell? _ _ h1)]; exact h1
    have k2 : ∀ w', Grow w1.drew w' → w'.cell? ⟨c, 2, none⟩ = some (.bool false) := fun w' hg => by
      rw [hg.cell (p := ⟨c, 2, none⟩) (World.block_lt_of_cell? _ _ h2)]; exact h2
    go_wp2
    refine wp_region_sched (by kernel_rfl) [(0, false), (1, false), (2, false), (3, false), (4, false), (5, false), (6, false), (7, false), (8, false), (9, false), (10, false), (11, false), (12, false), (13, false), (14, false), (15, false), (16, false), (17, false), (18, false), (19, false), (20, false), (21, false), (22, false), (23, false), (24, false), (25, false), (26, false), (27, false), (28, false)] (by kernel_rfl) (by kernel_rfl) rfl (fun _ _ d _ _ h => by cases d <;> exact h) ?_
    simp only [inOrder, List.filterMap_cons, List.filterMap_nil, List.getElem?_toArray, List.getElem?_cons_zero, List.getElem?_cons_succ, Option.map_some]
    repeat (first
      | (refine wpS_move rfl ?_; simp only [Act.eval, Act.put, Array.getD_eq_getD_getElem?, List.getElem?_toArray, List.getElem?_cons_zero, List.getElem?_cons_succ, Option.getD_some, List.setIfInBounds_toArray, List.set_cons_zero, List.set_cons_succ])
      | (refine wpS_assign rfl ?_; simp only [Act.eval, Act.put, Array.getD_eq_getD_getElem?, List.getElem?_toArray, List.getElem?_cons_zero, List.getElem?_cons_succ, Option.getD_some, List.setIfInBounds_toArray, List.set_cons_zero, List.set_cons_succ])
      | (refine wpS_read (v := ?_) rfl ?_ ?_; rotate_left; (focus (intro w' hG; go_simp; try (with_reducible rfl))); simp only [Act.put, List.setIfInBounds_toArray, List.set_cons_zero, List.set_cons_succ])
      | (refine wpS_skip rfl ?_; simp only [Act.put, List.setIfInBounds_toArray, List.set_cons_zero, List.set_cons_succ]))
    refine wpS_nil ?_
    clear k0 k1 k2
    go_wp2
    go_ret
    exact ⟨rfl, hres, (hu1.drew).trans (Upd.setCell c 2 _ _)⟩
  · have hd : decide (most < 0) = false := by simp; omega
    have hm1 : IntKind.u64.wrap most = most := by rw [IntKind.wrap_u64]; omega
    by_cases hnm : most < n
    · have hd2 : decide (most < n) = true := by simp; omega
      go_enter Tryd.func39, Tryd.ntmps39
      go_wp2_with fail
      refine HU.out.mono ?_
      rintro e w1 ⟨rfl, hr1, hu1⟩
      have hres := (hr1.upd (S := fun _ => False) (UpdS.refl _ w1).drew (fun _ f => f.elim) (fun f => f)).setBad
      obtain ⟨a, cp, h0, h1, h2, f0, f1, f2, hr, hB⟩ := hr1
      have k0 : ∀ w', Grow w1.drew w' → w'.cell? ⟨c, 0, none⟩ = some (.slice a zs.length cp) := fun w' hg => by
        rw [hg.cell (p := ⟨c, 0, none⟩) (World.block_lt_of_cell? _ _ h0)]; exact h0
      have k1 : ∀ w', Grow w1.drew w' → w'.cell? ⟨c, 1, none⟩ = some (.int .i64 (i' : Int)) := fun w' hg => by
        rw [hg.cell (p := ⟨c, 1, none⟩) (World.block_lt_of_cell? _ _ h1)]; exact h1
      have k2 : ∀ w', Grow w1.drew w' → w'.cell? ⟨c, 2, none⟩ = some (.bool false) := fun w' hg => by
        rw [hg.cell (p := ⟨c, 2, none⟩) (World.block_lt_of_cell? _ _ h2)]; exact h2
      go_wp2
      refine wp_region_sched (by kernel_rfl) [(0, false), (1, false), (2, false), (3, false), (4, false), (5, false), (6, false), (7, false), (8, false), (9, false), (10, false), (11, false), (12, false), (13, false), (14, false), (15, false), (16, false), (17, false), (18, false), (19, false), (20, false), (21, false), (22, false), (23, false), (24, false), (25, false), (26, false), (27, false), (28, false)] (by kernel_rfl) (by kernel_rfl) rfl (fun _ _ d _ _ h => by cases d <;> exact h) ?_
      simp only [inOrder, List.filterMap_cons, List.filterMap_nil, List.getElem?_toArray, List.getElem?_cons_zero, List.getElem?_cons_succ, Option.map_some]
      repeat (first
        | (refine wpS_move rfl ?_; simp only [Act.eval, Act.put, Array.getD_eq_getD_getElem?, List.getElem?_toArray, List.getElem?_cons_zero, List.getElem?_cons_succ, Option.getD_some, List.setIfInBounds_toArray, List.set_cons_zero, List.set_cons_succ])
        | (refine wpS_assign rfl ?_; simp only [Act.eval, Act.put, Array.getD_eq_getD_getElem?, List.getElem?_toArray, List.getElem?_cons_zero, List.getElem?_cons_succ, Option.getD_some, List.setIfInBounds_toArray, List.set_cons_zero, List.set_cons_succ])
        | (refine wpS_read (v := ?_) rfl ?_ ?_; rotate_left; (focus (intro w' hG; go_simp; try (with_reducible rfl))); simp only [Act.put, List.setIfInBounds_toArray, List.set_cons_zero, List.set_cons_succ])
        | (refine wpS_skip rfl ?_; simp only [Act.put, List.setIfInBounds_toArray, List.set_cons_zero, List.set_cons_succ]))
      refine wpS_nil ?_
      clear k0 k1 k2
      go_wp2
      go_ret
      exact ⟨rfl, hres, (hu1.drew).trans (Upd.setCell c 2 _ _)⟩
    · have hd2 : decide (most < n) = false := by simp; omega
      have hwr : IntKind.i64.wrap ((zs.length : Int) - (i' : Int)) = (zs.length : Int) - (i' : Int) := by rw [IntKind.wrap_i64]; omega
      have hwu : IntKind.u64.wrap ((zs.length : Int) - (i' : Int)) = (zs.length : Int) - (i' : Int) := by rw [IntKind.wrap_u64]; omega
      have hd3 : decide ((zs.length : Int) - (i' : Int) < n) = true := by simp; omega
      have hlt3 : (zs.length : Int) - (i' : Int) < n := by omega
      go_enter Tryd.func39, Tryd.ntmps39
      go_wp2_with fail
      refine HU.out.mono ?_
      rintro e w1 ⟨rfl, hr1, hu1⟩
      have hres := (hr1.upd (S := fun _ => False) (UpdS.refl _ w1).drew (fun _ f => f.elim) (fun f => f)).setBad
      obtain ⟨a, cp, h0, h1, h2, f0, f1, f2, hr, hB⟩ := hr1
      have k0 : ∀ w', Grow w1.drew w' → w'.cell? ⟨c, 0, none⟩ = some (.slice a zs.length cp) := fun w' hg => by
        rw [hg.cell (p := ⟨c, 0, none⟩) (World.block_lt_of_cell? _ _ h0)]; exact h0
      have k1 : ∀ w', Grow w1.drew w' → w'.cell? ⟨c, 1, none⟩ = some (.int .i64 (i' : Int)) := fun w' hg => by
        rw [hg.cell (p := ⟨c, 1, none⟩) (World.block_lt_of_cell? _ _ h1)]; exact h1
      have k2 : ∀ w', Grow w1.drew w' → w'.cell? ⟨c, 2, none⟩ = some (.bool false) := fun w' hg => by
        rw [hg.cell (p := ⟨c, 2, none⟩) (World.block_lt_of_cell? _ _ h2)]; exact h2
      go_wp2
      refine wp_region_sched (by kernel_rfl) [(0, false), (1, false), (2, false), (3, false), (4, false), (5, false), (6, false), (7, false), (8, false), (9, false), (10, false), (11, false), (12, false), (13, false), (14, false), (15, false), (16, false), (17, false), (18, false), (19, false), (20, false), (21, false), (22, false), (23, false), (24, false), (25, false), (26, false), (27, false), (28, false)] (by kernel_rfl) (by kernel_rfl) rfl (fun _ _ d _ _ h => by cases d <;> exact h) ?_
      simp only [inOrder, List.filterMap_cons, List.filterMap_nil, List.getElem?_toArray, List.getElem?_cons_zero, List.getElem?_cons_succ, Option.map_some]
      repeat (first
        | (refine wpS_move rfl ?_; simp only [Act.eval, Act.put, Array.getD_eq_getD_getElem?, List.getElem?_toArray, List.getElem?_cons_zero, List.getElem?_cons_succ, Option.getD_some, List.setIfInBounds_toArray, List.set_cons_zero, List.set_cons_succ])
        | (refine wpS_assign rfl ?_; simp only [Act.eval, Act.put, Array.getD_eq_getD_getElem?, List.getElem?_toArray, List.getElem?_cons_zero, List.getElem?_cons_succ, Option.getD_some, List.setIfInBounds_toArray, List.set_cons_zero, List.set_cons_succ])
        | (refine wpS_read (v := ?_) rfl ?_ ?_; rotate_left; (focus (intro w' hG; go_simp; try (with_reducible rfl))); simp only [Act.put, List.setIfInBounds_toArray, List.set_cons_zero, List.set_cons_succ])
        | (refine wpS_skip rfl ?_; simp only [Act.put, List.setIfInBounds_toArray, List.set_cons_zero, List.set_cons_succ]))
      refine wpS_nil ?_
      clear k0 k1 k2
      go_wp2
      go_ret
      exact ⟨rfl, hres, (hu1.drew).trans (Upd.setCell c 2 _ _)⟩

set_option maxHeartbeats 2000000 in
theorem bytesW_ok (c B : Nat) (zs : List Int) (i i' : Nat) (most : Int) (n : Nat) (w : World) (h : RAt w c B zs i false) (hby : Byte zs) (hs : i + 8 ≤ zs.length) (hl : zs.length ≤ 1000000) (hi' : i' = i + 8) (hm : (Lit.int .i64 most).wf = true) (hn : val ((zs.drop i).take 8) = n)
    (hmn : (n : Int) ≤ most) (hrn : n + i' ≤ zs.length) :
    Calls Tryd.prog 39 #[.pointer (some ⟨c, 0, none⟩), .int .i64 most] w fun e w' => ∃ v, e = .returned v ∧ Rd .u8 B w' v ((zs.drop i').take n) ∧ RAt w' c B zs (i' + n) false ∧ Upd c w w' := by
  have hmb := bounds_i64 hm
  have hu := uintW_ok c B zs i w h hby hs hl
  rw [hn, ← hi'] at hu
  have HU : Hid (Calls Tryd.prog 38 #[.pointer (some ⟨c, 0, none⟩)] w fun e w' => e = .returned (.int .u64 n) ∧ RAt w' c B zs i' false ∧ Upd c w w') := hu
  have hil : (i' : Int) ≤ (zs.length : Int) := by omega
  clear hu hn h hi' hs
  have hm0 : ¬ most < 0 := by omega
  have hd : decide (most < 0) = false := by simp; omega
  have hm1 : IntKind.u64.wrap most = most := by rw [IntKind.wrap_u64]; omega
  have hd2 : decide (most < (n : Int)) = false := by simp; omega
  have hnm : ¬ most < (n : Int) := by omega
  have hwr : IntKind.i64.wrap ((zs.length : Int) - (i' : Int)) = (zs.length : Int) - (i' : Int) := by rw [IntKind.wrap_i64]; omega
  have hwu : IntKind.u64.wrap ((zs.length : Int) - (i' : Int)) = (zs.length : Int) - (i' : Int) := by rw [IntKind.wrap_u64]; omega
  have hd3 : decide ((zs.length : Int) - (i' : Int) < (n : Int)) = false := by simp; omega
  have hlt3 : ¬ (zs.length : Int) - (i' : Int) < (n : Int) := by omega
  have hwn : IntKind.i64.wrap ((i' : Int) + (n : Int)) = ((i' + n : Nat) : Int) := by rw [IntKind.wrap_i64]; omega
  go_enter Tryd.func39, Tryd.ntmps39
  go_wp2_with fail
  refine HU.out.mono ?_
  rintro e w1 ⟨rfl, hr1, hu1⟩
  have HR1 : Hid (RAt w1 c B zs i' false) := hr1
  obtain ⟨a, cp, h0, h1, h2, f0, f1, f2, hr, hB⟩ := hr1
  have k0 : ∀ w', Grow w1.drew w' → w'.cell? ⟨c, 0, none⟩ = some (.slice a zs.length cp) := fun w' hg => by
    rw [hg.cell (p := ⟨c, 0, none⟩) (World.block_lt_of_cell? _ _ h0)]; exact h0
  have k1 : ∀ w', Grow w1.drew w' → w'.cell? ⟨c, 1, none⟩ = some (.int .i64 (i' : Int)) := fun w' hg => by
    rw [hg.cell (p := ⟨c, 1, none⟩) (World.block_lt_of_cell? _ _ h1)]; exact h1
  have k2 : ∀ w', Grow w1.drew w' → w'.cell? ⟨c, 2, none⟩ = some (.bool false) := fun w' hg => by
    rw [hg.cell (p := ⟨c, 2, none⟩) (World.block_lt_of_cell? _ _ h2)]; exact h2
  go_wp2
  refine wp_region_sched (by kernel_rfl) [(0, false), (1, false), (2, false), (3, false), (4, false), (5, false), (6, false), (7, false), (8, false), (9, false), (10, false), (11, false), (12, false), (13, false), (14, false), (15, false), (16, false), (17, false), (18, false), (19, false), (20, false), (21, false), (22, false), (23, false), (24, false), (25, false), (26, false), (27, false), (28, false)] (by kernel_rfl) (by kernel_rfl) rfl (fun _ _ d _ _ h => by cases d <;> exact h) ?_
  simp only [inOrder, List.filterMap_cons, List.filterMap_nil, List.getElem?_toArray, List.getElem?_cons_zero, List.getElem?_cons_succ, Option.map_some]
  repeat (first
    | (refine wpS_move rfl ?_; simp only [Act.eval, Act.put, Array.getD_eq_getD_getElem?, List.getElem?_toArray, List.getElem?_cons_zero, List.getElem?_cons_succ, Option.getD_some, List.setIfInBounds_toArray, List.set_cons_zero, List.set_cons_succ])
    | (refine wpS_assign rfl ?_; simp only [Act.eval, Act.put, Array.getD_eq_getD_getElem?, List.getElem?_toArray, List.getElem?_cons_zero, List.getElem?_cons_succ, Option.getD_some, List.setIfInBounds_toArray, List.set_cons_zero, List.set_cons_succ])
    | (refine wpS_read (v := ?_) rfl ?_ ?_; rotate_left; (focus (intro w' hG; go_simp; try (with_reducible rfl))); simp only [Act.put, List.setIfInBounds_toArray, List.set_cons_zero, List.set_cons_succ])
    | (refine wpS_skip rfl ?_; simp only [Act.put, List.setIfInBounds_toArray, List.set_cons_zero, List.set_cons_succ]))
  refine wpS_nil ?_
  replace k0 : ∀ w', Grow w1.drew.drew w' → w'.cell? ⟨c, 0, none⟩ = some (.slice a zs.length cp) := fun w' hg => k0 w' (Grow.trans (Grow.refl w1.drew).drew hg)
  replace k1 : ∀ w', Grow w1.drew.drew w' → w'.cell? ⟨c, 1, none⟩ = some (.int .i64 (i' : Int)) := fun w' hg => k1 w' (Grow.trans (Grow.refl w1.drew).drew hg)
  obtain ⟨-, hlc, hcm⟩ := hr.caps
  unfold maxLen at hcm
  have hil2 : (i' : Int) ≤ ((i' + n : Nat) : Int) := by omega
  have hil3 : ((i' + n : Nat) : Int) ≤ (cp : Int) := by omega
  have hg1 : Grow w1 w1.drew.drew := (Grow.refl w1).drew.drew
  have hrd : Rd .u8 B w1.drew.drew (.slice (if cp = i' then a else a.map (·.add i')) n (cp - i')) ((zs.drop i').take n) := ((hr.below (hg1.below (by have := HR1.out.lt; omega))).drop i' (by omega)).take n (by rw [List.length_drop]; omega)
  generalize hnn : i' + n = nn at *
  have hnn' : nn - i' = n := by omega
  go_wp2
  refine wp_region_sched (by kernel_rfl) [(0, false), (1, false), (2, false), (3, false), (4, false), (5, false), (6, false), (7, false), (8, false), (9, false), (10, false), (11, false), (12, false), (13, false), (14, false), (15, false)] (by kernel_rfl) (by kernel_rfl) rfl (fun _ _ d _ _ h => by cases d <;> exact h) ?_
  simp only [inOrder, List.filterMap_cons, List.filterMap_nil, List.getElem?_toArray, List.getElem?_cons_zero, List.getElem?_cons_succ, Option.map_some]
  repeat (first
    | (refine wpS_move rfl ?_; simp only [Act.eval, Act.put, Array.getD_eq_getD_getElem?, List.getElem?_toArray, List.getElem?_cons_zero, List.getElem?_cons_succ, Option.getD_some, List.setIfInBounds_toArray, List.set_cons_zero, List.set_cons_succ])
    | (refine wpS_assign rfl ?_; simp only [Act.eval, Act.put, Array.getD_eq_getD_getElem?, List.getElem?_toArray, List.getElem?_cons_zero, List.getElem?_cons_succ, Option.getD_some, List.setIfInBounds_toArray, List.set_cons_zero, List.set_cons_succ])
    | (refine wpS_read (v := ?_) rfl ?_ ?_; rotate_left; (focus (intro w' hG; go_simp; try (with_reducible rfl))); simp only [Act.put, List.setIfInBounds_toArray, List.set_cons_zero, List.set_cons_succ])
    | (refine wpS_skip rfl ?_; simp only [Act.put, List.setIfInBounds_toArray, List.set_cons_zero, List.set_cons_succ]))
  refine wpS_nil ?_
  clear k0 k1 k2 hwn
  generalize (if cp = i' then a else a.map (·.add i')) = ax at *
  have hsum : (i' : Int) + (n : Int) ≤ 1000000 := by omega
  have hres := (HR1.out.grow hg1).setI (i' := i' + n)
  rw [show ((i' + n : Nat) : Int) = (i' : Int) + (n : Int) by omega] at hres
  have HRES : Hid (RAt (w1.drew.drew.setCell ⟨c, 1, none⟩ (.int .i64 ((i' : Int) + (n : Int)))) c B zs (i' + n) false) := hres
  have hrd2 := hrd.below (((Upd.setCell c 1 (.int .i64 ((i' : Int) + (n : Int))) w1.drew.drew).below (Nat.le_of_lt (HR1.out.grow hg1).lt)).mono hB)
  clear hres hrd hnn hnn' hil2 hil3
  go_wp2
  go_ret
  exact ⟨_, rfl, hrd2, HRES.out, hu1.drew.drew.trans (Upd.setCell c 1 _ _)⟩
end Go.Proofs.YtdafamocnjfmjaaDoor
