/-
  The walks of the document's own reader (allotmentref01.R). Conditions: each theorem's own.
-/
import Derived.Test.YtdafamocnjfmjaaDoorLayReader
namespace Go.Proofs.YtdafamocnjfmjaaDoor
open Go.RowKit
set_option linter.unusedVariables false
set_option linter.unusedSimpArgs false

theorem drop_cons (ys : List Int) (j : Nat) (h : j < ys.length) : ys.drop j = ys.getD j 0 :: ys.drop (j + 1) := by
  rw [List.drop_eq_getElem_cons h]
  simp [List.getD, List.getElem?_eq_getElem h]

set_option maxHeartbeats 2000000 in
theorem uintW_bad (c B : Nat) (zs : List Int) (i : Nat) (w : World) (h : RAt w c B zs i true) :
    Calls Tryd.prog 38 #[.pointer (some ⟨c, 0, none⟩)] w fun e w' => e = .returned (.int .u64 0) ∧ RAt w' c B zs i true ∧ Upd c w w' := by
  have hres := (h.upd (S := fun _ => False) (UpdS.refl _ w).drew (fun _ f => f.elim) (fun f => f)).setBad
  obtain ⟨a, cp, h0, h1, h2, f0, f1, f2, hr, hB⟩ := h
  have k2 : ∀ w', Grow w.drew w' → w'.cell? ⟨c, 2, none⟩ = some (.bool true) := fun w' hg => by
    rw [hg.cell (p := ⟨c, 2, none⟩) (World.block_lt_of_cell? _ _ h2)]; exact h2
  go_enter Tryd.func38, Tryd.ntmps38
  go_wp2
  refine wp_region_sched (by kernel_rfl) [(0, false), (1, false), (2, false), (3, false), (4, false), (5, false), (6, false), (7, false), (8, false), (9, false), (10, false), (11, false), (12, false), (13, false), (14, false), (15, false), (16, false)] (by kernel_rfl) (by kernel_rfl) rfl (fun _ _ d _ _ h => by cases d <;> exact h) ?_
  simp only [inOrder, List.filterMap_cons, List.filterMap_nil, List.getElem?_toArray, List.getElem?_cons_zero, List.getElem?_cons_succ, Option.map_some]
  repeat (first
    | (refine wpS_move rfl ?_; simp only [Act.eval, Act.put, Array.getD_eq_getD_getElem?, List.getElem?_toArray, List.getElem?_cons_zero, List.getElem?_cons_succ, Option.getD_some, List.setIfInBounds_toArray, List.set_cons_zero, List.set_cons_succ])
    | (refine wpS_assign rfl ?_; simp only [Act.eval, Act.put, Array.getD_eq_getD_getElem?, List.getElem?_toArray, List.getElem?_cons_zero, List.getElem?_cons_succ, Option.getD_some, List.setIfInBounds_toArray, List.set_cons_zero, List.set_cons_succ])
    | (refine wpS_read (v := ?_) rfl ?_ ?_; rotate_left; (focus (intro w' hG; go_simp; try (with_reducible rfl))); simp only [Act.put, List.setIfInBounds_toArray, List.set_cons_zero, List.set_cons_succ])
    | (refine wpS_skip rfl ?_; simp only [Act.put, List.setIfInBounds_toArray, List.set_cons_zero, List.set_cons_succ]))
  refine wpS_nil ?_
  clear k2
  go_wp2
  go_ret
  exact ⟨rfl, hres, (Upd.refl c w).drew.trans (Upd.setCell c 2 _ _)⟩

set_option maxHeartbeats 2000000 in
theorem uintW_short (c B : Nat) (zs : List Int) (i : Nat) (w : World) (h : RAt w c B zs i false) (hs : zs.length < i + 8) (hi : i ≤ zs.length) (hl : zs.length ≤ 1000000) :
    Calls Tryd.prog 38 #[.pointer (some ⟨c, 0, none⟩)] w fun e w' => e = .returned (.int .u64 0) ∧ RAt w' c B zs i true ∧ Upd c w w' := by
  have hres := (h.upd (S := fun _ => False) (UpdS.refl _ w).drew (fun _ f => f.elim) (fun f => f)).setBad
  obtain ⟨a, cp, h0, h1, h2, f0, f1, f2, hr, hB⟩ := h
  have k0 : ∀ w', Grow w.drew w' → w'.cell? ⟨c, 0, none⟩ = some (.slice a zs.length cp) := fun w' hg => by
    rw [hg.cell (p := ⟨c, 0, none⟩) (World.block_lt_of_cell? _ _ h0)]; exact h0
  have k1 : ∀ w', Grow w.drew w' → w'.cell? ⟨c, 1, none⟩ = some (.int .i64 i) := fun w' hg => by
    rw [hg.cell (p := ⟨c, 1, none⟩) (World.block_lt_of_cell? _ _ h1)]; exact h1
  have k2 : ∀ w', Grow w.drew w' → w'.cell? ⟨c, 2, none⟩ = some (.bool false) := fun w' hg => by
    rw [hg.cell (p := ⟨c, 2, none⟩) (World.block_lt_of_cell? _ _ h2)]; exact h2
  have hwr : IntKind.i64.wrap ((zs.length : Int) - (i : Int)) = (zs.length : Int) - (i : Int) := by rw [IntKind.wrap_i64]; omega
  have hd : decide ((zs.length : Int) - (i : Int) < 8) = true := by simp; omega
  go_enter Tryd.func38, Tryd.ntmps38
  go_wp2
  refine wp_region_sched (by kernel_rfl) [(0, false), (1, false), (2, false), (3, false), (4, false), (5, false), (6, false), (7, false), (8, false), (9, false), (10, false), (11, false), (12, false), (13, false), (14, false), (15, false), (16, false)] (by kernel_rfl) (by kernel_rfl) rfl (fun _ _ d _ _ h => by cases d <;> exact h) ?_
  simp only [inOrder, List.filterMap_cons, List.filterMap_nil, List.getElem?_toArray, List.getElem?_cons_zero, List.getElem?_cons_succ, Option.map_some]
  repeat (first
    | (refine wpS_move rfl ?_; simp only [Act.eval, Act.put, Array.getD_eq_getD_getElem?, List.getElem?_toArray, List.getElem?_cons_zero, List.getElem?_cons_succ, Option.getD_some, List.setIfInBounds_toArray, List.set_cons_zero, List.set_cons_succ])
    | (refine wpS_assign rfl ?_; simp only [Act.eval, Act.put, Array.getD_eq_getD_getElem?, List.getElem?_toArray, List.getElem?_cons_zero, List.getElem?_cons_succ, Option.getD_some, List.setIfInBounds_toArray, List.set_cons_zero, List.set_cons_succ])
    | (refine wpS_read (v := ?_) rfl ?_ ?_; rotate_left; (focus (intro w' hG; go_simp; try (with_reducible rfl))); simp only [Act.put, List.setIfInBounds_toArray, List.set_cons_zero, List.set_cons_succ])
    | (refine wpS_skip rfl ?_; simp only [Act.put, List.setIfInBounds_toArray, List.set_cons_zero, List.set_cons_succ]))
  refine wpS_nil ?_
  clear k0 k1 k2 hwr
  go_wp2
  go_ret
  exact ⟨rfl, hres, (Upd.refl c w).drew.trans (Upd.setCell c 2 _ _)⟩


set_option maxHeartbeats 2000000 in
theorem uintW_ok (c B : Nat) (zs : List Int) (i : Nat) (w : World) (h : RAt w c B zs i false) (hby : Byte zs) (hs : i + 8 ≤ zs.length) (hl : zs.length ≤ 1000000) :
    Calls Tryd.prog 38 #[.pointer (some ⟨c, 0, none⟩)] w fun e w' => e = .returned (.int .u64 (val ((zs.drop i).take 8))) ∧ RAt w' c B zs (i + 8) false ∧ Upd c w w' := by
  have hlt := h.lt
  have hresAll : ∀ w', Grow w w' → RAt (w'.setCell ⟨c, 1, none⟩ (.int .i64 ((i : Int) + 8))) c B zs (i + 8) false ∧ Upd c w (w'.setCell ⟨c, 1, none⟩ (.int .i64 ((i : Int) + 8))) := fun w' hg => by
    have := (h.grow hg).setI (i' := i + 8)
    rw [show ((i + 8 : Nat) : Int) = (i : Int) + 8 by omega] at this
    exact ⟨this, hg.upd.trans (Upd.setCell c 1 _ _)⟩
  have HRes : Hid (∀ w', Grow w w' → RAt (w'.setCell ⟨c, 1, none⟩ (.int .i64 ((i : Int) + 8))) c B zs (i + 8) false ∧ Upd c w (w'.setCell ⟨c, 1, none⟩ (.int .i64 ((i : Int) + 8)))) := hresAll
  clear hresAll
  obtain ⟨a, cp, h0, h1, h2, f0, f1, f2, hr, hB⟩ := h
  obtain ⟨-, hlc, hcm, b, o, ha, hbB, hcells⟩ := hr.addr (by omega)
  subst ha
  have HC : Hid (∀ w', Grow w w' → ∀ j, j < zs.length → w'.cell? ⟨b, o + j, none⟩ = some (.int .u8 (zs.getD j 0))) := fun w' hg j hj => by
    rw [hg.cell (p := ⟨b, o + j, none⟩) (World.block_lt_of_cell? _ _ (hcells j hj))]; exact hcells j hj
  clear hcells
  have HK0 : Hid (∀ w', Grow w w' → w'.cell? ⟨c, 0, none⟩ = some (.slice (some ⟨b, o, none⟩) zs.length cp)) := fun w' hg => by
    rw [hg.cell (p := ⟨c, 0, none⟩) hlt]; exact h0
  have HK1 : Hid (∀ w', Grow w w' → w'.cell? ⟨c, 1, none⟩ = some (.int .i64 i)) := fun w' hg => by
    rw [hg.cell (p := ⟨c, 1, none⟩) hlt]; exact h1
  have HK2 : Hid (∀ w', Grow w w' → w'.cell? ⟨c, 2, none⟩ = some (.bool false)) := fun w' hg => by
    rw [hg.cell (p := ⟨c, 2, none⟩) hlt]; exact h2
  have HF : Hid (∀ w', Grow w w' → w'.frozen? ⟨c, 1, none⟩ = false) := fun w' hg => by
    rw [hg.frozen (p := ⟨c, 1, none⟩) hlt]; exact f1
  have hwr : IntKind.i64.wrap ((zs.length : Int) - (i : Int)) = (zs.length : Int) - (i : Int) := by rw [IntKind.wrap_i64]; omega
  have hd : decide ((zs.length : Int) - (i : Int) < 8) = false := by simp; omega
  have hn8 : ¬ (zs.length : Int) - (i : Int) < 8 := by omega
  have hyl : ((zs.drop i).take 8).length = 8 := by rw [List.length_take, List.length_drop]; omega
  have hyb : Byte ((zs.drop i).take 8) := (hby.drop i).take 8
  have HY : Hid (∀ j, j < 8 → ((zs.drop i).take 8).getD j 0 = zs.getD (i + j) 0) := fun j hj => by simp [List.getD, List.getElem?_take, List.getElem?_drop, hj]
  have k0 := fun w' (hg : Grow w.drew w') => HK0.out w' (Grow.trans (Grow.refl w).drew hg)
  have k1 := fun w' (hg : Grow w.drew w') => HK1.out w' (Grow.trans (Grow.refl w).drew hg)
  have k2 := fun w' (hg : Grow w.drew w') => HK2.out w' (Grow.trans (Grow.refl w).drew hg)
  clear h0 h1 h2 f0 f1 f2
  go_enter Tryd.func38, Tryd.ntmps38
  go_wp2
  refine wp_region_sched (by kernel_rfl) [(0, false), (1, false), (2, false), (3, false), (4, false), (5, false), (6, false), (7, false), (8, false), (9, false), (10, false), (11, false), (12, false), (13, false), (14, false), (15, false), (16, false)] (by kernel_rfl) (by kernel_rfl) rfl (fun _ _ d _ _ h => by cases d <;> exact h) ?_
  simp only [inOrder, List.filterMap_cons, List.filterMap_nil, List.getElem?_toArray, List.getElem?_cons_zero, List.getElem?_cons_succ, Option.map_some]
  repeat (first
    | (refine wpS_move rfl ?_; simp only [Act.eval, Act.put, Array.getD_eq_getD_getElem?, List.getElem?_toArray, List.getElem?_cons_zero, List.getElem?_cons_succ, Option.getD_some, List.setIfInBounds_toArray, List.set_cons_zero, List.set_cons_succ])
    | (refine wpS_assign rfl ?_; simp only [Act.eval, Act.put, Array.getD_eq_getD_getElem?, List.getElem?_toArray, List.getElem?_cons_zero, List.getElem?_cons_succ, Option.getD_some, List.setIfInBounds_toArray, List.set_cons_zero, List.set_cons_succ])
    | (refine wpS_read (v := ?_) rfl ?_ ?_; rotate_left; (focus (intro w' hG; go_simp; try (with_reducible rfl))); simp only [Act.put, List.setIfInBounds_toArray, List.set_cons_zero, List.set_cons_succ])
    | (refine wpS_skip rfl ?_; simp only [Act.put, List.setIfInBounds_toArray, List.set_cons_zero, List.set_cons_succ]))
  refine wpS_nil ?_
  clear k0 k1 k2 hwr
  go_wp2
  go_loopg [3, 4] 8 (fun k n ix wr => ∃ m : Nat, ∃ q x : Int, k = 8 - m ∧ m ≤ 8 ∧ ix = .int .i64 x ∧ x = 7 - (m : Int) ∧ n = .int .u64 q ∧ Hid (q = val (((zs.drop i).take 8).drop (8 - m))) ∧ Grow w wr)
  case atStart => exact ⟨0, 0, 7, rfl, Nat.zero_le _, rfl, by omega, rfl, by show (0 : Int) = _; rw [List.drop_of_length_le (by omega)]; rfl, (Grow.refl w).drew⟩
  case round =>
    obtain ⟨m, q, x, hk, hm, rfl, hx, rfl, HQ, hg⟩ := hrel
    by_cases hlt8 : m < 8
    · have hx0 : 0 ≤ x := by omega
      have hge : decide (0 ≤ x) = true := by simp; omega
      have hdc := drop_cons ((zs.drop i).take 8) (7 - m) (by omega)
      have hval : val (((zs.drop i).take 8).drop (8 - (m + 1))) = ((zs.drop i).take 8).getD (7 - m) 0 + 256 * q := by
        rw [show 8 - (m + 1) = 7 - m by omega, hdc, val, HQ.out, show 7 - m + 1 = 8 - m by omega]
      rw [HY.out (7 - m) (by omega)] at hval
      have hbd := val_bd (((zs.drop i).take 8).drop (8 - m)) (hyb.drop _)
      rw [← HQ.out, List.length_drop, hyl, show 8 - (8 - m) = m by omega] at hbd
      have hp := pow_le m 7 (by omega)
      have h7 : (256 : Int) ^ 7 = 72057594037927936 := by decide
      rw [h7] at hp
      obtain ⟨kk, hkk⟩ : ∃ kk : Nat, kk = i + (7 - m) := ⟨_, rfl⟩
      have hkl : kk < zs.length := by omega
      have hwi : IntKind.i64.wrap ((i : Int) + x) = (kk : Int) := by rw [IntKind.wrap_i64]; omega
      have hk1 : (kk : Int) < (zs.length : Int) := by omega
      rw [← hkk] at hval
      have hxb := hby.get kk hkl
      have kc := fun w' (hg' : Grow wr.drew w') => HC.out w' (Grow.trans (Grow.trans hg (Grow.refl wr).drew) hg') kk hkl
      have k0 := fun w' (hg' : Grow wr.drew w') => HK0.out w' (Grow.trans (Grow.trans hg (Grow.refl wr).drew) hg')
      have k1 := fun w' (hg' : Grow wr.drew w') => HK1.out w' (Grow.trans (Grow.trans hg (Grow.refl wr).drew) hg')
      clear hdc
      generalize zs.getD kk 0 = y at kc hval hxb
      obtain ⟨hy0, hy1⟩ := hxb
      have HV : Hid (y + 256 * q = val (((zs.drop i).take 8).drop (8 - (m + 1)))) := hval.symm
      have hq1 : IntKind.u64.wrap (256 * q) = 256 * q := by rw [IntKind.wrap_u64]; omega
      have hq2 : IntKind.u64.wrap (256 * q + y) = 256 * q + y := by rw [IntKind.wrap_u64]; omega
      have hy2 : IntKind.u64.wrap y = y := by rw [IntKind.wrap_u64]; omega
      have hx7 : x ≤ 7 := by omega
      have HX : Hid (x - 1 = 7 - ((m + 1 : Nat) : Int)) := by show _ = _; omega
      clear hval hbd hp h7 hx hkk hyl hyb hd
      go_wp2
      refine wp_region_sched (by kernel_rfl) [(0, false), (1, false), (2, false), (3, false), (4, false), (5, false), (6, false), (7, false), (8, false), (9, false), (10, false), (11, false), (12, false), (13, false), (14, false), (15, false), (16, false)] (by kernel_rfl) (by kernel_rfl) rfl (fun _ _ d _ _ h => by cases d <;> exact h) ?_
      simp only [inOrder, List.filterMap_cons, List.filterMap_nil, List.getElem?_toArray, List.getElem?_cons_zero, List.getElem?_cons_succ, Option.map_some]
      repeat (first
        | (refine wpS_move rfl ?_; simp only [Act.eval, Act.put, Array.getD_eq_getD_getElem?, List.getElem?_toArray, List.getElem?_cons_zero, List.getElem?_cons_succ, Option.getD_some, List.setIfInBounds_toArray, List.set_cons_zero, List.set_cons_succ])
        | (refine wpS_assign rfl ?_; simp only [Act.eval, Act.put, Array.getD_eq_getD_getElem?, List.getElem?_toArray, List.getElem?_cons_zero, List.getElem?_cons_succ, Option.getD_some, List.setIfInBounds_toArray, List.set_cons_zero, List.set_cons_succ])
        | (refine wpS_read (v := ?_) rfl ?_ ?_; rotate_left; (focus (intro w' hG; go_simp; try (with_reducible rfl))); simp only [Act.put, List.setIfInBounds_toArray, List.set_cons_zero, List.set_cons_succ])
        | (refine wpS_skip rfl ?_; simp only [Act.put, List.setIfInBounds_toArray, List.set_cons_zero, List.set_cons_succ]))
      refine wpS_nil ?_
      clear k0 k1 kc hwi hq1 hq2 hy2
      go_wp2
      go_roundg (8 - (m + 1))
      case measure => omega
      case rel => exact ⟨m + 1, 256 * q + y, x - 1, rfl, by omega, by go_num, HX.out, by rfl, by show _ = _; rw [← HV.out, Int.add_comm], Grow.drew hg⟩
    · obtain rfl : m = 8 := by omega
      obtain rfl : x = -1 := by omega
      have k1 := HK1.out wr hg
      have ff := HF.out wr hg
      have hw8 : (i : Int) + 8 ≤ 2000000 := by omega
      go_wp2
      go_ret
      exact ⟨ret_int (by rw [HQ.out]; rfl), (HRes.out wr hg).1, (HRes.out wr hg).2⟩

set_option maxHeartbeats 2000000 in
theorem endW_any (c B : Nat) (zs : List Int) (i : Nat) (bad : Bool) (w : World) (h : RAt w c B zs i bad) (hi : i ≤ zs.length) (hl : zs.length ≤ 1000000) :
    Calls Tryd.prog 40 #[.pointer (some ⟨c, 0, none⟩)] w fun e w' => e = .returned (.int .i64 (if bad = true ∨ i < zs.length then 2 else 0)) ∧ Grow w w' := by
  obtain ⟨a, cp, h0, h1, h2, f0, f1, f2, hr, hB⟩ := h
  have k0 : ∀ w', Grow w.drew w' → w'.cell? ⟨c, 0, none⟩ = some (.slice a zs.length cp) := fun w' hg => by
    rw [hg.cell (p := ⟨c, 0, none⟩) (World.block_lt_of_cell? _ _ h0)]; exact h0
  have k1 : ∀ w', Grow w.drew w' → w'.cell? ⟨c, 1, none⟩ = some (.int .i64 i) := fun w' hg => by
    rw [hg.cell (p := ⟨c, 1, none⟩) (World.block_lt_of_cell? _ _ h1)]; exact h1
  have k2 : ∀ w', Grow w.drew w' → w'.cell? ⟨c, 2, none⟩ = some (.bool bad) := fun w' hg => by
    rw [hg.cell (p := ⟨c, 2, none⟩) (World.block_lt_of_cell? _ _ h2)]; exact h2
  cases bad
  · by_cases hlt : i < zs.length
    · have hd : decide ((i : Int) < (zs.length : Int)) = true := by simp; omega
      have hlt' : (i : Int) < (zs.length : Int) := by omega
      rw [if_pos (Or.inr hlt)]
      go_enter Tryd.func40, Tryd.ntmps40
      go_wp2
      refine wp_region_sched (by kernel_rfl) [(0, false), (1, false), (2, false), (3, false), (4, false), (5, false), (6, false), (7, false), (8, false), (9, false), (10, false), (11, false), (12, false), (13, false), (14, false), (15, false)] (by kernel_rfl) (by kernel_rfl) rfl (fun _ _ d _ _ h => by cases d <;> exact h) ?_
      simp only [inOrder, List.filterMap_cons, List.filterMap_nil, List.getElem?_toArray, List.getElem?_cons_zero, List.getElem?_cons_succ, Option.map_some]
      repeat (first
        | (refine wpS_move rfl ?_; simp only [Act.eval, Act.put, Array.getD_eq_getD_getElem?, List.getElem?_toArray, List.getElem?_cons_zero, List.getElem?_cons_succ, Option.getD_some, List.setIfInBounds_toArray, List.set_cons_zero, List.set_cons_succ])
        | (refine wpS_assign rfl ?_; simp only [Act.eval, Act.put, Array.getD_eq_getD_getElem?, List.getElem?_toArray, List.getElem?_cons_zero, List.getElem?_cons_succ, Option.getD_some, List.setIfInBounds_toArray, List.set_cons_zero, List.set_cons_succ])
        | (refine wpS_read (v := ?_) rfl ?_ ?_; rotate_left; (focus (intro w' hG; go_simp; try (with_reducible rfl))); simp only [Act.put, List.setIfInBounds_toArray, List.set_cons_zero, List.set_cons_succ])
        | (refine wpS_skip rfl ?_; simp only [Act.put, List.setIfInBounds_toArray, List.set_cons_zero, List.set_cons_succ]))
      refine wpS_nil ?_
      go_wp2
      go_ret
      exact ⟨rfl, (Grow.refl w).drew⟩
    · have hd : decide ((i : Int) < (zs.length : Int)) = false := by simp; omega
      have hlt' : ¬ (i : Int) < (zs.length : Int) := by omega
      rw [if_neg (by simp; omega)]
      go_enter Tryd.func40, Tryd.ntmps40
      go_wp2
      refine wp_region_sched (by kernel_rfl) [(0, false), (1, false), (2, false), (3, false), (4, false), (5, false), (6, false), (7, false), (8, false), (9, false), (10, false), (11, false), (12, false), (13, false), (14, false), (15, false)] (by kernel_rfl) (by kernel_rfl) rfl (fun _ _ d _ _ h => by cases d <;> exact h) ?_
      simp only [inOrder, List.filterMap_cons, List.filterMap_nil, List.getElem?_toArray, List.getElem?_cons_zero, List.getElem?_cons_succ, Option.map_some]
      repeat (first
        | (refine wpS_move rfl ?_; simp only [Act.eval, Act.put, Array.getD_eq_getD_getElem?, List.getElem?_toArray, List.getElem?_cons_zero, List.getElem?_cons_succ, Option.getD_some, List.setIfInBounds_toArray, List.set_cons_zero, List.set_cons_succ])
        | (refine wpS_assign rfl ?_; simp only [Act.eval, Act.put, Array.getD_eq_getD_getElem?, List.getElem?_toArray, List.getElem?_cons_zero, List.getElem?_cons_succ, Option.getD_some, List.setIfInBounds_toArray, List.set_cons_zero, List.set_cons_succ])
        | (refine wpS_read (v := ?_) rfl ?_ ?_; rotate_left; (focus (intro w' hG; go_simp; try (with_reducible rfl))); simp only [Act.put, List.setIfInBounds_toArray, List.set_cons_zero, List.set_cons_succ])
        | (refine wpS_skip rfl ?_; simp only [Act.put, List.setIfInBounds_toArray, List.set_cons_zero, List.set_cons_succ]))
      refine wpS_nil ?_
      go_wp2
      go_ret
      exact ⟨rfl, (Grow.refl w).drew⟩
  · rw [if_pos (Or.inl rfl)]
    go_enter Tryd.func40, Tryd.ntmps40
    go_wp2
    refine wp_region_sched (by kernel_rfl) [(0, false), (1, false), (2, false), (3, false), (4, false), (5, false), (6, false), (7, false), (8, false), (9, false), (10, false), (11, false), (12, false), (13, false), (14, false), (15, false)] (by kernel_rfl) (by kernel_rfl) rfl (fun _ _ d _ _ h => by cases d <;> exact h) ?_
    simp only [inOrder, List.filterMap_cons, List.filterMap_nil, List.getElem?_toArray, List.getElem?_cons_zero, List.getElem?_cons_succ, Option.map_some]
    repeat (first
      | (refine wpS_move rfl ?_; simp only [Act.eval, Act.put, Array.getD_eq_getD_getElem?, List.getElem?_toArray, List.getElem?_cons_zero, List.getElem?_cons_succ, Option.getD_some, List.setIfInBounds_toArray, List.set_cons_zero, List.set_cons_succ])
      | (refine wpS_assign rfl ?_; simp only [Act.eval, Act.put, Array.getD_eq_getD_getElem?, List.getElem?_toArray, List.getElem?_cons_zero, List.getElem?_cons_succ, Option.getD_some, List.setIfInBounds_toArray, List.set_cons_zero, List.set_cons_succ])
      | (refine wpS_read (v := ?_) rfl ?_ ?_; rotate_left; (focus (intro w' hG; go_simp; try (with_reducible rfl))); simp only [Act.put, List.setIfInBounds_toArray, List.set_cons_zero, List.set_cons_succ])
      | (refine wpS_skip rfl ?_; simp only [Act.put, List.setIfInBounds_toArray, List.set_cons_zero, List.set_cons_succ]))
    refine wpS_nil ?_
    go_wp2
    go_ret
    exact ⟨rfl, (Grow.refl w).drew⟩
end Go.Proofs.YtdafamocnjfmjaaDoor
