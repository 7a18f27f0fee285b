/-
  The walk of the law CellOwns. Conditions: none but the reading of its arguments.
-/
import Derived.Test.YtlhkjmhdhpgjkaaW8Com
namespace Go.Proofs.Ytlhkjmhdhpgjkaa
open Go.RowKit
set_option linter.unusedVariables false
set_option linter.unusedSimpArgs false


theorem cell_grow' {w w' : World} (g : Grow w w') {b o : Nat} {v : Value} (h : w.cell? ⟨b, o, none⟩ = some v) : w'.cell? ⟨b, o, none⟩ = some v := by
  rw [Below.cell (p := ⟨b, o, none⟩) g (World.block_lt_of_cell? _ _ h)]; exact h
theorem frozen_grow {w w' : World} (g : Grow w w') {b o : Nat} (hb : b < w.heap.size) (h : w.frozen? ⟨b, o, none⟩ = false) : w'.frozen? ⟨b, o, none⟩ = false := by
  rw [Below.frozen (p := ⟨b, o, none⟩) g hb]; exact h
/-- a cell that holds a value and may be written -/
def Wr (w : World) (b o : Nat) (v : Value) : Prop := w.cell? ⟨b, o, none⟩ = some v ∧ w.frozen? ⟨b, o, none⟩ = false
theorem Wr.grow {w w' : World} {b o : Nat} {v : Value} (h : Wr w b o v) (g : Grow w w') : Wr w' b o v := ⟨cell_grow' g h.1, frozen_grow g (World.block_lt_of_cell? _ _ h.1) h.2⟩
theorem Wr.set {w : World} {b o b' o' : Nat} {v u : Value} (h : Wr w b o v) (hn : b' ≠ b) : Wr (w.setCell ⟨b', o', none⟩ u) b o v :=
  ⟨by rw [World.cell?_setCell_other _ _ _ _ (by intro e; injection e with e1; exact hn e1)]; exact h.1, by rw [World.frozen?_setCell]; exact h.2⟩
theorem Wr.lt {w : World} {b o : Nat} {v : Value} (h : Wr w b o v) : b < w.heap.size := World.block_lt_of_cell? _ _ h.1
/-- one byte of a row of the call's own -/
theorem Own.wr {B : Nat} {w : World} {a : Option Addr} {n c : Nat} {zs : List Int} (h : Own .u8 B w (.slice a n c) zs) (j : Nat) (hj : j < zs.length) :
    ∃ g o, a = some ⟨g, o, none⟩ ∧ B ≤ g ∧ Wr w g (o + j) (.int .u8 (zs.getD j 0)) := by
  obtain ⟨g, o, c', hv, hB, -, -, hc, hf, -⟩ := h.row hj
  injection hv with e1 e2 e3
  exact ⟨g, o, e1, hB, hc, hf⟩

set_option maxRecDepth 8000 in
set_option maxHeartbeats 8000000 in
theorem cellOwns_walk (v : Value) (zs : List Int) (by0 : Int) (w : World) (h : Rd .u8 w.heap.size w v zs) (hoz : Oct zs) :
    Calls Try.prog 8 #[v, .int .u8 by0] w fun e w' => e = .returned (.bool true) ∧ Below w.heap.size w w' := by
  obtain ⟨pg, hpg⟩ := name_list (fillL zs 32)
  have hlp : pg.length = 32 := by rw [← hpg, fillL_length]
  have hop : Oct pg := by rw [← hpg]; exact oct_fill hoz 32
  have HP : Hid (fillL zs 32 = pg) := hpg
  have HPL : Hid (pg.length = 32) := hlp
  obtain ⟨os, hos⟩ := name_list (pg.take 16)
  have hoo : Oct os := by rw [← hos]; exact hop.take 16
  have hl16 : os.length = 16 := by rw [← hos, List.length_take]; omega
  have HO : Hid (pg.take 16 = os) := hos
  obtain ⟨cs, hcs⟩ := name_list (os ++ le 4 (chk 0 os : Nat))
  have hoc : Oct cs := by rw [← hcs]; exact hoo.append (oct_le _ _)
  have HLC : Hid (cs.length ≤ 1000000) := by show cs.length ≤ 1000000; rw [← hcs, List.length_append, le_length, hl16]; omega
  have HOP : Hid (opened cs = (os, 0)) := by show opened cs = (os, 0); rw [← hcs]; exact opened_sealed os hl16
  have HC : Hid (os ++ le 4 (chk 0 os : Nat) = cs) := hcs
  have HLM : Hid ((midL pg 0 (pg.take 4)).length = 32 ∧ ((pg.drop 3).take 9).length = 9 ∧ (pg.take 16).length = 16) := ⟨by rw [midL_length (by rw [List.length_take]; omega)]; exact hlp, by rw [List.length_take, List.length_drop]; omega, by rw [List.length_take]; omega⟩
  clear hpg hlp hos hl16 hcs hop hoz
  go_enter Try.func8, Try.ntmps8
  go_wp2_with fail
  refine (fill_any _ zs _ 32 _ _ rfl h (by omega)).mono ?_
  rintro e w1 ⟨v1, rfl, ho1, hb1⟩
  rw [HP.out] at ho1
  have hr1 := ho1.rd
  obtain ⟨a1, c1, hv1⟩ := ho1.shape
  rw [HPL.out] at hv1
  subst hv1
  obtain ⟨gp, op, rfl, hgp, hWp⟩ := ho1.wr 5 (by rw [HPL.out]; omega)
  have hgpl := hWp.lt
  have hcap := hr1.caps
  have hc32 : 32 ≤ c1 := by omega
  have hcm : c1 ≤ maxLen := by omega
  unfold maxLen at hcm
  have hcI : (16 : Int) ≤ (c1 : Int) := by omega
  have hs1 := split_yes _ c1 pg _ w1 hr1
  clear ho1 hcap
  go_wp2_with fail
  refine hs1.mono ?_
  rintro e w2 ⟨av, cv, a0, c0, d1, e1, rfl, hR, hO0, -, hb2⟩
  obtain ⟨b, o, rfl, hcv, k0, -, -⟩ := two_cells hR.rd
  obtain ⟨g0, o0, rfl, hg0, hW0⟩ := hO0.wr 1 (by rw [HLM.out.2.2]; omega)
  have hg0l := hW0.lt
  have x0 : 16 ≤ c0 := by have := hO0.rd.caps; omega
  have hr12 := (hr1.below hb2).size
  have hpt := put_yes _ _ c1 4 c1 pg (pg.take 4) 0 _ _ w2 hr12 (hr12.take 4 (by rw [HPL.out]; omega)) (by omega)
  clear hs1 hR
  go_wp2_with fail
  refine hpt.mono ?_
  rintro e w3 ⟨v3, rfl, ho3, hb3⟩
  obtain ⟨a3, c3, hv3⟩ := ho3.shape
  rw [HLM.out.1] at hv3
  subst hv3
  obtain ⟨g3, o3, rfl, hg3, hW3⟩ := ho3.wr 2 (by rw [HLM.out.1]; omega)
  have hg3l := hW3.lt
  have x3 : 32 ≤ c3 := by have := ho3.rd.caps; omega
  have hr13 := (hr12.below hb3).size
  have hgt := get_yes _ c1 pg 3 9 _ w3 hr13 (by omega)
  clear hpt
  go_wp2_with fail
  refine hgt.mono ?_
  rintro e w4 ⟨v4, rfl, ho4, hb4⟩
  obtain ⟨a4, c4, hv4⟩ := ho4.shape
  rw [HLM.out.2.1] at hv4
  subst hv4
  obtain ⟨g4, o4, rfl, hg4, hW4⟩ := ho4.wr 0 (by rw [HLM.out.2.1]; omega)
  have hg4l := hW4.lt
  have x4 : 9 ≤ c4 := by have := ho4.rd.caps; omega
  have g24 : Grow w2 w4 := Grow.trans hb3 hb4
  have g14 : Grow w1 w4 := Grow.trans hb2 g24
  have k04 := cell_grow' g24 k0
  have k04' : w4.cell? ⟨b, o, none⟩ = some (.slice (some ⟨g0, o0, none⟩) 16 c0) := k04
  have Y4 : Hid (Rd .u8 w1.heap.size w4 (.slice (some ⟨gp, op, none⟩) 32 c1) pg ∧ Wr w4 gp (op + 5) (.int .u8 (pg.getD 5 0)) ∧ Wr w4 g0 (o0 + 1) (.int .u8 ((pg.take 16).getD 1 0)) ∧ Wr w4 g3 (o3 + 2) (.int .u8 ((midL pg 0 (pg.take 4)).getD 2 0)) ∧ Wr w4 g4 (o4 + 0) (.int .u8 (((pg.drop 3).take 9).getD 0 0)) ∧ Grow w w4) := ⟨hr1.below g14, hWp.grow g14, hW0.grow g24, hW3.grow hb4, hW4, Grow.trans hb1 g14⟩
  have HB : Hid (w.heap.size ≤ gp ∧ gp < w1.heap.size ∧ w1.heap.size ≤ g0 ∧ g0 < w2.heap.size ∧ w2.heap.size ≤ g3 ∧ g3 < w3.heap.size ∧ w3.heap.size ≤ g4 ∧ w.heap.size ≤ w1.heap.size ∧ w1.heap.size ≤ w2.heap.size ∧ w2.heap.size ≤ w3.heap.size) := ⟨hgp, hgpl, hg0, hg0l, hg3, hg3l, hg4, hb1.size, hb2.size, hb3.size⟩
  generalize (pg.take 16).getD 1 0 = b0 at Y4
  generalize (midL pg 0 (pg.take 4)).getD 2 0 = b3 at Y4
  generalize ((pg.drop 3).take 9).getD 0 0 = b4 at Y4
  generalize pg.getD 5 0 = b5 at Y4
  obtain ⟨y0, hy0⟩ : ∃ y, bits .xor .u8 b0 by0 = y := ⟨_, rfl⟩
  obtain ⟨y3, hy3⟩ : ∃ y, bits .xor .u8 b3 by0 = y := ⟨_, rfl⟩
  obtain ⟨y4, hy4⟩ : ∃ y, bits .xor .u8 b4 by0 = y := ⟨_, rfl⟩
  obtain ⟨y5, hy5⟩ : ∃ y, bits .xor .u8 b5 by0 = y := ⟨_, rfl⟩
  clear hgp hgpl hg0 hg0l hg3 hg3l hg4 hg4l g24 g14 hWp hW0 hW3 hW4 hr12 hr13 hO0 ho3 ho4 hgt hb2 hb3 hb4 k0 k04 hr1
  have f0 : ∀ w', Grow w4.drew w' → w'.cell? ⟨b, o, none⟩ = some (.slice (some ⟨g0, o0, none⟩) 16 c0) ∧ w'.cell? ⟨g0, o0 + 1, none⟩ = some (.int .u8 b0) ∧ w'.frozen? ⟨g0, o0 + 1, none⟩ = false := fun w' g => ⟨cell_grow' ((Grow.refl w4).drew.trans g) k04', (Y4.out.2.2.1.grow ((Grow.refl w4).drew.trans g)).1, (Y4.out.2.2.1.grow ((Grow.refl w4).drew.trans g)).2⟩
  go_wp2
  refine wp_region_last 11 (by kernel_rfl) [(0, false), (1, false), (2, false), (3, false), (4, false), (5, false), (6, false), (7, false), (8, false), (9, false), (10, false)] (by kernel_rfl) (by kernel_rfl) rfl (fun _ _ d _ _ h => by cases d <;> exact h) ?_
  simp only [inOrder, List.filterMap_cons, List.filterMap_nil, List.getElem?_toArray, List.getElem?_cons_zero, List.getElem?_cons_succ, Option.map_some]
  repeat (first
    | (refine wpS_move rfl ?_; simp only [Act.eval, Act.put, Array.getD_eq_getD_getElem?, List.getElem?_toArray, List.getElem?_cons_zero, List.getElem?_cons_succ, Option.getD_some, List.setIfInBounds_toArray, List.set_cons_zero, List.set_cons_succ])
    | (refine wpS_assign rfl ?_; simp only [Act.eval, Act.put, Array.getD_eq_getD_getElem?, List.getElem?_toArray, List.getElem?_cons_zero, List.getElem?_cons_succ, Option.getD_some, List.setIfInBounds_toArray, List.set_cons_zero, List.set_cons_succ])
    | (refine wpS_read (v := ?_) rfl ?_ ?_; rotate_left; (focus (intro w' hG; obtain ⟨q0, q1, q2⟩ := f0 w' hG; go_simp; try (with_reducible rfl))); simp only [Act.put, List.setIfInBounds_toArray, List.set_cons_zero, List.set_cons_succ])
    | (refine wpS_skip rfl ?_; simp only [Act.put, List.setIfInBounds_toArray, List.set_cons_zero, List.set_cons_succ]))
  refine wpS_nil ?_
  obtain ⟨q0, q1, q2⟩ := f0 w4.drew (Grow.refl _)
  refine last_store (w' := w4.drew.setCell ⟨g0, o0 + 1, none⟩ (.int .u8 y0)) rfl rfl (by go_simp) ?_
  simp only [Act.put, List.setIfInBounds_toArray, List.set_cons_zero, List.set_cons_succ]
  have gd : Grow w4 w4.drew := (Grow.refl w4).drew
  have Y5 : Hid (Rd .u8 w1.heap.size (w4.drew.setCell ⟨g0, o0 + 1, none⟩ (.int .u8 y0)) (.slice (some ⟨gp, op, none⟩) 32 c1) pg ∧ Wr (w4.drew.setCell ⟨g0, o0 + 1, none⟩ (.int .u8 y0)) gp (op + 5) (.int .u8 b5) ∧ Wr (w4.drew.setCell ⟨g0, o0 + 1, none⟩ (.int .u8 y0)) g3 (o3 + 2) (.int .u8 b3) ∧ Wr (w4.drew.setCell ⟨g0, o0 + 1, none⟩ (.int .u8 y0)) g4 (o4 + 0) (.int .u8 b4) ∧ Below w.heap.size w (w4.drew.setCell ⟨g0, o0 + 1, none⟩ (.int .u8 y0))) := by
    have hB := HB.out
    exact ⟨(Y4.out.1.drew).below ((Below.refl w1.heap.size w4.drew).setCell (by show w1.heap.size ≤ g0; omega) _), (Y4.out.2.1.grow gd).set (by omega), (Y4.out.2.2.2.1.grow gd).set (by omega), (Y4.out.2.2.2.2.1.grow gd).set (by omega), (Y4.out.2.2.2.2.2.drew).setCell (by show w.heap.size ≤ g0; omega) _⟩
  generalize w4.drew.setCell ⟨g0, o0 + 1, none⟩ (.int .u8 y0) = w5 at Y5 ⊢
  clear f0 q0 q1 q2 gd k04' Y4
  -- the two that follow, one by one
  have Y6 : Hid (Rd .u8 w1.heap.size (w5.setCell ⟨g3, o3 + 2, none⟩ (.int .u8 y3)) (.slice (some ⟨gp, op, none⟩) 32 c1) pg ∧ Wr (w5.setCell ⟨g3, o3 + 2, none⟩ (.int .u8 y3)) gp (op + 5) (.int .u8 b5) ∧ Wr (w5.setCell ⟨g3, o3 + 2, none⟩ (.int .u8 y3)) g4 (o4 + 0) (.int .u8 b4) ∧ Below w.heap.size w (w5.setCell ⟨g3, o3 + 2, none⟩ (.int .u8 y3))) := by
    have hB := HB.out
    exact ⟨Y5.out.1.below ((Below.refl w1.heap.size w5).setCell (by show w1.heap.size ≤ g3; omega) _), Y5.out.2.1.set (by omega), Y5.out.2.2.2.1.set (by omega), Y5.out.2.2.2.2.setCell (by show w.heap.size ≤ g3; omega) _⟩
  have Y7 : Hid (Rd .u8 w1.heap.size ((w5.setCell ⟨g3, o3 + 2, none⟩ (.int .u8 y3)).setCell ⟨g4, o4, none⟩ (.int .u8 y4)) (.slice (some ⟨gp, op, none⟩) 32 c1) pg ∧ Wr ((w5.setCell ⟨g3, o3 + 2, none⟩ (.int .u8 y3)).setCell ⟨g4, o4, none⟩ (.int .u8 y4)) gp (op + 5) (.int .u8 b5) ∧ Below w.heap.size w ((w5.setCell ⟨g3, o3 + 2, none⟩ (.int .u8 y3)).setCell ⟨g4, o4, none⟩ (.int .u8 y4))) := by
    have hB := HB.out
    exact ⟨Y6.out.1.below ((Below.refl w1.heap.size _).setCell (by show w1.heap.size ≤ g4; omega) _), Y6.out.2.1.set (by omega), Y6.out.2.2.2.setCell (by show w.heap.size ≤ g4; omega) _⟩
  obtain ⟨m3, n3⟩ := Y5.out.2.2.1
  obtain ⟨m4, n4⟩ := Y5.out.2.2.2.1
  obtain ⟨m4', n4'⟩ := Y6.out.2.2.1
  rw [Nat.add_zero] at m4 n4 m4' n4'
  have ne34 : ¬ g3 = g4 := by have hB := HB.out; omega
  have ne43 : ¬ g4 = g3 := by have hB := HB.out; omega
  go_wp2
  generalize (w5.setCell ⟨g3, o3 + 2, none⟩ (.int .u8 y3)).setCell ⟨g4, o4, none⟩ (.int .u8 y4) = w7 at Y7 ⊢
  clear m3 n3 m4 n4 m4' n4' ne34 ne43 Y5 Y6
  have k5 : ∀ w', Grow w7.drew w' → (convert 22 9 (.slice (some ⟨gp, op, none⟩) 32 c1)).run Try.prog w' = .ok (.string (strOfNums pg)) w' := fun w' g => (Y7.out.1.size.below ((Grow.refl w7).drew.trans g)).string 22 9 5 Try.underlying22 Try.underlying5 Try.underlying9
  have hfl := fill_any v zs _ 32 _ w7.drew rfl (h.below (Y7.out.2.2.drew)) (by omega)
  rw [HP.out] at hfl
  refine wp_region_sched (by kernel_rfl) [(0, false), (1, false), (2, false), (3, true), (4, false), (5, false)] (by kernel_rfl) (by kernel_rfl) rfl (fun _ _ d _ _ h => by cases d <;> exact h) ?_
  simp only [inOrder, List.filterMap_cons, List.filterMap_nil, List.getElem?_toArray, List.getElem?_cons_zero, List.getElem?_cons_succ, Option.map_some]
  repeat (first
    | (refine wpS_move rfl ?_; simp only [Act.eval, Act.put, Array.getD_eq_getD_getElem?, List.getElem?_toArray, List.getElem?_cons_zero, List.getElem?_cons_succ, Option.getD_some, List.setIfInBounds_toArray, List.set_cons_zero, List.set_cons_succ])
    | (refine wpS_assign rfl ?_; simp only [Act.eval, Act.put, Array.getD_eq_getD_getElem?, List.getElem?_toArray, List.getElem?_cons_zero, List.getElem?_cons_succ, Option.getD_some, List.setIfInBounds_toArray, List.set_cons_zero, List.set_cons_succ])
    | (refine wpS_read (v := ?_) rfl ?_ ?_; rotate_left; (focus (intro w' hG; skip; go_simp; try (with_reducible rfl))); simp only [Act.put, List.setIfInBounds_toArray, List.set_cons_zero, List.set_cons_succ])
    | (refine wpS_skip rfl ?_; simp only [Act.put, List.setIfInBounds_toArray, List.set_cons_zero, List.set_cons_succ]))
  refine wpS_call (f := ?_) (args := ?_) (by rfl) ?_ ?_
  rotate_left 2; focus (go_simp; constructor <;> with_reducible rfl)
  refine (hfl).mono ?_
  rintro e w8 ⟨v8, rfl, ho8, f8⟩
  refine ⟨_, rfl, f8, ?_⟩
  simp only [Act.put, List.setIfInBounds_toArray, List.set_cons_zero, List.set_cons_succ]
  have k8 : ∀ w', Grow w8 w' → (convert 22 9 v8).run Try.prog w' = .ok (.string (strOfNums pg)) w' := fun w' g => (ho8.rd.below g).string 22 9 5 Try.underlying22 Try.underlying5 Try.underlying9
  repeat (first
    | (refine wpS_move rfl ?_; simp only [Act.eval, Act.put, Array.getD_eq_getD_getElem?, List.getElem?_toArray, List.getElem?_cons_zero, List.getElem?_cons_succ, Option.getD_some, List.setIfInBounds_toArray, List.set_cons_zero, List.set_cons_succ])
    | (refine wpS_assign rfl ?_; simp only [Act.eval, Act.put, Array.getD_eq_getD_getElem?, List.getElem?_toArray, List.getElem?_cons_zero, List.getElem?_cons_succ, Option.getD_some, List.setIfInBounds_toArray, List.set_cons_zero, List.set_cons_succ])
    | (refine wpS_read (v := ?_) rfl ?_ ?_; rotate_left; (focus (intro w' hG; skip; go_simp; try (with_reducible rfl))); simp only [Act.put, List.setIfInBounds_toArray, List.set_cons_zero, List.set_cons_succ])
    | (refine wpS_skip rfl ?_; simp only [Act.put, List.setIfInBounds_toArray, List.set_cons_zero, List.set_cons_succ]))
  refine wpS_nil ?_
  have g78 : Grow w7 w8 := (Grow.refl w7).drew.trans f8
  have Y8 : Hid (Rd .u8 w8.heap.size w8 (.slice (some ⟨gp, op, none⟩) 32 c1) pg ∧ Wr w8 gp (op + 5) (.int .u8 b5) ∧ Below w.heap.size w w8) := ⟨(Y7.out.1.size.below g78).size, Y7.out.2.1.grow g78, Below.trans Y7.out.2.2 (g78.mono Y7.out.2.2.size)⟩
  clear k5 k8 hfl ho8 f8 g78 Y7
  have htk := Y8.out.1.take 16 (by rw [HPL.out]; omega)
  rw [HO.out] at htk
  have hse := seal_yes _ c1 os _ w8 htk hoo
  rw [HC.out] at hse
  clear htk
  go_wp2_with fail
  refine hse.mono ?_
  rintro e w9 ⟨v9, rfl, ho9, hb9⟩
  have HW9 := Y8.out.2.1.grow hb9
  have hgpl9 := HW9.lt
  have gp8 : gp < w8.heap.size := Y8.out.2.1.lt
  have hb09 : Below w.heap.size w w9 := Below.trans Y8.out.2.2 (hb9.mono Y8.out.2.2.size)
  have hc9 := (ho9.v.upd (UpdS.setCell (fun k => k = gp) ⟨gp, op + 5, none⟩ (.int .u8 y5) w9 rfl) (fun i _ h1 h2 => by omega)).rd.i
  have Y10 : Hid (Below w.heap.size w (w9.setCell ⟨gp, op + 5, none⟩ (.int .u8 y5))) := hb09.setCell (by show w.heap.size ≤ gp; have hB := HB.out; omega) _
  have hop := open_any v9 cs _ (w9.setCell ⟨gp, op + 5, none⟩ (.int .u8 y5)) hc9 hoc HLC.out
  rw [HOP.out] at hop
  obtain ⟨m5, n5⟩ := HW9
  clear hse hc9 hb09 gp8 hgpl9 ho9 hb9
  go_wp2_with fail
  generalize w9.setCell ⟨gp, op + 5, none⟩ (.int .u8 y5) = w10 at hop Y10 ⊢
  clear m5 n5
  refine hop.mono ?_
  rintro e w11 ⟨v11, rfl, ho11, hb11⟩
  have Y11 : Hid (Below w.heap.size w w11) := Below.trans Y10.out (hb11.mono Y10.out.size)
  have k1 : ∀ w', Grow w11.drew w' → (convert 22 9 v11).run Try.prog w' = .ok (.string (strOfNums os)) w' := fun w' g => (ho11.rd.below ((Grow.refl w11).drew.trans g)).string 22 9 5 Try.underlying22 Try.underlying5 Try.underlying9
  have hfl := fill_any v zs _ 32 _ w11.drew rfl (h.below (Y11.out.drew)) (by omega)
  rw [HP.out] at hfl
  clear hop Y10 Y8 ho11
  go_wp2
  refine wp_region_sched (by kernel_rfl) [(0, false), (1, false), (2, false), (3, false), (4, false), (5, false), (6, true), (7, false), (8, false), (9, false), (10, false), (11, false), (12, true), (13, false), (14, false)] (by kernel_rfl) (by kernel_rfl) rfl (fun _ _ d _ _ h => by cases d <;> exact h) ?_
  simp only [inOrder, List.filterMap_cons, List.filterMap_nil, List.getElem?_toArray, List.getElem?_cons_zero, List.getElem?_cons_succ, Option.map_some]
  repeat (first
    | (refine wpS_move rfl ?_; simp only [Act.eval, Act.put, Array.getD_eq_getD_getElem?, List.getElem?_toArray, List.getElem?_cons_zero, List.getElem?_cons_succ, Option.getD_some, List.setIfInBounds_toArray, List.set_cons_zero, List.set_cons_succ])
    | (refine wpS_assign rfl ?_; simp only [Act.eval, Act.put, Array.getD_eq_getD_getElem?, List.getElem?_toArray, List.getElem?_cons_zero, List.getElem?_cons_succ, Option.getD_some, List.setIfInBounds_toArray, List.set_cons_zero, List.set_cons_succ])
    | (refine wpS_read (v := ?_) rfl ?_ ?_; rotate_left; (focus (intro w' hG; skip; go_simp; try (with_reducible rfl))); simp only [Act.put, List.setIfInBounds_toArray, List.set_cons_zero, List.set_cons_succ])
    | (refine wpS_skip rfl ?_; simp only [Act.put, List.setIfInBounds_toArray, List.set_cons_zero, List.set_cons_succ]))
  refine wpS_call (f := ?_) (args := ?_) (by rfl) ?_ ?_
  rotate_left 2; focus (go_simp; constructor <;> with_reducible rfl)
  refine (hfl).mono ?_
  rintro e w12 ⟨v12, rfl, ho12, f12⟩
  refine ⟨_, rfl, f12, ?_⟩
  obtain ⟨a12, c12, hv12⟩ := ho12.shape
  rw [HPL.out] at hv12
  subst hv12
  have hcap12 := ho12.rd.caps
  have hcA : (16 : Int) ≤ (c12 : Int) := by omega
  have ht12 := ho12.rd.take 16 (by rw [HPL.out]; omega)
  rw [HO.out] at ht12
  simp only [Act.put, List.setIfInBounds_toArray, List.set_cons_zero, List.set_cons_succ]
  have k12 : ∀ w', Grow w12 w' → (convert 22 9 (.slice a12 16 c12)).run Try.prog w' = .ok (.string (strOfNums os)) w' := fun w' g => (ht12.below g).string 22 9 5 Try.underlying22 Try.underlying5 Try.underlying9
  clear hcap12
  repeat (first
    | (refine wpS_move rfl ?_; simp only [Act.eval, Act.put, Array.getD_eq_getD_getElem?, List.getElem?_toArray, List.getElem?_cons_zero, List.getElem?_cons_succ, Option.getD_some, List.setIfInBounds_toArray, List.set_cons_zero, List.set_cons_succ])
    | (refine wpS_assign rfl ?_; simp only [Act.eval, Act.put, Array.getD_eq_getD_getElem?, List.getElem?_toArray, List.getElem?_cons_zero, List.getElem?_cons_succ, Option.getD_some, List.setIfInBounds_toArray, List.set_cons_zero, List.set_cons_succ])
    | (refine wpS_read (v := ?_) rfl ?_ ?_; rotate_left; (focus (intro w' hG; skip; go_simp; try (with_reducible rfl))); simp only [Act.put, List.setIfInBounds_toArray, List.set_cons_zero, List.set_cons_succ])
    | (refine wpS_skip rfl ?_; simp only [Act.put, List.setIfInBounds_toArray, List.set_cons_zero, List.set_cons_succ]))
  refine wpS_call (f := ?_) (args := ?_) (by rfl) ?_ ?_
  rotate_left 2; focus (go_simp; constructor <;> with_reducible rfl)
  refine (lives8_any w12).mono ?_
  rintro e w13 ⟨rfl, f13⟩
  refine ⟨_, rfl, f13, ?_⟩
  simp only [Act.put, List.setIfInBounds_toArray, List.set_cons_zero, List.set_cons_succ]
  repeat (first
    | (refine wpS_move rfl ?_; simp only [Act.eval, Act.put, Array.getD_eq_getD_getElem?, List.getElem?_toArray, List.getElem?_cons_zero, List.getElem?_cons_succ, Option.getD_some, List.setIfInBounds_toArray, List.set_cons_zero, List.set_cons_succ])
    | (refine wpS_assign rfl ?_; simp only [Act.eval, Act.put, Array.getD_eq_getD_getElem?, List.getElem?_toArray, List.getElem?_cons_zero, List.getElem?_cons_succ, Option.getD_some, List.setIfInBounds_toArray, List.set_cons_zero, List.set_cons_succ])
    | (refine wpS_read (v := ?_) rfl ?_ ?_; rotate_left; (focus (intro w' hG; skip; go_simp; try (with_reducible rfl))); simp only [Act.put, List.setIfInBounds_toArray, List.set_cons_zero, List.set_cons_succ])
    | (refine wpS_skip rfl ?_; simp only [Act.put, List.setIfInBounds_toArray, List.set_cons_zero, List.set_cons_succ]))
  refine wpS_nil ?_
  go_wp2
  go_ret
  have g12 : Below w.heap.size w w12 := Below.trans Y11.out (((Grow.refl w11).drew.trans f12).mono Y11.out.size)
  exact ⟨rfl, Below.trans g12 (f13.mono g12.size)⟩
end Go.Proofs.Ytlhkjmhdhpgjkaa
