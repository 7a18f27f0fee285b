/-
  The walk of the law CellPages. Conditions: none but the reading of its arguments.
-/
import Derived.Test.YtlhkjmhdhpgjkaaW8Com
namespace Go.Proofs.Ytlhkjmhdhpgjkaa
open Go.RowKit
set_option linter.unusedVariables false
set_option linter.unusedSimpArgs false


theorem rdV_new2 (a0 a1 : Option Addr) (n0 n1 c0 c1 : Nat) (e : TypeId) (w : World) : RdV slF sl0 (fun i => i = w.heap.size) (w.alloc (.cells #[.slice a0 n0 c0, .slice a1 n1 c1] e)) (.slice (some ⟨w.heap.size, 0, none⟩) 2 2) [(a0, n0, c0), (a1, n1, c1)] := by
  refine ⟨_, 2, rfl, Nat.le_refl _, by simp only [maxLen]; omega, fun i hi => ⟨w.heap.size, 0, rfl, rfl, ?_⟩⟩
  refine (World.cell?_alloc_new w _ _ _).trans ?_
  have : i = 0 ∨ i = 1 := by simp at hi; omega
  rcases this with rfl | rfl <;> rfl

theorem PgY {b o : Nat} {w u u' : World} {a0 d1 a5 : Option Addr} {c0 e1 c5 L : Nat} {z0 fs : List Int}
    (Y : (u.cell? ⟨b, o, none⟩ = some (.slice a0 16 c0) ∧ u.cell? ⟨b, o + 1, none⟩ = some (.slice d1 16 e1) ∧ b < u.heap.size ∧ Rd .u8 u.heap.size u (.slice a0 16 c0) z0 ∧ Rd .u8 u.heap.size u (.slice a5 L c5) fs ∧ Grow w u)) (g : Grow u u') :
    (u'.cell? ⟨b, o, none⟩ = some (.slice a0 16 c0) ∧ u'.cell? ⟨b, o + 1, none⟩ = some (.slice d1 16 e1) ∧ b < u'.heap.size ∧ Rd .u8 u'.heap.size u' (.slice a0 16 c0) z0 ∧ Rd .u8 u'.heap.size u' (.slice a5 L c5) fs ∧ Grow w u') := by
  obtain ⟨h0, h1, h2, h3, h4, h5⟩ := Y
  exact ⟨by rw [Below.cell (p := ⟨b, o, none⟩) g h2]; exact h0, by rw [Below.cell (p := ⟨b, o + 1, none⟩) g h2]; exact h1, Nat.lt_of_lt_of_le h2 g.size, (h3.below g).size, (h4.below g).size, h5.trans g⟩

set_option maxRecDepth 8000 in
set_option maxHeartbeats 8000000 in
theorem cellPages_walk (v vy : Value) (zs ys : List Int) (w : World) (h : Rd .u8 w.heap.size w v zs) (hy : Rd .u8 w.heap.size w vy ys) :
    Calls Try.prog 5 #[v, vy] w fun e w' => e = .returned (.bool true) ∧ Below w.heap.size w w' := by
  obtain ⟨pg, hpg⟩ := name_list (fillL zs 32)
  have hlp : pg.length = 32 := by rw [← hpg, fillL_length]
  have HP : Hid (fillL zs 32 = pg) := hpg
  have HPL : Hid (pg.length = 32) := hlp
  obtain ⟨fs, hfs⟩ := name_list (ys.take 40)
  have hlf : fs.length ≤ 40 := by rw [← hfs, List.length_take]; omega
  have HF : Hid (ys.take 40 = fs) := hfs
  have HTD : Hid (pg.take 16 ++ pg.drop 16 = pg) := List.take_append_drop 16 pg
  clear hpg hlp hfs
  go_enter Try.func5, Try.ntmps5
  go_wp2_with fail
  refine (fill_any _ zs _ 32 _ _ rfl h (by omega)).mono ?_
  rintro e w1 ⟨v1, rfl, ho1, hb1⟩
  rw [HP.out] at ho1
  have hr1 := ho1.rd
  obtain ⟨a1, c1, hv1⟩ := ho1.shape
  rw [HPL.out] at hv1
  subst hv1
  obtain ⟨-, -, -, pb, po, rfl, -, -⟩ := hr1.addr (by omega)
  have hcap := hr1.caps
  have hc32 : 32 ≤ c1 := by omega
  have hcm : c1 ≤ maxLen := by omega
  have hc16 : ¬ c1 = 16 := by omega
  have hs1 := split_yes _ c1 pg _ w1 hr1
  clear ho1 hcap
  go_wp2_with fail
  refine hs1.mono ?_
  rintro e w2 ⟨av, cv, a0, c0, d1, e1, rfl, hR, hO0, hO1, hb2⟩
  have hjn := join_two av a0 d1 cv c0 e1 16 _ _ _ _ w2 hR.rd hO0.rd hO1.rd rfl
  rw [HTD.out] at hjn
  obtain ⟨b, o, rfl, hcv, k0, k1, -⟩ := two_cells hR.rd
  have hbl : b < w2.heap.size := World.block_lt_of_cell? _ _ k0
  clear hs1 hR
  go_wp2_with fail
  refine hjn.mono ?_
  rintro e w3 ⟨v3, rfl, ho3, hb3⟩
  have k0' : w3.cell? ⟨b, o, none⟩ = some (.slice a0 16 c0) := by rw [Below.cell (p := ⟨b, o, none⟩) hb3 hbl]; exact k0
  have k1' : w3.cell? ⟨b, o + 1, none⟩ = some (.slice d1 16 e1) := by rw [Below.cell (p := ⟨b, o + 1, none⟩) hb3 hbl]; exact k1
  have hg13 : Grow w1 w3 := Grow.trans hb2 hb3
  have gd : Grow w3 w3.drew := (Grow.refl w3).drew
  have hrp := (hr1.below hg13).size
  have hpt := hrp.take 16 (by rw [HPL.out]; omega)
  have hpd := hrp.drop 16 (by rw [HPL.out]; omega)
  rw [if_neg hc16] at hpd
  simp only [Option.map_some, Addr.add_lit, Nat.reduceSub] at hpd
  have hr0 := (hO0.rd.below hb3).size
  have hr1' := (hO1.rd.below hb3).size
  have kc : ∀ w', Grow w3.drew w' → w'.cell? ⟨b, o, none⟩ = some (.slice a0 16 c0) ∧ w'.cell? ⟨b, o + 1, none⟩ = some (.slice d1 16 e1) := fun w' g => ⟨by rw [Below.cell (p := ⟨b, o, none⟩) (gd.trans g) (Nat.lt_of_lt_of_le hbl hb3.size)]; exact k0', by rw [Below.cell (p := ⟨b, o + 1, none⟩) (gd.trans g) (Nat.lt_of_lt_of_le hbl hb3.size)]; exact k1'⟩
  have j0 : ∀ w', Grow w3.drew w' → (convert 22 9 (.slice a0 16 c0)).run Try.prog w' = .ok (.string (strOfNums (pg.take 16))) w' := fun w' g => (hr0.below (gd.trans g)).string 22 9 5 Try.underlying22 Try.underlying5 Try.underlying9
  have j1 : ∀ w', Grow w3.drew w' → (convert 22 9 (.slice d1 16 e1)).run Try.prog w' = .ok (.string (strOfNums (pg.drop 16))) w' := fun w' g => (hr1'.below (gd.trans g)).string 22 9 5 Try.underlying22 Try.underlying5 Try.underlying9
  have j2 : ∀ w', Grow w3.drew w' → (convert 22 9 (.slice (some ⟨pb, po, none⟩) 16 c1)).run Try.prog w' = .ok (.string (strOfNums (pg.take 16))) w' := fun w' g => (hpt.below (gd.trans g)).string 22 9 5 Try.underlying22 Try.underlying5 Try.underlying9
  have j3 : ∀ w', Grow w3.drew w' → (convert 22 9 (.slice (some ⟨pb, po + 16, none⟩) 16 (c1 - 16))).run Try.prog w' = .ok (.string (strOfNums (pg.drop 16))) w' := fun w' g => (hpd.below (gd.trans g)).string 22 9 5 Try.underlying22 Try.underlying5 Try.underlying9
  have j4 : ∀ w', Grow w3.drew w' → (convert 22 9 (.slice (some ⟨pb, po, none⟩) 32 c1)).run Try.prog w' = .ok (.string (strOfNums pg)) w' := fun w' g => (hrp.below (gd.trans g)).string 22 9 5 Try.underlying22 Try.underlying5 Try.underlying9
  have j5 : ∀ w', Grow w3.drew w' → (convert 22 9 v3).run Try.prog w' = .ok (.string (strOfNums pg)) w' := fun w' g => (ho3.rd.below (gd.trans g)).string 22 9 5 Try.underlying22 Try.underlying5 Try.underlying9
  obtain ⟨z0, hz0⟩ := name_list (pg.take 16)
  rw [hz0] at hr0 j0 j2
  have Y4 : Hid (w3.drew.cell? ⟨b, o, none⟩ = some (.slice a0 16 c0) ∧ w3.drew.cell? ⟨b, o + 1, none⟩ = some (.slice d1 16 e1) ∧ b < w3.drew.heap.size ∧ Rd .u8 w3.drew.heap.size w3.drew (.slice a0 16 c0) z0 ∧ Grow w w3.drew) := ⟨(kc _ (Grow.refl _)).1, (kc _ (Grow.refl _)).2, Nat.lt_of_lt_of_le hbl hb3.size, hr0.drew, (Grow.trans hb1 hg13).trans gd⟩
  generalize pg.drop 16 = z1 at j1 j3
  unfold maxLen at hcm
  clear hjn k0 k1 hbl hg13 gd hrp hpt hpd hr0 hr1' k0' k1' hz0 ho3 hO0 hO1 hb1 hb2 hb3 hr1 h HTD HP
  have hcc : (32 : Int) ≤ (c1 : Int) := by omega
  have hc16c : (16 : Int) ≤ (c1 : Int) := by omega
  go_wp2
  refine wp_region_sched (by kernel_rfl) [(0, false), (1, false), (2, false), (3, false), (4, false), (5, false), (6, false), (7, false), (8, false), (9, false), (10, false), (11, false), (12, false), (13, false), (14, false), (15, false), (16, false), (17, false), (18, false), (19, false), (20, false), (21, false), (22, false), (23, false), (24, false)] (by kernel_rfl) (by kernel_rfl) rfl (fun _ _ d _ _ h => by cases d <;> exact h) ?_
  simp only [inOrder, List.filterMap_cons, List.filterMap_nil, List.getElem?_toArray, List.getElem?_cons_zero, List.getElem?_cons_succ, Option.map_some]
  repeat (first
    | (refine wpS_move rfl ?_; simp only [Act.eval, Act.put, Array.getD_eq_getD_getElem?, List.getElem?_toArray, List.getElem?_cons_zero, List.getElem?_cons_succ, Option.getD_some, List.setIfInBounds_toArray, List.set_cons_zero, List.set_cons_succ])
    | (refine wpS_assign rfl ?_; simp only [Act.eval, Act.put, Array.getD_eq_getD_getElem?, List.getElem?_toArray, List.getElem?_cons_zero, List.getElem?_cons_succ, Option.getD_some, List.setIfInBounds_toArray, List.set_cons_zero, List.set_cons_succ])
    | (refine wpS_read (v := ?_) rfl ?_ ?_; rotate_left; (focus (intro w' hG; obtain ⟨q0, q1⟩ := kc w' hG; go_simp; try (with_reducible rfl))); simp only [Act.put, List.setIfInBounds_toArray, List.set_cons_zero, List.set_cons_succ])
    | (refine wpS_skip rfl ?_; simp only [Act.put, List.setIfInBounds_toArray, List.set_cons_zero, List.set_cons_succ]))
  refine wpS_nil ?_
  clear j0 j1 j2 j3 j4 j5 kc
  generalize w3.drew = w4 at Y4 ⊢
  go_wp2_with fail
  refine (fewB_any _ ys _ 40 _ _ rfl (hy.below Y4.out.2.2.2.2) (by omega)).mono ?_
  rintro e w5 ⟨v5, rfl, ho5, hb5⟩
  rw [HF.out] at ho5
  obtain ⟨a5, c5, hv5⟩ := ho5.shape
  subst hv5
  have Y5' : Hid ((w5).cell? ⟨b, o, none⟩ = some (.slice a0 16 c0) ∧ (w5).cell? ⟨b, o + 1, none⟩ = some (.slice d1 16 e1) ∧ b < (w5).heap.size ∧ Rd .u8 (w5).heap.size (w5) (.slice a0 16 c0) z0 ∧ Rd .u8 (w5).heap.size (w5) (.slice a5 fs.length c5) fs ∧ Grow w (w5)) := ⟨by rw [Below.cell (p := ⟨b, o, none⟩) hb5 Y4.out.2.2.1]; exact Y4.out.1, by rw [Below.cell (p := ⟨b, o + 1, none⟩) hb5 Y4.out.2.2.1]; exact Y4.out.2.1, Nat.lt_of_lt_of_le Y4.out.2.2.1 hb5.size, (Y4.out.2.2.2.1.below hb5).size, ho5.rd, Y4.out.2.2.2.2.trans hb5⟩
  clear Y4 ho5 hb5 hy hcm hcc hc16c hc32 hc16
  by_cases h32 : fs.length = 32
  · have Y5 : Hid ((w5).cell? ⟨b, o, none⟩ = some (.slice a0 16 c0) ∧ (w5).cell? ⟨b, o + 1, none⟩ = some (.slice d1 16 e1) ∧ b < (w5).heap.size ∧ Rd .u8 (w5).heap.size (w5) (.slice a0 16 c0) z0 ∧ Rd .u8 (w5).heap.size (w5) (.slice a5 32 c5) fs ∧ Grow w (w5)) := by have := Y5'.out; rw [h32] at this; exact this
    rw [h32]
    clear Y5' h32 hlf
    have hsp := split_yes a5 c5 fs _ w5 Y5.out.2.2.2.2.1
    go_wp2_with fail
    refine hsp.mono ?_
    rintro e w6 ⟨xv, xc, x0, y0, x1, y1, rfl, -, -, -, hb6⟩
    have Y6 : Hid ((w6).cell? ⟨b, o, none⟩ = some (.slice a0 16 c0) ∧ (w6).cell? ⟨b, o + 1, none⟩ = some (.slice d1 16 e1) ∧ b < (w6).heap.size ∧ Rd .u8 (w6).heap.size (w6) (.slice a0 16 c0) z0 ∧ Rd .u8 (w6).heap.size (w6) (.slice a5 32 c5) fs ∧ Grow w (w6)) := PgY Y5.out hb6
    clear Y5 hsp hb6
    have k0 := Y6.out.1
    go_wp2_with fail
    refine (join_no _ 1 1 _ (by omega) (by simp only [maxLen]; omega)).mono ?_
    rintro e u1 ⟨rfl, rfl⟩
    have Y7 : Hid ((w6.alloc (.cells #[.slice a0 16 c0] 22)).cell? ⟨b, o, none⟩ = some (.slice a0 16 c0) ∧ (w6.alloc (.cells #[.slice a0 16 c0] 22)).cell? ⟨b, o + 1, none⟩ = some (.slice d1 16 e1) ∧ b < (w6.alloc (.cells #[.slice a0 16 c0] 22)).heap.size ∧ Rd .u8 (w6.alloc (.cells #[.slice a0 16 c0] 22)).heap.size (w6.alloc (.cells #[.slice a0 16 c0] 22)) (.slice a0 16 c0) z0 ∧ Rd .u8 (w6.alloc (.cells #[.slice a0 16 c0] 22)).heap.size (w6.alloc (.cells #[.slice a0 16 c0] 22)) (.slice a5 32 c5) fs ∧ Grow w (w6.alloc (.cells #[.slice a0 16 c0] 22))) := PgY Y6.out ((Grow.refl w6).alloc _)
    clear k0
    generalize w6.alloc (.cells #[.slice a0 16 c0] 22) = w7 at Y7 ⊢
    clear Y6
    have kc : ∀ w', Grow w7.drew w' → w'.cell? ⟨b, o, none⟩ = some (.slice a0 16 c0) ∧ w'.cell? ⟨b, o + 1, none⟩ = some (.slice d1 16 e1) := fun w' g => ⟨(PgY Y7.out ((Grow.refl w7).drew.trans g)).1, (PgY Y7.out ((Grow.refl w7).drew.trans g)).2.1⟩
    go_wp2
    refine wp_region_sched (by kernel_rfl) [(0, false), (1, false), (2, false), (3, false), (4, false), (5, false), (6, false), (7, false), (8, false), (9, true), (10, true), (11, false), (12, false), (13, false), (14, false), (15, false)] (by kernel_rfl) (by kernel_rfl) rfl (fun _ _ d _ _ h => by cases d <;> exact h) ?_
    simp only [inOrder, List.filterMap_cons, List.filterMap_nil, List.getElem?_toArray, List.getElem?_cons_zero, List.getElem?_cons_succ, Option.map_some]
    repeat (first
      | (refine wpS_move rfl ?_; simp only [Act.eval, Act.put, Array.getD_eq_getD_getElem?, List.getElem?_toArray, List.getElem?_cons_zero, List.getElem?_cons_succ, Option.getD_some, List.setIfInBounds_toArray, List.set_cons_zero, List.set_cons_succ])
      | (refine wpS_assign rfl ?_; simp only [Act.eval, Act.put, Array.getD_eq_getD_getElem?, List.getElem?_toArray, List.getElem?_cons_zero, List.getElem?_cons_succ, Option.getD_some, List.setIfInBounds_toArray, List.set_cons_zero, List.set_cons_succ])
      | (refine wpS_read (v := ?_) rfl ?_ ?_; rotate_left; (focus (intro w' hG; obtain ⟨q0, q1⟩ := kc w' hG; go_simp; try (with_reducible rfl))); simp only [Act.put, List.setIfInBounds_toArray, List.set_cons_zero, List.set_cons_succ])
      | (refine wpS_skip rfl ?_; simp only [Act.put, List.setIfInBounds_toArray, List.set_cons_zero, List.set_cons_succ]))
    refine wpS_act (v := ?_) (w' := ?_) (by rfl) ?_ ?_ ?_
    rotate_left 2; focus (go_simp; constructor <;> with_reducible rfl)
    · exact (Grow.refl _).alloc _
    simp only [Act.put, List.setIfInBounds_toArray, List.set_cons_zero, List.set_cons_succ]
    repeat (first
      | (refine wpS_move rfl ?_; simp only [Act.eval, Act.put, Array.getD_eq_getD_getElem?, List.getElem?_toArray, List.getElem?_cons_zero, List.getElem?_cons_succ, Option.getD_some, List.setIfInBounds_toArray, List.set_cons_zero, List.set_cons_succ])
      | (refine wpS_assign rfl ?_; simp only [Act.eval, Act.put, Array.getD_eq_getD_getElem?, List.getElem?_toArray, List.getElem?_cons_zero, List.getElem?_cons_succ, Option.getD_some, List.setIfInBounds_toArray, List.set_cons_zero, List.set_cons_succ])
      | (refine wpS_read (v := ?_) rfl ?_ ?_; rotate_left; (focus (intro w' hG; skip; go_simp; try (with_reducible rfl))); simp only [Act.put, List.setIfInBounds_toArray, List.set_cons_zero, List.set_cons_succ])
      | (refine wpS_skip rfl ?_; simp only [Act.put, List.setIfInBounds_toArray, List.set_cons_zero, List.set_cons_succ]))
    refine wpS_call (f := ?_) (args := ?_) (by rfl) ?_ ?_
    rotate_left 2; focus (go_simp; constructor <;> with_reducible rfl)
    refine (join_no _ 3 3 _ (by omega) (by simp only [maxLen]; omega)).mono ?_
    rintro e w8 ⟨rfl, rfl⟩
    refine ⟨_, rfl, Grow.refl _, ?_⟩
    simp only [Act.put, List.setIfInBounds_toArray, List.set_cons_zero, List.set_cons_succ]
    repeat (first
      | (refine wpS_move rfl ?_; simp only [Act.eval, Act.put, Array.getD_eq_getD_getElem?, List.getElem?_toArray, List.getElem?_cons_zero, List.getElem?_cons_succ, Option.getD_some, List.setIfInBounds_toArray, List.set_cons_zero, List.set_cons_succ])
      | (refine wpS_assign rfl ?_; simp only [Act.eval, Act.put, Array.getD_eq_getD_getElem?, List.getElem?_toArray, List.getElem?_cons_zero, List.getElem?_cons_succ, Option.getD_some, List.setIfInBounds_toArray, List.set_cons_zero, List.set_cons_succ])
      | (refine wpS_read (v := ?_) rfl ?_ ?_; rotate_left; (focus (intro w' hG; skip; go_simp; try (with_reducible rfl))); simp only [Act.put, List.setIfInBounds_toArray, List.set_cons_zero, List.set_cons_succ])
      | (refine wpS_skip rfl ?_; simp only [Act.put, List.setIfInBounds_toArray, List.set_cons_zero, List.set_cons_succ]))
    refine wpS_nil ?_
    have Y8 : Hid (((w7.alloc (.cells #[.slice a0 16 c0, .slice d1 16 e1, .slice a0 16 c0] 22)).drew).cell? ⟨b, o, none⟩ = some (.slice a0 16 c0) ∧ ((w7.alloc (.cells #[.slice a0 16 c0, .slice d1 16 e1, .slice a0 16 c0] 22)).drew).cell? ⟨b, o + 1, none⟩ = some (.slice d1 16 e1) ∧ b < ((w7.alloc (.cells #[.slice a0 16 c0, .slice d1 16 e1, .slice a0 16 c0] 22)).drew).heap.size ∧ Rd .u8 ((w7.alloc (.cells #[.slice a0 16 c0, .slice d1 16 e1, .slice a0 16 c0] 22)).drew).heap.size ((w7.alloc (.cells #[.slice a0 16 c0, .slice d1 16 e1, .slice a0 16 c0] 22)).drew) (.slice a0 16 c0) z0 ∧ Rd .u8 ((w7.alloc (.cells #[.slice a0 16 c0, .slice d1 16 e1, .slice a0 16 c0] 22)).drew).heap.size ((w7.alloc (.cells #[.slice a0 16 c0, .slice d1 16 e1, .slice a0 16 c0] 22)).drew) (.slice a5 32 c5) fs ∧ Grow w ((w7.alloc (.cells #[.slice a0 16 c0, .slice d1 16 e1, .slice a0 16 c0] 22)).drew)) := PgY Y7.out ((Grow.refl w7).alloc _).drew
    generalize (w7.alloc (.cells #[.slice a0 16 c0, .slice d1 16 e1, .slice a0 16 c0] 22)).drew = w8 at Y8 ⊢
    clear Y7 kc
    have k0 := Y8.out.1
    have hR9 := rdV_new2 a0 a5 16 32 c0 c5 22 w8
    have Y9 : Hid ((w8.alloc (.cells #[.slice a0 16 c0, .slice a5 32 c5] 22)).cell? ⟨b, o, none⟩ = some (.slice a0 16 c0) ∧ (w8.alloc (.cells #[.slice a0 16 c0, .slice a5 32 c5] 22)).cell? ⟨b, o + 1, none⟩ = some (.slice d1 16 e1) ∧ b < (w8.alloc (.cells #[.slice a0 16 c0, .slice a5 32 c5] 22)).heap.size ∧ Rd .u8 (w8.alloc (.cells #[.slice a0 16 c0, .slice a5 32 c5] 22)).heap.size (w8.alloc (.cells #[.slice a0 16 c0, .slice a5 32 c5] 22)) (.slice a0 16 c0) z0 ∧ Rd .u8 (w8.alloc (.cells #[.slice a0 16 c0, .slice a5 32 c5] 22)).heap.size (w8.alloc (.cells #[.slice a0 16 c0, .slice a5 32 c5] 22)) (.slice a5 32 c5) fs ∧ Grow w (w8.alloc (.cells #[.slice a0 16 c0, .slice a5 32 c5] 22))) := PgY Y8.out ((Grow.refl w8).alloc _)
    have hj := join_odd _ a0 a5 2 c0 c5 32 z0 fs _ _ _ hR9 Y9.out.2.2.2.1 Y9.out.2.2.2.2.1 (by omega)
    go_wp2_with fail
    refine hj.mono ?_
    rintro e u4 ⟨rfl, g4⟩
    have YE : Hid (Grow w u4) := Y9.out.2.2.2.2.2.trans g4
    clear hj Y9 Y8
    clear k0 hR9
    go_wp2_with fail
    refine (lives8_any _).mono ?_
    rintro e u9 ⟨rfl, g9⟩
    go_wp2
    go_ret
    exact ⟨rfl, YE.out.trans g9⟩
  · by_cases h16 : fs.length = 16
    · have Y5 : Hid ((w5).cell? ⟨b, o, none⟩ = some (.slice a0 16 c0) ∧ (w5).cell? ⟨b, o + 1, none⟩ = some (.slice d1 16 e1) ∧ b < (w5).heap.size ∧ Rd .u8 (w5).heap.size (w5) (.slice a0 16 c0) z0 ∧ Rd .u8 (w5).heap.size (w5) (.slice a5 16 c5) fs ∧ Grow w (w5)) := by have := Y5'.out; rw [h16] at this; exact this
      rw [h16]
      clear Y5' h32 h16 hlf
      have hsp := split_no a5 16 c5 w5 (by omega) (by simp only [maxLen]; omega)
      go_wp2_with fail
      refine hsp.mono ?_
      rintro e w6 ⟨rfl, rfl⟩
      have Y6 := Y5
      generalize w5 = w6 at Y6 ⊢
      clear Y5 hsp
      have k0 := Y6.out.1
      go_wp2_with fail
      refine (join_no _ 1 1 _ (by omega) (by simp only [maxLen]; omega)).mono ?_
      rintro e u1 ⟨rfl, rfl⟩
      have Y7 : Hid ((w6.alloc (.cells #[.slice a0 16 c0] 22)).cell? ⟨b, o, none⟩ = some (.slice a0 16 c0) ∧ (w6.alloc (.cells #[.slice a0 16 c0] 22)).cell? ⟨b, o + 1, none⟩ = some (.slice d1 16 e1) ∧ b < (w6.alloc (.cells #[.slice a0 16 c0] 22)).heap.size ∧ Rd .u8 (w6.alloc (.cells #[.slice a0 16 c0] 22)).heap.size (w6.alloc (.cells #[.slice a0 16 c0] 22)) (.slice a0 16 c0) z0 ∧ Rd .u8 (w6.alloc (.cells #[.slice a0 16 c0] 22)).heap.size (w6.alloc (.cells #[.slice a0 16 c0] 22)) (.slice a5 16 c5) fs ∧ Grow w (w6.alloc (.cells #[.slice a0 16 c0] 22))) := PgY Y6.out ((Grow.refl w6).alloc _)
      clear k0
      generalize w6.alloc (.cells #[.slice a0 16 c0] 22) = w7 at Y7 ⊢
      clear Y6
      have kc : ∀ w', Grow w7.drew w' → w'.cell? ⟨b, o, none⟩ = some (.slice a0 16 c0) ∧ w'.cell? ⟨b, o + 1, none⟩ = some (.slice d1 16 e1) := fun w' g => ⟨(PgY Y7.out ((Grow.refl w7).drew.trans g)).1, (PgY Y7.out ((Grow.refl w7).drew.trans g)).2.1⟩
      go_wp2
      refine wp_region_sched (by kernel_rfl) [(0, false), (1, false), (2, false), (3, false), (4, false), (5, false), (6, false), (7, false), (8, false), (9, true), (10, true), (11, false), (12, false), (13, false), (14, false), (15, false)] (by kernel_rfl) (by kernel_rfl) rfl (fun _ _ d _ _ h => by cases d <;> exact h) ?_
      simp only [inOrder, List.filterMap_cons, List.filterMap_nil, List.getElem?_toArray, List.getElem?_cons_zero, List.getElem?_cons_succ, Option.map_some]
      repeat (first
        | (refine wpS_move rfl ?_; simp only [Act.eval, Act.put, Array.getD_eq_getD_getElem?, List.getElem?_toArray, List.getElem?_cons_zero, List.getElem?_cons_succ, Option.getD_some, List.setIfInBounds_toArray, List.set_cons_zero, List.set_cons_succ])
        | (refine wpS_assign rfl ?_; simp only [Act.eval, Act.put, Array.getD_eq_getD_getElem?, List.getElem?_toArray, List.getElem?_cons_zero, List.getElem?_cons_succ, Option.getD_some, List.setIfInBounds_toArray, List.set_cons_zero, List.set_cons_succ])
        | (refine wpS_read (v := ?_) rfl ?_ ?_; rotate_left; (focus (intro w' hG; obtain ⟨q0, q1⟩ := kc w' hG; go_simp; try (with_reducible rfl))); simp only [Act.put, List.setIfInBounds_toArray, List.set_cons_zero, List.set_cons_succ])
        | (refine wpS_skip rfl ?_; simp only [Act.put, List.setIfInBounds_toArray, List.set_cons_zero, List.set_cons_succ]))
      refine wpS_act (v := ?_) (w' := ?_) (by rfl) ?_ ?_ ?_
      rotate_left 2; focus (go_simp; constructor <;> with_reducible rfl)
      · exact (Grow.refl _).alloc _
      simp only [Act.put, List.setIfInBounds_toArray, List.set_cons_zero, List.set_cons_succ]
      repeat (first
        | (refine wpS_move rfl ?_; simp only [Act.eval, Act.put, Array.getD_eq_getD_getElem?, List.getElem?_toArray, List.getElem?_cons_zero, List.getElem?_cons_succ, Option.getD_some, List.setIfInBounds_toArray, List.set_cons_zero, List.set_cons_succ])
        | (refine wpS_assign rfl ?_; simp only [Act.eval, Act.put, Array.getD_eq_getD_getElem?, List.getElem?_toArray, List.getElem?_cons_zero, List.getElem?_cons_succ, Option.getD_some, List.setIfInBounds_toArray, List.set_cons_zero, List.set_cons_succ])
        | (refine wpS_read (v := ?_) rfl ?_ ?_; rotate_left; (focus (intro w' hG; skip; go_simp; try (with_reducible rfl))); simp only [Act.put, List.setIfInBounds_toArray, List.set_cons_zero, List.set_cons_succ])
        | (refine wpS_skip rfl ?_; simp only [Act.put, List.setIfInBounds_toArray, List.set_cons_zero, List.set_cons_succ]))
      refine wpS_call (f := ?_) (args := ?_) (by rfl) ?_ ?_
      rotate_left 2; focus (go_simp; constructor <;> with_reducible rfl)
      refine (join_no _ 3 3 _ (by omega) (by simp only [maxLen]; omega)).mono ?_
      rintro e w8 ⟨rfl, rfl⟩
      refine ⟨_, rfl, Grow.refl _, ?_⟩
      simp only [Act.put, List.setIfInBounds_toArray, List.set_cons_zero, List.set_cons_succ]
      repeat (first
        | (refine wpS_move rfl ?_; simp only [Act.eval, Act.put, Array.getD_eq_getD_getElem?, List.getElem?_toArray, List.getElem?_cons_zero, List.getElem?_cons_succ, Option.getD_some, List.setIfInBounds_toArray, List.set_cons_zero, List.set_cons_succ])
        | (refine wpS_assign rfl ?_; simp only [Act.eval, Act.put, Array.getD_eq_getD_getElem?, List.getElem?_toArray, List.getElem?_cons_zero, List.getElem?_cons_succ, Option.getD_some, List.setIfInBounds_toArray, List.set_cons_zero, List.set_cons_succ])
        | (refine wpS_read (v := ?_) rfl ?_ ?_; rotate_left; (focus (intro w' hG; skip; go_simp; try (with_reducible rfl))); simp only [Act.put, List.setIfInBounds_toArray, List.set_cons_zero, List.set_cons_succ])
        | (refine wpS_skip rfl ?_; simp only [Act.put, List.setIfInBounds_toArray, List.set_cons_zero, List.set_cons_succ]))
      refine wpS_nil ?_
      have Y8 : Hid (((w7.alloc (.cells #[.slice a0 16 c0, .slice d1 16 e1, .slice a0 16 c0] 22)).drew).cell? ⟨b, o, none⟩ = some (.slice a0 16 c0) ∧ ((w7.alloc (.cells #[.slice a0 16 c0, .slice d1 16 e1, .slice a0 16 c0] 22)).drew).cell? ⟨b, o + 1, none⟩ = some (.slice d1 16 e1) ∧ b < ((w7.alloc (.cells #[.slice a0 16 c0, .slice d1 16 e1, .slice a0 16 c0] 22)).drew).heap.size ∧ Rd .u8 ((w7.alloc (.cells #[.slice a0 16 c0, .slice d1 16 e1, .slice a0 16 c0] 22)).drew).heap.size ((w7.alloc (.cells #[.slice a0 16 c0, .slice d1 16 e1, .slice a0 16 c0] 22)).drew) (.slice a0 16 c0) z0 ∧ Rd .u8 ((w7.alloc (.cells #[.slice a0 16 c0, .slice d1 16 e1, .slice a0 16 c0] 22)).drew).heap.size ((w7.alloc (.cells #[.slice a0 16 c0, .slice d1 16 e1, .slice a0 16 c0] 22)).drew) (.slice a5 16 c5) fs ∧ Grow w ((w7.alloc (.cells #[.slice a0 16 c0, .slice d1 16 e1, .slice a0 16 c0] 22)).drew)) := PgY Y7.out ((Grow.refl w7).alloc _).drew
      generalize (w7.alloc (.cells #[.slice a0 16 c0, .slice d1 16 e1, .slice a0 16 c0] 22)).drew = w8 at Y8 ⊢
      clear Y7 kc
      have k0 := Y8.out.1
      have hR9 := rdV_new2 a0 a5 16 16 c0 c5 22 w8
      have Y9 : Hid ((w8.alloc (.cells #[.slice a0 16 c0, .slice a5 16 c5] 22)).cell? ⟨b, o, none⟩ = some (.slice a0 16 c0) ∧ (w8.alloc (.cells #[.slice a0 16 c0, .slice a5 16 c5] 22)).cell? ⟨b, o + 1, none⟩ = some (.slice d1 16 e1) ∧ b < (w8.alloc (.cells #[.slice a0 16 c0, .slice a5 16 c5] 22)).heap.size ∧ Rd .u8 (w8.alloc (.cells #[.slice a0 16 c0, .slice a5 16 c5] 22)).heap.size (w8.alloc (.cells #[.slice a0 16 c0, .slice a5 16 c5] 22)) (.slice a0 16 c0) z0 ∧ Rd .u8 (w8.alloc (.cells #[.slice a0 16 c0, .slice a5 16 c5] 22)).heap.size (w8.alloc (.cells #[.slice a0 16 c0, .slice a5 16 c5] 22)) (.slice a5 16 c5) fs ∧ Grow w (w8.alloc (.cells #[.slice a0 16 c0, .slice a5 16 c5] 22))) := PgY Y8.out ((Grow.refl w8).alloc _)
      have hj := join_two _ a0 a5 2 c0 c5 16 z0 fs _ _ _ hR9 Y9.out.2.2.2.1 Y9.out.2.2.2.2.1 rfl
      go_wp2_with fail
      refine hj.mono ?_
      rintro e u4 ⟨v4, rfl, hz4, g4⟩
      obtain ⟨a4, c4, hv4⟩ := hz4.shape
      subst hv4
      have YE : Hid (Grow w u4) := Y9.out.2.2.2.2.2.trans g4
      clear hj Y9 Y8 hz4
      clear k0 hR9
      go_wp2_with fail
      refine (lives8_any _).mono ?_
      rintro e u9 ⟨rfl, g9⟩
      go_wp2
      go_ret
      exact ⟨rfl, YE.out.trans g9⟩
    · have Y5 := Y5'
      obtain ⟨l, hl⟩ : ∃ l, fs.length = l := ⟨_, rfl⟩
      rw [hl] at Y5 h32 h16 hlf ⊢
      have i32 : ¬ (l : Int) = 32 := by omega
      have i16 : ¬ (l : Int) = 16 := by omega
      have b32 : ((l : Int) == 32) = false := by rw [beq_eq_false_iff_ne]; exact i32
      have b16 : ((l : Int) == 16) = false := by rw [beq_eq_false_iff_ne]; exact i16
      clear Y5' hl
      have hsp := split_no a5 l c5 w5 h32 (by simp only [maxLen]; omega)
      go_wp2_with fail
      refine hsp.mono ?_
      rintro e w6 ⟨rfl, rfl⟩
      have Y6 := Y5
      generalize w5 = w6 at Y6 ⊢
      clear Y5 hsp
      have k0 := Y6.out.1
      go_wp2_with fail
      refine (join_no _ 1 1 _ (by omega) (by simp only [maxLen]; omega)).mono ?_
      rintro e u1 ⟨rfl, rfl⟩
      have Y7 : Hid ((w6.alloc (.cells #[.slice a0 16 c0] 22)).cell? ⟨b, o, none⟩ = some (.slice a0 16 c0) ∧ (w6.alloc (.cells #[.slice a0 16 c0] 22)).cell? ⟨b, o + 1, none⟩ = some (.slice d1 16 e1) ∧ b < (w6.alloc (.cells #[.slice a0 16 c0] 22)).heap.size ∧ Rd .u8 (w6.alloc (.cells #[.slice a0 16 c0] 22)).heap.size (w6.alloc (.cells #[.slice a0 16 c0] 22)) (.slice a0 16 c0) z0 ∧ Rd .u8 (w6.alloc (.cells #[.slice a0 16 c0] 22)).heap.size (w6.alloc (.cells #[.slice a0 16 c0] 22)) (.slice a5 l c5) fs ∧ Grow w (w6.alloc (.cells #[.slice a0 16 c0] 22))) := PgY Y6.out ((Grow.refl w6).alloc _)
      clear k0
      generalize w6.alloc (.cells #[.slice a0 16 c0] 22) = w7 at Y7 ⊢
      clear Y6
      have kc : ∀ w', Grow w7.drew w' → w'.cell? ⟨b, o, none⟩ = some (.slice a0 16 c0) ∧ w'.cell? ⟨b, o + 1, none⟩ = some (.slice d1 16 e1) := fun w' g => ⟨(PgY Y7.out ((Grow.refl w7).drew.trans g)).1, (PgY Y7.out ((Grow.refl w7).drew.trans g)).2.1⟩
      go_wp2
      refine wp_region_sched (by kernel_rfl) [(0, false), (1, false), (2, false), (3, false), (4, false), (5, false), (6, false), (7, false), (8, false), (9, true), (10, true), (11, false), (12, false), (13, false), (14, false), (15, false)] (by kernel_rfl) (by kernel_rfl) rfl (fun _ _ d _ _ h => by cases d <;> exact h) ?_
      simp only [inOrder, List.filterMap_cons, List.filterMap_nil, List.getElem?_toArray, List.getElem?_cons_zero, List.getElem?_cons_succ, Option.map_some]
      repeat (first
        | (refine wpS_move rfl ?_; simp only [Act.eval, Act.put, Array.getD_eq_getD_getElem?, List.getElem?_toArray, List.getElem?_cons_zero, List.getElem?_cons_succ, Option.getD_some, List.setIfInBounds_toArray, List.set_cons_zero, List.set_cons_succ])
        | (refine wpS_assign rfl ?_; simp only [Act.eval, Act.put, Array.getD_eq_getD_getElem?, List.getElem?_toArray, List.getElem?_cons_zero, List.getElem?_cons_succ, Option.getD_some, List.setIfInBounds_toArray, List.set_cons_zero, List.set_cons_succ])
        | (refine wpS_read (v := ?_) rfl ?_ ?_; rotate_left; (focus (intro w' hG; obtain ⟨q0, q1⟩ := kc w' hG; go_simp; try (with_reducible rfl))); simp only [Act.put, List.setIfInBounds_toArray, List.set_cons_zero, List.set_cons_succ])
        | (refine wpS_skip rfl ?_; simp only [Act.put, List.setIfInBounds_toArray, List.set_cons_zero, List.set_cons_succ]))
      refine wpS_act (v := ?_) (w' := ?_) (by rfl) ?_ ?_ ?_
      rotate_left 2; focus (go_simp; constructor <;> with_reducible rfl)
      · exact (Grow.refl _).alloc _
      simp only [Act.put, List.setIfInBounds_toArray, List.set_cons_zero, List.set_cons_succ]
      repeat (first
        | (refine wpS_move rfl ?_; simp only [Act.eval, Act.put, Array.getD_eq_getD_getElem?, List.getElem?_toArray, List.getElem?_cons_zero, List.getElem?_cons_succ, Option.getD_some, List.setIfInBounds_toArray, List.set_cons_zero, List.set_cons_succ])
        | (refine wpS_assign rfl ?_; simp only [Act.eval, Act.put, Array.getD_eq_getD_getElem?, List.getElem?_toArray, List.getElem?_cons_zero, List.getElem?_cons_succ, Option.getD_some, List.setIfInBounds_toArray, List.set_cons_zero, List.set_cons_succ])
        | (refine wpS_read (v := ?_) rfl ?_ ?_; rotate_left; (focus (intro w' hG; skip; go_simp; try (with_reducible rfl))); simp only [Act.put, List.setIfInBounds_toArray, List.set_cons_zero, List.set_cons_succ])
        | (refine wpS_skip rfl ?_; simp only [Act.put, List.setIfInBounds_toArray, List.set_cons_zero, List.set_cons_succ]))
      refine wpS_call (f := ?_) (args := ?_) (by rfl) ?_ ?_
      rotate_left 2; focus (go_simp; constructor <;> with_reducible rfl)
      refine (join_no _ 3 3 _ (by omega) (by simp only [maxLen]; omega)).mono ?_
      rintro e w8 ⟨rfl, rfl⟩
      refine ⟨_, rfl, Grow.refl _, ?_⟩
      simp only [Act.put, List.setIfInBounds_toArray, List.set_cons_zero, List.set_cons_succ]
      repeat (first
        | (refine wpS_move rfl ?_; simp only [Act.eval, Act.put, Array.getD_eq_getD_getElem?, List.getElem?_toArray, List.getElem?_cons_zero, List.getElem?_cons_succ, Option.getD_some, List.setIfInBounds_toArray, List.set_cons_zero, List.set_cons_succ])
        | (refine wpS_assign rfl ?_; simp only [Act.eval, Act.put, Array.getD_eq_getD_getElem?, List.getElem?_toArray, List.getElem?_cons_zero, List.getElem?_cons_succ, Option.getD_some, List.setIfInBounds_toArray, List.set_cons_zero, List.set_cons_succ])
        | (refine wpS_read (v := ?_) rfl ?_ ?_; rotate_left; (focus (intro w' hG; skip; go_simp; try (with_reducible rfl))); simp only [Act.put, List.setIfInBounds_toArray, List.set_cons_zero, List.set_cons_succ])
        | (refine wpS_skip rfl ?_; simp only [Act.put, List.setIfInBounds_toArray, List.set_cons_zero, List.set_cons_succ]))
      refine wpS_nil ?_
      have Y8 : Hid (((w7.alloc (.cells #[.slice a0 16 c0, .slice d1 16 e1, .slice a0 16 c0] 22)).drew).cell? ⟨b, o, none⟩ = some (.slice a0 16 c0) ∧ ((w7.alloc (.cells #[.slice a0 16 c0, .slice d1 16 e1, .slice a0 16 c0] 22)).drew).cell? ⟨b, o + 1, none⟩ = some (.slice d1 16 e1) ∧ b < ((w7.alloc (.cells #[.slice a0 16 c0, .slice d1 16 e1, .slice a0 16 c0] 22)).drew).heap.size ∧ Rd .u8 ((w7.alloc (.cells #[.slice a0 16 c0, .slice d1 16 e1, .slice a0 16 c0] 22)).drew).heap.size ((w7.alloc (.cells #[.slice a0 16 c0, .slice d1 16 e1, .slice a0 16 c0] 22)).drew) (.slice a0 16 c0) z0 ∧ Rd .u8 ((w7.alloc (.cells #[.slice a0 16 c0, .slice d1 16 e1, .slice a0 16 c0] 22)).drew).heap.size ((w7.alloc (.cells #[.slice a0 16 c0, .slice d1 16 e1, .slice a0 16 c0] 22)).drew) (.slice a5 l c5) fs ∧ Grow w ((w7.alloc (.cells #[.slice a0 16 c0, .slice d1 16 e1, .slice a0 16 c0] 22)).drew)) := PgY Y7.out ((Grow.refl w7).alloc _).drew
      generalize (w7.alloc (.cells #[.slice a0 16 c0, .slice d1 16 e1, .slice a0 16 c0] 22)).drew = w8 at Y8 ⊢
      clear Y7 kc
      have k0 := Y8.out.1
      have hR9 := rdV_new2 a0 a5 16 l c0 c5 22 w8
      have Y9 : Hid ((w8.alloc (.cells #[.slice a0 16 c0, .slice a5 l c5] 22)).cell? ⟨b, o, none⟩ = some (.slice a0 16 c0) ∧ (w8.alloc (.cells #[.slice a0 16 c0, .slice a5 l c5] 22)).cell? ⟨b, o + 1, none⟩ = some (.slice d1 16 e1) ∧ b < (w8.alloc (.cells #[.slice a0 16 c0, .slice a5 l c5] 22)).heap.size ∧ Rd .u8 (w8.alloc (.cells #[.slice a0 16 c0, .slice a5 l c5] 22)).heap.size (w8.alloc (.cells #[.slice a0 16 c0, .slice a5 l c5] 22)) (.slice a0 16 c0) z0 ∧ Rd .u8 (w8.alloc (.cells #[.slice a0 16 c0, .slice a5 l c5] 22)).heap.size (w8.alloc (.cells #[.slice a0 16 c0, .slice a5 l c5] 22)) (.slice a5 l c5) fs ∧ Grow w (w8.alloc (.cells #[.slice a0 16 c0, .slice a5 l c5] 22))) := PgY Y8.out ((Grow.refl w8).alloc _)
      have hj := join_odd _ a0 a5 2 c0 c5 l z0 fs _ _ _ hR9 Y9.out.2.2.2.1 Y9.out.2.2.2.2.1 h16
      go_wp2_with fail
      refine hj.mono ?_
      rintro e u4 ⟨rfl, g4⟩
      have YE : Hid (Grow w u4) := Y9.out.2.2.2.2.2.trans g4
      clear hj Y9 Y8
      clear k0 hR9
      go_wp2_with fail
      refine (lives8_any _).mono ?_
      rintro e u9 ⟨rfl, g9⟩
      go_wp2
      go_ret
      exact ⟨rfl, YE.out.trans g9⟩
end Go.Proofs.Ytlhkjmhdhpgjkaa
