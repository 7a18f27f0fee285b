/-
  The walk of FrameOwns. Conditions: the theorem's own.
-/
import Derived.Test.YtcmehefaceaioaaFraV
import Derived.Test.YtcmehefaceaioaaCelFill
import Derived.Test.YtcmehefaceaioaaBase
import Derived.Deep.CutRange
namespace Go.Proofs.Ytcmehefaceaioaa
open Go.RowKit
set_option linter.unusedVariables false
set_option linter.unusedSimpArgs false

theorem got_all {fs : List Int} (h : fs.length = 32) : got fs 0 32 = (fs, 0) := by
  unfold got
  rw [h, fitE_ok (by omega), if_pos rfl]
  have e : (fs.drop (0 : Int).toNat).take (32 : Int).toNat = fs := by
    show (fs.drop 0).take 32 = fs
    rw [List.drop_zero, List.take_of_length_le (by omega)]
  rw [e]

theorem wp_gen {P : Program} {code : Code} {Q : Exit → Act → World → Prop} {a : Act} (S : World → Prop) {w : World} (h : S w) (k : ∀ w, S w → code.wp P Q a w) : code.wp P Q a w := k w h

set_option maxRecDepth 8000 in
set_option maxHeartbeats 4000000 in
theorem frameOwns_walk (v0 : Value) (zs : List Int) (y : Int) (w : World) (h0 : Rd .u8 w.heap.size w v0 zs) :
    Calls Try.prog 6 #[v0, .int .u8 y] w fun e w' => e = .returned (.bool true) ∧ Grow w w' := by
  have hF := fill_any v0 zs 32 32 _ w rfl h0 (by omega)
  have HL : Hid ((fillL zs 32).length = 32) := fillL_length zs 32
  generalize fillL zs 32 = fs at hF HL
  obtain ⟨a0, c0, rfl⟩ := h0.v.shape
  clear h0
  go_enter Try.func6, Try.ntmps6
  go_wp2_with fail
  refine hF.mono ?_
  rintro e w1 ⟨v1, rfl, ho1, g1⟩
  have hW := fewB_any v1 fs 32 32 _ w1 rfl ho1.v.rd.i (by omega)
  rw [List.take_of_length_le (by rw [HL.out]; exact Nat.le_refl _)] at hW
  obtain ⟨a1, c1, hv1⟩ := ho1.v.shape
  rw [HL.out] at hv1
  subst hv1
  have H1 : Hid (OwnV (Value.int .u8) 0 (fun i => i < w1.heap.size) w1 (.slice a1 32 c1) fs ∧ Grow w w1) := ⟨ho1.v.mono (fun i hi _ => hi), g1⟩
  clear ho1 g1 hF
  go_wp2_with fail
  refine hW.mono ?_
  rintro e w2 ⟨v2, rfl, ho2, g2⟩
  obtain ⟨a2, c2, hv2⟩ := ho2.v.shape
  rw [HL.out] at hv2
  subst hv2
  obtain ⟨W1, hW1⟩ : ∃ W1, w2.alloc (.cells zeroF 28) = W1 := ⟨_, rfl⟩
  have F1 := FrAt.new w2 28
  rw [hW1] at F1
  have g3 : Grow w2 W1 := by rw [← hW1]; exact (Grow.refl w2).alloc _
  obtain ⟨b, hb⟩ : ∃ b, w2.heap.size = b := ⟨_, rfl⟩
  rw [hb] at F1
  have hlt1 := F1.lt
  have H3 : Hid (OwnV (Value.int .u8) 0 (fun i => i < w1.heap.size) W1 (.slice a1 32 c1) fs ∧ OwnV (Value.int .u8) 0 (fun i => w1.heap.size ≤ i ∧ i < b) W1 (.slice a2 32 c2) fs ∧ Grow w W1 ∧ w.heap.size ≤ w1.heap.size ∧ w1.heap.size ≤ b) :=
    ⟨(H1.out.1.grow g2).grow g3, (ho2.v.mono (fun i hi hj => ⟨hj, by omega⟩)).grow g3, (H1.out.2.trans g2).trans g3, H1.out.2.size, by have := g2.size; omega⟩
  have hL := load_yes W1 b _ _ _ _ _ _ F1 0 a2 c2 fs (H3.out.2.1.rd.mono (fun i _ hi => by omega))
  clear hW ho2 g2 g3 F1 H1
  go_wp2_with fail
  (try rw [zeroF_lit])
  (try rw [hW1])
  (try rw [hb])
  refine hL.mono ?_
  rintro e w4 ⟨rfl, F4, u4⟩
  have hP := pin_yes w4 b _ _ _ _ _ _ F4 rfl (by omega) (by omega)
  have u4' := u4
  clear hL hW1 hb
  go_wp2_with fail
  refine hP.mono ?_
  rintro e w5 ⟨rfl, F5, u5⟩
  have u45 := u4'.trans u5
  have R2 := H3.out.2.1.upd u45 (fun i _ hi e => by omega)
  obtain ⟨g, o, c, hv, ⟨hgb1, hgb2⟩, hglt, hfc, hcm, hcell, hfro, hset⟩ := R2.row (j := 5) (by rw [HL.out]; omega)
  injection hv with e1 e2 e3
  subst e1 e3
  rw [HL.out] at hfc
  have hcm' : c2 ≤ 9223372036854775807 := hcm
  have hB : ∀ x, Calls Try.prog 22 #[.pointer (some ⟨b, 0, none⟩)] (w5.setCell ⟨g, o + 5, none⟩ x) fun e w' => ∃ v', e = .returned v' ∧ OwnV (Value.int .u8) 0 (fun i => w5.heap.size ≤ i) w' v' fs ∧ FrAt w' b true false true 1 0 fs ∧ OwnV (Value.int .u8) 0 (fun i => i < w1.heap.size) w' (.slice a1 32 c1) fs ∧ Grow w w' := fun x => by
    have us := UpdS.setCell (fun i => i = g) ⟨g, o + 5, none⟩ x w5 rfl
    have F6 := F5.upd us (by omega)
    refine (bytes_any _ b _ _ _ _ _ _ F6).mono ?_
    rintro e w' ⟨v', rfl, ho, gr⟩
    have hsz := us.size
    exact ⟨v', rfl, ho.mono (fun i _ hi => by omega), F6.grow gr, ((H3.out.1.upd u45 (fun i _ hi e => by have := H3.out.2.2.2.2; omega)).upd us (fun i _ hi e => by omega)).grow gr, (UpdS.new (UpdS.new H3.out.2.2.1 u45 (fun i hi => by have := H3.out.2.2.2; omega)) us (fun i hi => by have := H3.out.2.2.2; omega)).trans gr⟩
  have HB5 : Hid (b < w5.heap.size) := F5.lt
  have hxx := hcell
  generalize fs.getD 5 0 = x5 at hcell
  clear F4 u4 u4' u5 u45 R2 hset hP F5 hcm hgb1 hgb2 hglt e2
  go_wp2_with fail
  refine (hB _).mono ?_
  rintro e w7 ⟨v7, rfl, ho7, F7, R1, g7⟩
  have hG := fget_yes w7 b _ _ _ _ _ _ F7 0 32 fs (by omega) (by decide) (by decide) (got_all HL.out)
  have H7 : Hid (OwnV (Value.int .u8) 0 (fun i => w5.heap.size ≤ i ∧ i < w7.heap.size) w7 v7 fs ∧ OwnV (Value.int .u8) 0 (fun i => i < w1.heap.size) w7 (.slice a1 32 c1) fs ∧ Grow w w7 ∧ b < w7.heap.size) := ⟨ho7.mono (fun i hi hj => ⟨hj, hi⟩), R1, g7, F7.lt⟩
  obtain ⟨a7, c7, hv7⟩ := ho7.shape
  rw [HL.out] at hv7
  subst hv7
  clear ho7 F7 R1 g7 hB hfro hcell hxx
  go_wp2_with fail
  refine hG.mono ?_
  rintro e w8 ⟨v8, rfl, ho8, F8, u8⟩
  obtain ⟨a8, c8, hv8⟩ := ho8.shape
  rw [HL.out] at hv8
  subst hv8
  have R7 := H7.out.1.upd u8 (fun i _ hi e => by have := HB5.out; omega)
  obtain ⟨g7, o7, d7, hv7, hgb7, hglt7, hfc7, hcm7, hcell7, hfro7, hset7⟩ := R7.row (j := 6) (by rw [HL.out]; omega)
  injection hv7 with e1 e2 e3
  subst e1 e3
  obtain ⟨g8, o8, d8, hv8, hgb8, hglt8, hfc8, hcm8, hcell8, hfro8, hset8⟩ := ho8.row (j := 7) (by rw [HL.out]; omega)
  injection hv8 with e4 e5 e6
  subst e4 e6
  rw [HL.out] at hfc7 hfc8
  have hcm7' : c7 ≤ 9223372036854775807 := hcm7
  have hcm8' : c8 ≤ 9223372036854775807 := hcm8
  have hne : ∀ i j, (⟨g7, i, none⟩ : Addr) ≠ ⟨g8, j, none⟩ := fun i j e => by injection e; omega
  have k8 : ∀ x, (w8.setCell ⟨g7, o7 + 6, none⟩ x).cell? ⟨g8, o8 + 7, none⟩ = some (.int .u8 (fs.getD 7 0)) := fun x => by rw [World.cell?_setCell_other _ _ _ _ (hne _ _)]; exact hcell8
  have q8 : ∀ x, (w8.setCell ⟨g7, o7 + 6, none⟩ x).frozen? ⟨g8, o8 + 7, none⟩ = false := fun x => by rw [World.frozen?_setCell]; exact hfro8
  have HS : Hid (∀ x y, FrAt ((w8.setCell ⟨g7, o7 + 6, none⟩ x).setCell ⟨g8, o8 + 7, none⟩ y) b true false true 1 0 fs ∧ OwnV (Value.int .u8) 0 (fun i => i < w1.heap.size) ((w8.setCell ⟨g7, o7 + 6, none⟩ x).setCell ⟨g8, o8 + 7, none⟩ y) (.slice a1 32 c1) fs ∧ Grow w ((w8.setCell ⟨g7, o7 + 6, none⟩ x).setCell ⟨g8, o8 + 7, none⟩ y)) := fun x y => by
    have ux := (UpdS.setCell (fun i => i = g7 ∨ i = g8) ⟨g7, o7 + 6, none⟩ x w8 (.inl rfl)).trans (UpdS.setCell (fun i => i = g7 ∨ i = g8) ⟨g8, o8 + 7, none⟩ y _ (.inr rfl))
    have b5 := HB5.out
    have b7 := H7.out.2.2.2
    have h3 := H3.out.2.2.2
    exact ⟨F8.upd ux (by omega), (H7.out.2.1.upd u8 (fun i _ hi e => by omega)).upd ux (fun i _ hi e => by omega), UpdS.new (UpdS.new H7.out.2.2.1 u8 (fun i hi => by omega)) ux (fun i hi => by omega)⟩
  generalize fs.getD 6 0 = x6 at hcell7
  generalize fs.getD 7 0 = x7 at k8 hcell8
  clear ho8 F8 u8 R7 hset7 hset8 hgb7 hgb8 hglt7 hglt8 hcm7 hcm8 e2 e5 hG hne H7 hcell8 hfro8
  go_upto_region 13 with fail
  refine wp_gen (fun W => FrAt W b true false true 1 0 fs ∧ OwnV (Value.int .u8) 0 (fun i => i < w1.heap.size) W (.slice a1 32 c1) fs ∧ Grow w W) (HS.out _ _) ?_
  rintro w9 ⟨F9, R9, g9⟩
  have gd : Grow w9 w9.drew := (Grow.refl w9).drew
  have hB := bytes_any w9.drew b _ _ _ _ _ _ (F9.grow gd)
  have k1 : ∀ w', Grow w9.drew w' → (convert 35 9 (.slice a1 32 c1)).run Try.prog w' = .ok (.string (strOfNums fs)) w' := fun w' g => ((R9.rd.grow gd).grow g).i.string 35 9 5 Try.underlying35 Try.underlying5 Try.underlying9
  have HG9 : Hid (Grow w w9) := g9
  clear F9 R9 g9 HS k8 q8 hcell7 hfro7
  refine wp_region_sched (by kernel_rfl) [(0, false), (3, false), (4, false), (1, true), (2, false), (5, false), (6, false), (7, true), (8, false), (9, false)] (by kernel_rfl) (by kernel_rfl) rfl (fun _ _ d _ _ h => by cases d <;> exact h) ?_
  simp only [inOrder, List.filterMap_cons, List.filterMap_nil, List.getElem?_toArray, List.getElem?_cons_zero, List.getElem?_cons_succ, Option.map_some]
  repeat (first
    | (refine wpS_move rfl ?_; simp only [Act.eval, Act.put, Array.getD_eq_getD_getElem?, List.getElem?_toArray, List.getElem?_cons_zero, List.getElem?_cons_succ, Option.getD_some, List.setIfInBounds_toArray, List.set_cons_zero, List.set_cons_succ])
    | (refine wpS_assign rfl ?_; simp only [Act.eval, Act.put, Array.getD_eq_getD_getElem?, List.getElem?_toArray, List.getElem?_cons_zero, List.getElem?_cons_succ, Option.getD_some, List.setIfInBounds_toArray, List.set_cons_zero, List.set_cons_succ])
    | (refine wpS_read (v := ?_) rfl ?_ ?_; rotate_left; (focus (intro w' hG; have q1 := k1 w' hG; go_simp; try (with_reducible rfl))); simp only [Act.put, List.setIfInBounds_toArray, List.set_cons_zero, List.set_cons_succ])
    | (refine wpS_skip rfl ?_; simp only [Act.put, List.setIfInBounds_toArray, List.set_cons_zero, List.set_cons_succ]))
  refine wpS_call (f := ?_) (args := ?_) (by rfl) ?_ ?_
  rotate_left 2; focus (go_simp; constructor <;> with_reducible rfl)
  refine (hB).mono ?_
  rintro e w10 ⟨v10, rfl, ho10, g10⟩
  refine ⟨_, rfl, g10, ?_⟩
  simp only [Act.put, List.setIfInBounds_toArray, List.set_cons_zero, List.set_cons_succ]
  have k2 : ∀ w', Grow w10 w' → (convert 35 9 v10).run Try.prog w' = .ok (.string (strOfNums fs)) w' := fun w' g => (ho10.rd.grow g).i.string 35 9 5 Try.underlying35 Try.underlying5 Try.underlying9
  repeat (first
    | (refine wpS_move rfl ?_; simp only [Act.eval, Act.put, Array.getD_eq_getD_getElem?, List.getElem?_toArray, List.getElem?_cons_zero, List.getElem?_cons_succ, Option.getD_some, List.setIfInBounds_toArray, List.set_cons_zero, List.set_cons_succ])
    | (refine wpS_assign rfl ?_; simp only [Act.eval, Act.put, Array.getD_eq_getD_getElem?, List.getElem?_toArray, List.getElem?_cons_zero, List.getElem?_cons_succ, Option.getD_some, List.setIfInBounds_toArray, List.set_cons_zero, List.set_cons_succ])
    | (refine wpS_read (v := ?_) rfl ?_ ?_; rotate_left; (focus (intro w' hG; have q2 := k2 w' hG; go_simp; try (with_reducible rfl))); simp only [Act.put, List.setIfInBounds_toArray, List.set_cons_zero, List.set_cons_succ])
    | (refine wpS_skip rfl ?_; simp only [Act.put, List.setIfInBounds_toArray, List.set_cons_zero, List.set_cons_succ]))
  refine wpS_call (f := ?_) (args := ?_) (by rfl) ?_ ?_
  rotate_left 2; focus (go_simp; constructor <;> with_reducible rfl)
  refine (lives_any w10).mono ?_
  rintro e w11 ⟨rfl, g11⟩
  refine ⟨_, rfl, g11, ?_⟩
  simp only [Act.put, List.setIfInBounds_toArray, List.set_cons_zero, List.set_cons_succ]
  repeat (first
    | (refine wpS_move rfl ?_; simp only [Act.eval, Act.put, Array.getD_eq_getD_getElem?, List.getElem?_toArray, List.getElem?_cons_zero, List.getElem?_cons_succ, Option.getD_some, List.setIfInBounds_toArray, List.set_cons_zero, List.set_cons_succ])
    | (refine wpS_assign rfl ?_; simp only [Act.eval, Act.put, Array.getD_eq_getD_getElem?, List.getElem?_toArray, List.getElem?_cons_zero, List.getElem?_cons_succ, Option.getD_some, List.setIfInBounds_toArray, List.set_cons_zero, List.set_cons_succ])
    | (refine wpS_read (v := ?_) rfl ?_ ?_; rotate_left; (focus (intro w' hG; skip; go_simp; try (with_reducible rfl))); simp only [Act.put, List.setIfInBounds_toArray, List.set_cons_zero, List.set_cons_succ])
    | (refine wpS_skip rfl ?_; simp only [Act.put, List.setIfInBounds_toArray, List.set_cons_zero, List.set_cons_succ]))
  refine wpS_nil ?_
  go_wp2
  go_ret
  exact ⟨rfl, ((HG9.out.trans gd).trans g10).trans g11⟩
end Go.Proofs.Ytcmehefaceaioaa
