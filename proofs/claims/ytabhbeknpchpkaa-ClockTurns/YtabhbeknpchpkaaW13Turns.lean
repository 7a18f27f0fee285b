/-
  The walk of ClockTurns. Conditions: each theorem's own.
-/
import Derived.Test.YtabhbeknpchpkaaClkLive
import Derived.Deep.LoopGhost
import Derived.Deep.CutRange
namespace Go.Proofs.Ytabhbeknpchpkaa
open Go.RowKit
set_option linter.unusedVariables false
set_option linter.unusedSimpArgs false


set_option maxRecDepth 8000 in
set_option maxHeartbeats 4000000 in
theorem clockTurns_walk {p : Nat → Prop} (v : Value) (zs : List Fl) (hand : Int) (w : World) (hv : RdF p w v zs) (hwf : ∀ x ∈ zs, (Lit.int .i64 x.p).wf = true) (hb : zs.length * 16 ≤ 140737488355328) (hh : (Lit.int .i64 hand).wf = true) :
    Calls Try.prog 3 #[v, .int .i64 hand] w fun e w' => e = .returned (.bool true) ∧ Below w.heap.size w w' := by
  have has := as_any v zs w hv hb
  clear hv hb
  go_enter Try.func3, Try.ntmps3
  go_wp2_with fail
  refine has.mono ?_
  rintro e w1 ⟨v1, rfl, ho1, g1⟩
  have hgd := good_any v1 zs w1 ho1.rd hwf
  clear has ho1
  go_wp2_with fail
  refine hgd.mono ?_
  rintro e w2 ⟨v2, rfl, hr2, g2⟩
  have hof := of_any v2 (goodL zs) w2 hr2 (by have := (goodL_len zs).2; omega)
  clear hgd hr2 hwf
  go_wp2_with fail
  refine hof.mono ?_
  rintro e w3 ⟨v3, rfl, ho3, g3⟩
  have HG : Hid (Grow w w3) := (g1.trans g2).trans g3
  have HL : Hid (1 ≤ (goodL zs).length ∧ (goodL zs).length ≤ 8 ∧ ∀ x ∈ goodL zs, 0 ≤ x.p ∧ x.p ≤ 2) := ⟨(goodL_len zs).1, (goodL_len zs).2, goodL_bd zs⟩
  have hl1 : 1 ≤ (goodL zs).length := HL.out.1
  have hl8 : (goodL zs).length ≤ 8 := HL.out.2.1
  have hsz := (g1.trans g2).size
  generalize goodL zs = L at *
  obtain ⟨g, hg1, hg2, hog⟩ := own_block ho3 (by omega)
  obtain ⟨o, c, hvo⟩ := own_adr hog (by omega)
  subst hvo
  have HO : Hid (OwnF (fun i => i = g) w3 (.slice (some ⟨g, o, none⟩) L.length c) L ∧ w.heap.size ≤ g ∧ g < w3.heap.size) := ⟨hog, by omega, hg2⟩
  clear hof ho3 g1 g2 g3 hg1 hg2 hog hsz
  obtain ⟨i0, hinf, hz0, hz1, hz2⟩ := info_parts infoF
  have hsrc := HO.out.1.rd.src Fl.cs_length Fl.cs_one Try.underlying22
  go_wp2_with (at_builtin; refine wpList_appS (f := Fl.cs) (k := 4) (p := fun _ => False) rfl (.tmp 17) (.tmp 18) 22 22 rfl Fl.cs_length (by omega) i0 (.agg #[.bool false, .bool false, .bool false, .int .i64 0]) 16 Try.underlying22 hinf hz0 hz1 hz2 rfl rfl rfl (OwnS.nil _ _ _ _ _) hsrc (by simp only [maxLen, List.length_nil]; omega) (by simp only [List.length_nil]; omega) ?_)
  intro vk w4 hok huk
  have g4 : Grow w3 w4 := UpdS.new (Grow.refl _) huk (fun i hi => hi.elim)
  have hok' : OwnF (fun i => i = w3.heap.size) w4 vk L := hok
  obtain ⟨ak, ck, hvk⟩ := hok'.shape
  subst hvk
  have HK : Hid (OwnF (fun i => i = w3.heap.size) w4 (.slice ak L.length ck) L ∧ Grow w3 w4) := ⟨hok', g4⟩
  clear hsrc hok huk hok' g4 hinf hz0 hz1 hz2
  have har := fun w' => around_any hand (L.length : Int) w' hh (by omega) (by omega)
  have hab := around_bd hand (L.length : Int) (by omega)
  generalize around hand (L.length : Int) = K at har hab
  obtain ⟨h, hK⟩ : ∃ h : Nat, K = (h : Int) := ⟨K.toNat, by omega⟩
  subst hK
  have hhl : h < L.length := by omega
  have HH : Hid (h < L.length) := hhl
  clear hab
  go_wp2_with fail
  refine (har _).mono ?_
  rintro e w4x ⟨rfl, rfl⟩
  clear har
  have has := as_any _ L w4 HK.out.1.rd (by omega)
  go_wp2_with fail
  refine has.mono ?_
  rintro e w5 ⟨v5, rfl, ho5, g5⟩
  have hrt := rturn_any v5 L h w5 ho5.rd hhl (by omega) (fun x hx => (HL.out.2.2 x hx).1)
  have HG5 : Hid (Grow w3 w5) := HK.out.2.trans g5
  have HK5 : Hid (RdF (fun i => i = w3.heap.size) w5 (.slice ak L.length ck) L) := RdS.grow HK.out.1.rd g5
  clear has ho5 g5 HK
  have htu0 := fun w' (g' : Grow w3 w') => turn_any g o L.length c L h w' (RdS.grow HO.out.1.rd g') hhl (by omega)
  have hro0 := fun w' (g' : Grow w3 w') => rounds_any g o L.length c L h w' (RdS.grow HO.out.1.rd g') hhl (by omega)
  have hM : (trn L h).2.length = L.length := trn_len hhl
  generalize vic L h = V at *
  generalize hnd L h = Hd at *
  generalize trn L h = T at *
  obtain ⟨K, M⟩ := T
  simp only [] at hrt htu0 hro0 hM
  obtain ⟨b, hb⟩ : ∃ b, decide (0 < K) = b := ⟨_, rfl⟩
  have hb2 : decide ((0 : Int) < (K : Int)) = b := by rw [← hb]; simp
  rw [hb] at htu0
  have HMl : Hid (M.length = L.length) := hM
  clear hM
  go_wp2_with fail
  refine hrt.mono ?_
  rintro e w6 ⟨vq, rfl, ho6, g6⟩
  have HG6 : Hid (Grow w3 w6) := HG5.out.trans g6
  have HK6 : Hid (RdF (fun i => i = w3.heap.size) w6 (.slice ak L.length ck) L) := RdS.grow HK5.out g6
  obtain ⟨aq, cq, hvq⟩ := ho6.shape
  generalize M.length = mq at hvq
  subst hvq
  have HQ6 : Hid (RdF (fun i => w5.heap.size ≤ i) w6 (.slice aq mq cq) M) := ho6.rd
  clear hrt ho6 g6 HG5 HK5
  obtain ⟨vq, hvq⟩ : ∃ vq, vq = Value.slice aq mq cq := ⟨_, rfl⟩
  have gA : Grow w6 (w6.alloc (.cells #[.int .i64 V, .int .i64 Hd, .slice aq mq cq, .int .i64 K] 29)) := (Grow.refl _).alloc _
  have HA : Hid (VarAt (w6.alloc (.cells #[.int .i64 V, .int .i64 Hd, .slice aq mq cq, .int .i64 K] 29)) w6.heap.size [.int .i64 V, .int .i64 Hd, .slice aq mq cq, .int .i64 K] ∧ RdF (fun i => i = w3.heap.size) (w6.alloc (.cells #[.int .i64 V, .int .i64 Hd, .slice aq mq cq, .int .i64 K] 29)) (.slice ak L.length ck) L ∧ RdF (fun i => w5.heap.size ≤ i) (w6.alloc (.cells #[.int .i64 V, .int .i64 Hd, .slice aq mq cq, .int .i64 K] 29)) (.slice aq mq cq) M ∧ Grow w3 (w6.alloc (.cells #[.int .i64 V, .int .i64 Hd, .slice aq mq cq, .int .i64 K] 29))) :=
    ⟨VarAt.new w6 [.int .i64 V, .int .i64 Hd, .slice aq mq cq, .int .i64 K] _, RdS.grow HK6.out gA, RdS.grow HQ6.out gA, HG6.out.trans gA⟩
  clear hvq vq gA HG6 HK6 HQ6
  go_upto_region 6 with fail
  generalize w6.alloc (.cells #[.int .i64 V, .int .i64 Hd, .slice aq mq cq, .int .i64 K] 29) = w7 at HA ⊢
  generalize w6.heap.size = B at HA ⊢
  have htu := htu0 w7 HA.out.2.2.2
  clear htu0
  go_wp2_with fail
  refine htu.mono ?_
  rintro e w8 ⟨v8, rfl, ho8, g8⟩
  obtain ⟨a8, c8, hv8⟩ := ho8.shape
  generalize M.length = m8 at hv8
  subst hv8
  have HB : Hid (VarAt w8 B [.int .i64 V, .int .i64 Hd, .slice aq mq cq, .int .i64 K] ∧ RdF (fun i => i = w3.heap.size) w8 (.slice ak L.length ck) L ∧ RdF (fun i => w5.heap.size ≤ i) w8 (.slice aq mq cq) M ∧ Grow w3 w8 ∧ RdF (fun i => w7.heap.size ≤ i) w8 (.slice a8 m8 c8) M) :=
    ⟨HA.out.1.grow g8, RdS.grow HA.out.2.1 g8, RdS.grow HA.out.2.2.1 g8, HA.out.2.2.2.trans g8, ho8.rd⟩
  clear htu ho8 g8 HA
  go_wp2
  have G0 : Grow w8 w8.drew := (Grow.refl _).drew
  have kx0 : ∀ w', Grow w8.drew w' → VarAt w' B [.int .i64 V, .int .i64 Hd, .slice aq mq cq, .int .i64 K] := fun w' hg => HB.out.1.grow (G0.trans hg)
  refine wp_region_sched (by kernel_rfl) [(0, false), (1, false), (2, false), (3, false), (4, false), (5, false), (6, false), (7, false), (8, false), (9, false), (10, false), (11, false), (13, false), (14, false), (12, true), (15, true), (16, false), (17, false), (18, false), (19, false), (20, false), (21, false), (22, false), (23, false), (24, false), (25, false), (26, false), (28, false), (29, false), (27, true), (30, false), (31, false), (32, false), (33, false), (35, false), (34, true), (36, true), (37, true), (38, false), (39, false), (40, false), (41, false), (43, false), (42, true), (44, true), (45, true), (46, false), (47, false), (48, true), (49, false), (50, false)] (by kernel_rfl) (by kernel_rfl) rfl (fun _ _ d _ _ h => by cases d <;> exact h) ?_
  simp only [inOrder, List.filterMap_cons, List.filterMap_nil, List.getElem?_toArray, List.getElem?_cons_zero, List.getElem?_cons_succ, Option.map_some]
  repeat (first
    | (refine wpS_move rfl ?_; simp only [Act.eval, Act.put, Array.getD_eq_getD_getElem?, List.getElem?_toArray, List.getElem?_cons_zero, List.getElem?_cons_succ, Option.getD_some, List.setIfInBounds_toArray, List.set_cons_zero, List.set_cons_succ])
    | (refine wpS_assign rfl ?_; simp only [Act.eval, Act.put, Array.getD_eq_getD_getElem?, List.getElem?_toArray, List.getElem?_cons_zero, List.getElem?_cons_succ, Option.getD_some, List.setIfInBounds_toArray, List.set_cons_zero, List.set_cons_succ])
    | (refine wpS_read (v := ?_) rfl ?_ ?_; rotate_left; (focus (intro w' hG; obtain ⟨⟨k0, k1, k2, k3⟩, -⟩ := (kx0 w' hG).four; go_simp; try (with_reducible rfl))); simp only [Act.put, List.setIfInBounds_toArray, List.set_cons_zero, List.set_cons_succ])
    | (refine wpS_skip rfl ?_; simp only [Act.put, List.setIfInBounds_toArray, List.set_cons_zero, List.set_cons_succ]))
  have hc1 := as_any _ M w8.drew (RdS.grow HB.out.2.2.2.2 G0) (by rw [HMl.out]; omega)
  refine wpS_call (f := ?_) (args := ?_) (by rfl) ?_ ?_
  rotate_left 2; focus (go_simp; constructor <;> with_reducible rfl)
  refine (hc1).mono ?_
  rintro e x1 ⟨y1, rfl, o1, g1⟩
  refine ⟨_, rfl, g1, ?_⟩
  simp only [Act.put, List.setIfInBounds_toArray, List.set_cons_zero, List.set_cons_succ]
  have hc2 := same_yes y1 _ M x1 o1.rd (RdS.grow HB.out.2.2.1 (G0.trans g1)) (by rw [HMl.out]; omega)
  refine wpS_call (f := ?_) (args := ?_) (by rfl) ?_ ?_
  rotate_left 2; focus (go_simp; constructor <;> with_reducible rfl)
  refine (hc2).mono ?_
  rintro e x2 ⟨rfl, g2⟩
  refine ⟨_, rfl, g2, ?_⟩
  simp only [Act.put, List.setIfInBounds_toArray, List.set_cons_zero, List.set_cons_succ]
  have kx2 : ∀ w', Grow x2 w' → VarAt w' B [.int .i64 V, .int .i64 Hd, .slice aq mq cq, .int .i64 K] := fun w' hg => kx0 w' ((g1.trans g2).trans hg)
  repeat (first
    | (refine wpS_move rfl ?_; simp only [Act.eval, Act.put, Array.getD_eq_getD_getElem?, List.getElem?_toArray, List.getElem?_cons_zero, List.getElem?_cons_succ, Option.getD_some, List.setIfInBounds_toArray, List.set_cons_zero, List.set_cons_succ])
    | (refine wpS_assign rfl ?_; simp only [Act.eval, Act.put, Array.getD_eq_getD_getElem?, List.getElem?_toArray, List.getElem?_cons_zero, List.getElem?_cons_succ, Option.getD_some, List.setIfInBounds_toArray, List.set_cons_zero, List.set_cons_succ])
    | (refine wpS_read (v := ?_) rfl ?_ ?_; rotate_left; (focus (intro w' hG; obtain ⟨⟨k0, k1, k2, k3⟩, -⟩ := (kx2 w' hG).four; go_simp; try (with_reducible rfl))); simp only [Act.put, List.setIfInBounds_toArray, List.set_cons_zero, List.set_cons_succ])
    | (refine wpS_skip rfl ?_; simp only [Act.put, List.setIfInBounds_toArray, List.set_cons_zero, List.set_cons_succ]))
  have G2 : Grow w3 x2 := HB.out.2.2.2.1.trans (G0.trans (g1.trans g2))
  have hc3 := hro0 x2 G2
  refine wpS_call (f := ?_) (args := ?_) (by rfl) ?_ ?_
  rotate_left 2; focus (go_simp; constructor <;> with_reducible rfl)
  refine (hc3).mono ?_
  rintro e x3 ⟨rfl, g3⟩
  refine ⟨_, rfl, g3, ?_⟩
  simp only [Act.put, List.setIfInBounds_toArray, List.set_cons_zero, List.set_cons_succ]
  repeat (first
    | (refine wpS_move rfl ?_; simp only [Act.eval, Act.put, Array.getD_eq_getD_getElem?, List.getElem?_toArray, List.getElem?_cons_zero, List.getElem?_cons_succ, Option.getD_some, List.setIfInBounds_toArray, List.set_cons_zero, List.set_cons_succ])
    | (refine wpS_assign rfl ?_; simp only [Act.eval, Act.put, Array.getD_eq_getD_getElem?, List.getElem?_toArray, List.getElem?_cons_zero, List.getElem?_cons_succ, Option.getD_some, List.setIfInBounds_toArray, List.set_cons_zero, List.set_cons_succ])
    | (refine wpS_read (v := ?_) rfl ?_ ?_; rotate_left; (focus (intro w' hG; go_simp; try (with_reducible rfl))); simp only [Act.put, List.setIfInBounds_toArray, List.set_cons_zero, List.set_cons_succ])
    | (refine wpS_skip rfl ?_; simp only [Act.put, List.setIfInBounds_toArray, List.set_cons_zero, List.set_cons_succ]))
  have hc4 := free_any _ L x3 (RdS.grow HO.out.1.rd (G2.trans g3)) (by omega)
  refine wpS_call (f := ?_) (args := ?_) (by rfl) ?_ ?_
  rotate_left 2; focus (go_simp; constructor <;> with_reducible rfl)
  refine (hc4).mono ?_
  rintro e x4 ⟨rfl, g4⟩
  refine ⟨_, rfl, g4, ?_⟩
  simp only [Act.put, List.setIfInBounds_toArray, List.set_cons_zero, List.set_cons_succ]
  have hc5 := as_any _ L x4 (RdS.grow HO.out.1.rd ((G2.trans g3).trans g4)) (by omega)
  refine wpS_call (f := ?_) (args := ?_) (by rfl) ?_ ?_
  rotate_left 2; focus (go_simp; constructor <;> with_reducible rfl)
  refine (hc5).mono ?_
  rintro e x5 ⟨y5, rfl, o5, g5⟩
  refine ⟨_, rfl, g5, ?_⟩
  simp only [Act.put, List.setIfInBounds_toArray, List.set_cons_zero, List.set_cons_succ]
  have hc6 := rfree_any y5 L x5 o5.rd (by omega) (fun x hx => (HL.out.2.2 x hx).1)
  refine wpS_call (f := ?_) (args := ?_) (by rfl) ?_ ?_
  rotate_left 2; focus (go_simp; constructor <;> with_reducible rfl)
  refine (hc6).mono ?_
  rintro e x6 ⟨rfl, g6⟩
  refine ⟨_, rfl, g6, ?_⟩
  simp only [Act.put, List.setIfInBounds_toArray, List.set_cons_zero, List.set_cons_succ]
  repeat (first
    | (refine wpS_move rfl ?_; simp only [Act.eval, Act.put, Array.getD_eq_getD_getElem?, List.getElem?_toArray, List.getElem?_cons_zero, List.getElem?_cons_succ, Option.getD_some, List.setIfInBounds_toArray, List.set_cons_zero, List.set_cons_succ])
    | (refine wpS_assign rfl ?_; simp only [Act.eval, Act.put, Array.getD_eq_getD_getElem?, List.getElem?_toArray, List.getElem?_cons_zero, List.getElem?_cons_succ, Option.getD_some, List.setIfInBounds_toArray, List.set_cons_zero, List.set_cons_succ])
    | (refine wpS_read (v := ?_) rfl ?_ ?_; rotate_left; (focus (intro w' hG; go_simp; try (with_reducible rfl))); simp only [Act.put, List.setIfInBounds_toArray, List.set_cons_zero, List.set_cons_succ])
    | (refine wpS_skip rfl ?_; simp only [Act.put, List.setIfInBounds_toArray, List.set_cons_zero, List.set_cons_succ]))
  have G6 : Grow w3 x6 := (((G2.trans g3).trans g4).trans g5).trans g6
  have hc7 := as_any _ L x6 (RdS.grow HO.out.1.rd G6) (by omega)
  refine wpS_call (f := ?_) (args := ?_) (by rfl) ?_ ?_
  rotate_left 2; focus (go_simp; constructor <;> with_reducible rfl)
  refine (hc7).mono ?_
  rintro e x7 ⟨y7, rfl, o7, g7⟩
  refine ⟨_, rfl, g7, ?_⟩
  simp only [Act.put, List.setIfInBounds_toArray, List.set_cons_zero, List.set_cons_succ]
  have G7 : Grow w8 x7 := ((((((G0.trans g1).trans g2).trans g3).trans g4).trans g5).trans g6).trans g7
  have hc8 := as_any _ L x7 (RdS.grow HB.out.2.1 G7) (by omega)
  refine wpS_call (f := ?_) (args := ?_) (by rfl) ?_ ?_
  rotate_left 2; focus (go_simp; constructor <;> with_reducible rfl)
  refine (hc8).mono ?_
  rintro e x8 ⟨y8, rfl, o8, g8⟩
  refine ⟨_, rfl, g8, ?_⟩
  simp only [Act.put, List.setIfInBounds_toArray, List.set_cons_zero, List.set_cons_succ]
  have hc9 := same_yes y7 y8 L x8 (RdS.grow o7.rd g8) o8.rd (by omega)
  refine wpS_call (f := ?_) (args := ?_) (by rfl) ?_ ?_
  rotate_left 2; focus (go_simp; constructor <;> with_reducible rfl)
  refine (hc9).mono ?_
  rintro e x9 ⟨rfl, g9⟩
  refine ⟨_, rfl, g9, ?_⟩
  simp only [Act.put, List.setIfInBounds_toArray, List.set_cons_zero, List.set_cons_succ]
  repeat (first
    | (refine wpS_move rfl ?_; simp only [Act.eval, Act.put, Array.getD_eq_getD_getElem?, List.getElem?_toArray, List.getElem?_cons_zero, List.getElem?_cons_succ, Option.getD_some, List.setIfInBounds_toArray, List.set_cons_zero, List.set_cons_succ])
    | (refine wpS_assign rfl ?_; simp only [Act.eval, Act.put, Array.getD_eq_getD_getElem?, List.getElem?_toArray, List.getElem?_cons_zero, List.getElem?_cons_succ, Option.getD_some, List.setIfInBounds_toArray, List.set_cons_zero, List.set_cons_succ])
    | (refine wpS_read (v := ?_) rfl ?_ ?_; rotate_left; (focus (intro w' hG; go_simp; try (with_reducible rfl))); simp only [Act.put, List.setIfInBounds_toArray, List.set_cons_zero, List.set_cons_succ])
    | (refine wpS_skip rfl ?_; simp only [Act.put, List.setIfInBounds_toArray, List.set_cons_zero, List.set_cons_succ]))
  have hc10 := lives_any x9
  refine wpS_call (f := ?_) (args := ?_) (by rfl) ?_ ?_
  rotate_left 2; focus (go_simp; constructor <;> with_reducible rfl)
  refine (hc10).mono ?_
  rintro e x10 ⟨rfl, g10⟩
  refine ⟨_, rfl, g10, ?_⟩
  simp only [Act.put, List.setIfInBounds_toArray, List.set_cons_zero, List.set_cons_succ]
  repeat (first
    | (refine wpS_move rfl ?_; simp only [Act.eval, Act.put, Array.getD_eq_getD_getElem?, List.getElem?_toArray, List.getElem?_cons_zero, List.getElem?_cons_succ, Option.getD_some, List.setIfInBounds_toArray, List.set_cons_zero, List.set_cons_succ])
    | (refine wpS_assign rfl ?_; simp only [Act.eval, Act.put, Array.getD_eq_getD_getElem?, List.getElem?_toArray, List.getElem?_cons_zero, List.getElem?_cons_succ, Option.getD_some, List.setIfInBounds_toArray, List.set_cons_zero, List.set_cons_succ])
    | (refine wpS_read (v := ?_) rfl ?_ ?_; rotate_left; (focus (intro w' hG; go_simp; try (with_reducible rfl))); simp only [Act.put, List.setIfInBounds_toArray, List.set_cons_zero, List.set_cons_succ])
    | (refine wpS_skip rfl ?_; simp only [Act.put, List.setIfInBounds_toArray, List.set_cons_zero, List.set_cons_succ]))
  refine wpS_nil ?_
  have HF : Hid (Grow w x10) := (((HG.out.trans G6).trans g7).trans g8).trans (g9.trans g10)
  clear hc1 hc2 hc3 hc4 hc5 hc6 hc7 hc8 hc9 hc10 kx0 kx2 o1 o5 o7 o8 g1 g2 g3 g4 g5 g6 g7 g8 g9 g10 G0 G2 G6 G7
  go_wp2
  go_ret
  exact ⟨rfl, HF.out⟩
end Go.Proofs.Ytabhbeknpchpkaa
