/-
  The walk of the law BitsOwns. Conditions: each theorem's own.
-/
import Derived.Test.YthgemalikenhfaaW3End
namespace Go.Proofs.Ythgemalikenhfaa
open Go.RowKit
set_option linter.unusedVariables false
set_option linter.unusedSimpArgs false

set_option maxHeartbeats 2000000 in
theorem bitsOwns_walk (lv : Value) (l : List Bool) (at_ : Int) (w : World) (hl : RdV Value.bool false (fun i => i < w.heap.size) w lv l) (hc : (Lit.int .i64 at_).wf = true) :
    Calls Try.prog 6 #[lv, .int .i64 at_] w fun e w' => e = .returned (.bool true) ∧ Below w.heap.size w w' := by
  obtain ⟨i0, hi, hz0, hz1, hz2⟩ := info_parts Try.info4
  obtain ⟨O, hO⟩ : ∃ O, O = l.take 10 := ⟨_, rfl⟩
  have lO : O.length ≤ 10 := by rw [hO, List.length_take]; omega
  have fA : Calls Try.prog 9 #[lv, .int .i64 10] w fun e w'' => ∃ v', e = .returned v' ∧ RdV Value.bool false (fun i => i < w.heap.size) w v' O ∧ w = w'' := by
    rw [hO]; exact bfew_any lv l 10 10 _ w rfl hl (by omega)
  clear hO hl
  have hab := around_bd at_ ((O.length : Int) + 1) (by omega)
  have hac := fun w => around_any at_ ((O.length : Int) + 1) w hc (by omega) (by omega)
  obtain ⟨F, hF⟩ := Int.eq_ofNat_of_zero_le hab.1
  rw [hF] at hac hab
  have hFl : F ≤ O.length := by omega
  have hw1 : IntKind.i64.wrap ((O.length : Int) + 1) = (O.length : Int) + 1 := by rw [IntKind.wrap_i64]; omega
  clear hab hF hc
  go_enter Try.func6, Try.ntmps6
  go_wp2_with fail
  refine fA.mono ?_
  rintro e w0 ⟨v1, rfl, h1, rfl⟩
  go_wp2_with (at_builtin; refine wpList_appV (f := Value.bool) (d := false) (p := fun i => w.heap.size ≤ i) rfl (.tmp 13) (.tmp 15) 22 22 rfl i0 (.bool false) 1 Try.underlying22 hi hz0 hz1 hz2 rfl rfl rfl (OwnV.nil _ _ _ _ _) (h1.src oneB Try.underlying22) (by simp only [maxLen, List.length_nil]; omega) (by simp only [List.length_nil]; omega) ?_)
  intro x1 w1 o1 u1
  have g1 : Grow w w1 := UpdS.new (Grow.refl w) u1 (fun i hi => hi)
  have o1' : OwnV Value.bool false (fun i => w.heap.size ≤ i ∧ i < w1.heap.size) w1 x1 O := o1.mono (fun i _ h => by omega)
  have s1 := g1.size
  clear o1 u1 h1
  go_wp2_with (at_builtin; refine wpList_appV (f := Value.bool) (d := false) (p := fun i => w1.heap.size ≤ i) rfl (.tmp 17) (.tmp 18) 22 22 rfl i0 (.bool false) 1 Try.underlying22 hi hz0 hz1 hz2 rfl rfl rfl (OwnV.nil _ _ _ _ _) (o1'.rd.src oneB Try.underlying22) (by simp only [maxLen, List.length_nil]; omega) (by simp only [List.length_nil]; omega) ?_)
  intro x2 w2 o2 u2
  have q2 : Grow w1 w2 := UpdS.new (Grow.refl w1) u2 (fun i hi => hi)
  have r2 : RdV Value.bool false (fun i => w1.heap.size ≤ i ∧ i < w2.heap.size) w2 x2 O := o2.rd.mono (fun i _ h => by omega)
  have o2' := o1'.grow q2
  have g2 := g1.trans q2
  have s2 := q2.size
  clear o2 u2 o1' g1 q2
  go_wp2_with fail
  refine (bnew_any _ O _ w2 o2'.rd (by omega)).mono ?_
  rintro e w3 ⟨b, g, rfl, t3, q3, hg, hb⟩
  have o3 := o2'.grow q3
  have r3 := r2.grow q3
  have g3 := g2.trans q3
  have s3 := q3.size
  have l3 := t3.lt
  clear o2' r2 g2 q3
  go_wp2_with fail
  refine (bleft_any b g O 0 w3 t3 (by omega)).mono ?_
  rintro e w4 ⟨x4, rfl, o4, q4, s4⟩
  have o4' := o3.grow q4
  have r4 := r3.grow q4
  have g4 := g3.trans q4
  have t4 := t3.grow q4
  clear o3 r3 g3 q4 t3
  obtain ⟨a1, c1, rfl⟩ := o4'.shape
  obtain ⟨a2, c2, rfl⟩ := r4.shape
  obtain ⟨a4, c4, rfl⟩ := o4.shape
  have R4 : Hid (RdV Value.bool false (fun i => w1.heap.size ≤ i ∧ i < w2.heap.size) w4 (.slice a2 O.length c2) O) := r4
  have OL : Hid (OwnV Value.bool false (fun i => i = w3.heap.size) w4 (.slice a4 O.length c4) O) := o4
  clear r4 o4
  go_wp2
  go_loopg [9] O.length (fun k i wr => ∃ j : Nat, k = O.length - j ∧ j ≤ O.length ∧ i = .int .i64 j ∧ (∃ P : List Bool, Hid (P.length = O.length) ∧ OwnV Value.bool false (fun i => w.heap.size ≤ i ∧ i < w1.heap.size) wr (.slice a1 O.length c1) P) ∧ UpdS (fun i => w.heap.size ≤ i ∧ i < w1.heap.size) w4 wr)
  case atStart => exact ⟨0, rfl, Nat.zero_le _, rfl, ⟨O, rfl, o4'⟩, UpdS.refl _ _⟩
  case round =>
    obtain ⟨j, hk, hj, rfl, ⟨P, hP, oP⟩, hu⟩ := hrel
    by_cases hlt : j < O.length
    · have hlt' : (j : Int) < (O.length : Int) := by omega
      have HJ : Hid (j < O.length) := hlt
      obtain ⟨gg, oo, cc, hv, hpg, hgl, hlc, hcm, hcell, hfz, hset⟩ := oP.row (j := j) (by have := hP.out; omega)
      injection hv with e1 e2 e3
      have E1 : a1 = some ⟨gg, oo, none⟩ := e1
      clear e1 e2 e3 hlc hcm
      generalize P.getD j false = x at hcell
      have hs := hset (!x)
      have HS : Hid (OwnV Value.bool false (fun i => w.heap.size ≤ i ∧ i < w1.heap.size) (wr.setCell ⟨gg, oo + j, none⟩ (.bool (!x))) (.slice a1 O.length c1) (P.set j (!x)) ∧ UpdS (fun i => w.heap.size ≤ i ∧ i < w1.heap.size) w4 (wr.setCell ⟨gg, oo + j, none⟩ (.bool (!x)))) := ⟨hs, hu.trans (UpdS.setCell _ ⟨gg, oo + j, none⟩ _ _ hpg)⟩
      clear hs hset oP hu hlt o4'
      subst E1
      go_wp2
      go_roundg (O.length - (j + 1))
      case measure => have := HJ.out; omega
      case rel => exact ⟨j + 1, rfl, HJ.out, by go_num, ⟨P.set j (!x), by show _ = _; rw [List.length_set]; exact hP, HS.out.1⟩, HS.out.2⟩
    · obtain rfl : j = O.length := by omega
      have r5 := R4.out.upd hu (fun i _ h => by omega)
      have o5 := OL.out.upd hu (fun i _ h => by omega)
      have t5 := t4.upd hu (by omega) (by omega)
      have g5 : Grow w wr := UpdS.new g4 hu (fun i hi => hi.1)
      have s5 := hu.size
      have R5 : Hid (RdV Value.bool false (fun i => w1.heap.size ≤ i ∧ i < w2.heap.size) wr (.slice a2 O.length c2) O) := r5
      have O5 : Hid (OwnV Value.bool false (fun i => i = w3.heap.size) wr (.slice a4 O.length c4) O) := o5
      clear r5 o5 t4 g4 hu oP R4 OL
      obtain ⟨w5, hw5⟩ : ∃ w5, w5 = wr := ⟨_, rfl⟩
      subst hw5
      clear hk hj hlt o4'
      go_wp2
      go_loopg [10] O.length (fun k i wr => ∃ j : Nat, k = O.length - j ∧ j ≤ O.length ∧ i = .int .i64 j ∧ (∃ P : List Bool, Hid (P.length = O.length) ∧ OwnV Value.bool false (fun i => i = w3.heap.size) wr (.slice a4 O.length c4) P) ∧ UpdS (fun i => i = w3.heap.size) w5 wr)
      case atStart => exact ⟨0, rfl, Nat.zero_le _, rfl, ⟨O, rfl, O5.out⟩, UpdS.refl _ _⟩
      case round =>
        obtain ⟨j, hk, hj, rfl, ⟨P, hP, oP⟩, hu⟩ := hrel
        by_cases hlt : j < O.length
        · have hlt' : (j : Int) < (O.length : Int) := by omega
          have HJ : Hid (j < O.length) := hlt
          obtain ⟨gg, oo, cc, hv, hpg, hgl, hlc, hcm, hcell, hfz, hset⟩ := oP.row (j := j) (by have := hP.out; omega)
          injection hv with e1 e2 e3
          have E1 : a4 = some ⟨gg, oo, none⟩ := e1
          have hpg' : (fun i => i = w3.heap.size) gg := hpg
          clear e1 e2 e3 hlc hcm hpg
          generalize P.getD j false = x at hcell
          have hs := hset (!x)
          have HS : Hid (OwnV Value.bool false (fun i => i = w3.heap.size) (wr.setCell ⟨gg, oo + j, none⟩ (.bool (!x))) (.slice a4 O.length c4) (P.set j (!x)) ∧ UpdS (fun i => i = w3.heap.size) w5 (wr.setCell ⟨gg, oo + j, none⟩ (.bool (!x)))) := ⟨hs, hu.trans (UpdS.setCell _ ⟨gg, oo + j, none⟩ _ _ hpg')⟩
          clear hs hset oP hu hlt hpg'
          subst E1
          go_wp2
          go_roundg (O.length - (j + 1))
          case measure => have := HJ.out; omega
          case rel => exact ⟨j + 1, rfl, HJ.out, by go_num, ⟨P.set j (!x), by show _ = _; rw [List.length_set]; exact hP, HS.out.1⟩, HS.out.2⟩
        · obtain rfl : j = O.length := by omega
          have r6 := R5.out.upd hu (fun i _ h => by omega)
          have t6 := t5.upd hu (by omega) (by omega)
          have g6 : Grow w wr := UpdS.new g5 hu (fun i hi => by omega)
          have s6 := hu.size
          have R6 : Hid (RdV Value.bool false (fun i => w1.heap.size ≤ i ∧ i < w2.heap.size) wr (.slice a2 O.length c2) O) := r6
          clear r6 t5 g5 hu oP R5 O5 hP
          obtain ⟨w6, hw6⟩ : ∃ w6, w6 = wr := ⟨_, rfl⟩
          subst hw6
          clear hk hj hlt
          go_wp2_with fail
          refine (hac w6).mono ?_
          rintro e w0 ⟨rfl, rfl⟩
          go_wp2
          go_loopg [12] F (fun k i wr => ∃ j : Nat, k = F - j ∧ j ≤ F ∧ i = .int .i64 j ∧ StrAt wr b g (O.drop j) (min j O.length : Nat) ∧ UpdS (fun i => i = b) w6 wr)
          case atStart => exact ⟨0, rfl, Nat.zero_le _, rfl, by simpa using t6, UpdS.refl _ _⟩
          case round =>
            obtain ⟨j, hk, hj, rfl, ht, hu⟩ := hrel
            have hgr : Grow w wr := UpdS.new g6 hu (fun i hi => by omega)
            have hrr := R6.out.upd hu (fun i _ h => by omega)
            have HRR : Hid (RdV Value.bool false (fun i => w1.heap.size ≤ i ∧ i < w2.heap.size) wr (.slice a2 O.length c2) O) := hrr
            by_cases hlt : j < F
            · have hlt' : (j : Int) < (F : Int) := by omega
              have hlt2 : (j : Int) < (O.length : Int) := by omega
              have HJ : Hid (j < F) := hlt
              have hn := bnext_at b g O j wr.drew (ht.grow (Grow.refl _).drew) (by omega)
              obtain ⟨b1, o1, e1, hp1, hc1⟩ := hrr.addr (by omega)
              have f0 := hc1 j (by omega)
              have f1 : ∀ w', UpdS (fun i => i = b) wr.drew w' → w'.cell? ⟨b1, o1 + j, none⟩ = some (.bool (O.getD j false)) := fun w' hG => by
                rw [hG.cell (p := ⟨b1, o1 + j, none⟩) (World.block_lt_of_cell? _ _ (by simpa using f0)) (by show ¬ b1 = b; omega)]
                simpa using f0
              clear hc1 hrr HRR hp1 f0
              generalize O.getD j false = x at f1 hn
              have HU : Hid (UpdS (fun i => i = b) w6 wr) := hu
              clear hu ht hlt
              subst e1
              go_wp2
              refine wp_region_schedG (UpdS (fun i => i = b)) (UpdS.refl _) (fun _ _ _ => UpdS.trans) (by kernel_rfl) [(0, false), (2, false), (3, false), (4, false), (5, false), (1, true), (6, false)] (by kernel_rfl) (by kernel_rfl) rfl (fun _ _ d _ _ h => by cases d <;> exact h) ?_
              simp only [inOrder, List.filterMap_cons, List.filterMap_nil, List.getElem?_toArray, List.getElem?_cons_zero, List.getElem?_cons_succ, Option.map_some]
              repeat (first
                | (refine wpS_move rfl ?_; simp only [Act.eval, Act.put, Array.getD_eq_getD_getElem?, List.getElem?_toArray, List.getElem?_cons_zero, List.getElem?_cons_succ, Option.getD_some, List.setIfInBounds_toArray, List.set_cons_zero, List.set_cons_succ])
                | (refine wpS_assign rfl ?_; simp only [Act.eval, Act.put, Array.getD_eq_getD_getElem?, List.getElem?_toArray, List.getElem?_cons_zero, List.getElem?_cons_succ, Option.getD_some, List.setIfInBounds_toArray, List.set_cons_zero, List.set_cons_succ])
                | (refine wpS_read (v := ?_) rfl ?_ ?_; rotate_left; (focus (intro w' hG; go_simp; try (with_reducible rfl))); simp only [Act.put, List.setIfInBounds_toArray, List.set_cons_zero, List.set_cons_succ]))
              refine wpS_call (f := ?_) (args := ?_) (by rfl) ?_ ?_
              rotate_left 2; (focus (go_simp; constructor <;> with_reducible rfl))
              refine hn.mono ?_
              rintro e w7 ⟨rfl, ht7, hu7⟩
              refine ⟨_, rfl, hu7, ?_⟩
              simp only [Act.put, List.setIfInBounds_toArray, List.set_cons_zero, List.set_cons_succ]
              repeat (first
                | (refine wpS_move rfl ?_; simp only [Act.eval, Act.put, Array.getD_eq_getD_getElem?, List.getElem?_toArray, List.getElem?_cons_zero, List.getElem?_cons_succ, Option.getD_some, List.setIfInBounds_toArray, List.set_cons_zero, List.set_cons_succ])
                | (refine wpS_assign rfl ?_; simp only [Act.eval, Act.put, Array.getD_eq_getD_getElem?, List.getElem?_toArray, List.getElem?_cons_zero, List.getElem?_cons_succ, Option.getD_some, List.setIfInBounds_toArray, List.set_cons_zero, List.set_cons_succ])
                | (refine wpS_read (v := ?_) rfl ?_ ?_; rotate_left; (focus (intro w' hG; go_simp; try (with_reducible rfl))); simp only [Act.put, List.setIfInBounds_toArray, List.set_cons_zero, List.set_cons_succ]))
              refine wpS_nil ?_
              go_wp2
              go_roundg (F - (j + 1))
              case measure => have := HJ.out; omega
              case rel => exact ⟨j + 1, rfl, HJ.out, by go_num, ht7, (HU.out.drew).trans hu7⟩
            · obtain rfl : j = F := by omega
              obtain ⟨-, hlc, hcm⟩ := hrr.caps
              unfold maxLen at hcm
              have h1' : (j : Int) ≤ (O.length : Int) := by omega
              have h2' : (j : Int) ≤ (c2 : Int) := by omega
              have hv := hrr.drop j (by omega)
              clear HRR hrr
              by_cases hcj : c2 = j
              · rw [if_pos hcj] at hv
                have hOl : O.length = c2 := by omega
                subst hcj
                rw [Nat.sub_self, show O.length - c2 = 0 by omega] at hv
                have HV : Hid (RdV Value.bool false (fun i => w1.heap.size ≤ i ∧ i < w2.heap.size) wr (.slice a2 0 0) (O.drop c2)) := hv
                clear hv
                go_wp2
                refine wp_region_sched (by kernel_rfl) [(0, false), (2, false), (3, false), (4, false), (1, true), (5, true), (6, false), (7, true), (8, false), (9, false)] (by kernel_rfl) (by kernel_rfl) rfl (fun _ _ d _ _ h => by cases d <;> exact h) ?_
                simp only [inOrder, List.filterMap_cons, List.filterMap_nil, List.getElem?_toArray, List.getElem?_cons_zero, List.getElem?_cons_succ, Option.map_some]
                repeat (first
                  | (refine wpS_move rfl ?_; simp only [Act.eval, Act.put, Array.getD_eq_getD_getElem?, List.getElem?_toArray, List.getElem?_cons_zero, List.getElem?_cons_succ, Option.getD_some, List.setIfInBounds_toArray, List.set_cons_zero, List.set_cons_succ])
                  | (refine wpS_assign rfl ?_; simp only [Act.eval, Act.put, Array.getD_eq_getD_getElem?, List.getElem?_toArray, List.getElem?_cons_zero, List.getElem?_cons_succ, Option.getD_some, List.setIfInBounds_toArray, List.set_cons_zero, List.set_cons_succ])
                  | (refine wpS_read (v := ?_) rfl ?_ ?_; rotate_left; (focus (intro w' hG; go_simp; try (with_reducible rfl))); simp only [Act.put, List.setIfInBounds_toArray, List.set_cons_zero, List.set_cons_succ]))
                refine wpS_call (f := ?_) (args := ?_) (by rfl) ?_ ?_
                rotate_left 2; focus (go_simp; constructor <;> with_reducible rfl)
                refine (bleft_any b g (O.drop c2) _ wr.drew (ht.grow (Grow.refl _).drew) (by rw [List.length_drop]; omega)).mono ?_
                rintro e w7 ⟨v7, rfl, o7, q7, -⟩
                refine ⟨_, rfl, q7, ?_⟩
                simp only [Act.put, List.setIfInBounds_toArray, List.set_cons_zero, List.set_cons_succ]
                repeat (first
                  | (refine wpS_move rfl ?_; simp only [Act.eval, Act.put, Array.getD_eq_getD_getElem?, List.getElem?_toArray, List.getElem?_cons_zero, List.getElem?_cons_succ, Option.getD_some, List.setIfInBounds_toArray, List.set_cons_zero, List.set_cons_succ])
                  | (refine wpS_assign rfl ?_; simp only [Act.eval, Act.put, Array.getD_eq_getD_getElem?, List.getElem?_toArray, List.getElem?_cons_zero, List.getElem?_cons_succ, Option.getD_some, List.setIfInBounds_toArray, List.set_cons_zero, List.set_cons_succ])
                  | (refine wpS_read (v := ?_) rfl ?_ ?_; rotate_left; (focus (intro w' hG; go_simp; try (with_reducible rfl))); simp only [Act.put, List.setIfInBounds_toArray, List.set_cons_zero, List.set_cons_succ]))
                refine wpS_call (f := ?_) (args := ?_) (by rfl) ?_ ?_
                rotate_left 2; focus (go_simp; constructor <;> with_reducible rfl)
                refine (bsame_any _ _ _ _ _ _ w7 o7.rd (HV.out.grow ((Grow.refl wr).drew.trans q7))).mono ?_
                rintro e w8 ⟨rfl, q8⟩
                have hd : decide (O.drop c2 = O.drop c2) = true := decide_eq_true rfl
                rw [hd]
                refine ⟨_, rfl, q8, ?_⟩
                clear hd
                simp only [Act.put, List.setIfInBounds_toArray, List.set_cons_zero, List.set_cons_succ]
                repeat (first
                  | (refine wpS_move rfl ?_; simp only [Act.eval, Act.put, Array.getD_eq_getD_getElem?, List.getElem?_toArray, List.getElem?_cons_zero, List.getElem?_cons_succ, Option.getD_some, List.setIfInBounds_toArray, List.set_cons_zero, List.set_cons_succ])
                  | (refine wpS_assign rfl ?_; simp only [Act.eval, Act.put, Array.getD_eq_getD_getElem?, List.getElem?_toArray, List.getElem?_cons_zero, List.getElem?_cons_succ, Option.getD_some, List.setIfInBounds_toArray, List.set_cons_zero, List.set_cons_succ])
                  | (refine wpS_read (v := ?_) rfl ?_ ?_; rotate_left; (focus (intro w' hG; go_simp; try (with_reducible rfl))); simp only [Act.put, List.setIfInBounds_toArray, List.set_cons_zero, List.set_cons_succ])
                  | (refine wpS_skip rfl ?_; simp only [Act.put, List.setIfInBounds_toArray, List.set_cons_zero, List.set_cons_succ]))
                refine wpS_call (f := ?_) (args := ?_) (by rfl) ?_ ?_
                rotate_left 2; focus (go_simp; constructor <;> with_reducible rfl)
                refine (blives_any w8).mono ?_
                rintro e w9 ⟨rfl, q9⟩
                refine ⟨_, rfl, q9, ?_⟩
                simp only [Act.put, List.setIfInBounds_toArray, List.set_cons_zero, List.set_cons_succ]
                repeat (first
                  | (refine wpS_move rfl ?_; simp only [Act.eval, Act.put, Array.getD_eq_getD_getElem?, List.getElem?_toArray, List.getElem?_cons_zero, List.getElem?_cons_succ, Option.getD_some, List.setIfInBounds_toArray, List.set_cons_zero, List.set_cons_succ])
                  | (refine wpS_assign rfl ?_; simp only [Act.eval, Act.put, Array.getD_eq_getD_getElem?, List.getElem?_toArray, List.getElem?_cons_zero, List.getElem?_cons_succ, Option.getD_some, List.setIfInBounds_toArray, List.set_cons_zero, List.set_cons_succ])
                  | (refine wpS_read (v := ?_) rfl ?_ ?_; rotate_left; (focus (intro w' hG; go_simp; try (with_reducible rfl))); simp only [Act.put, List.setIfInBounds_toArray, List.set_cons_zero, List.set_cons_succ])
                  | (refine wpS_skip rfl ?_; simp only [Act.put, List.setIfInBounds_toArray, List.set_cons_zero, List.set_cons_succ]))
                refine wpS_nil ?_
                go_wp2
                go_ret
                exact ⟨rfl, ((hgr.drew.trans q7).trans q8).trans q9⟩
              · rw [if_neg hcj] at hv
                have HV : Hid (RdV Value.bool false (fun i => w1.heap.size ≤ i ∧ i < w2.heap.size) wr (.slice (a2.map (·.add j)) (O.length - j) (c2 - j)) (O.drop j)) := hv
                clear hv
                go_wp2
                refine wp_region_sched (by kernel_rfl) [(0, false), (2, false), (3, false), (4, false), (1, true), (5, true), (6, false), (7, true), (8, false), (9, false)] (by kernel_rfl) (by kernel_rfl) rfl (fun _ _ d _ _ h => by cases d <;> exact h) ?_
                simp only [inOrder, List.filterMap_cons, List.filterMap_nil, List.getElem?_toArray, List.getElem?_cons_zero, List.getElem?_cons_succ, Option.map_some]
                repeat (first
                  | (refine wpS_move rfl ?_; simp only [Act.eval, Act.put, Array.getD_eq_getD_getElem?, List.getElem?_toArray, List.getElem?_cons_zero, List.getElem?_cons_succ, Option.getD_some, List.setIfInBounds_toArray, List.set_cons_zero, List.set_cons_succ])
                  | (refine wpS_assign rfl ?_; simp only [Act.eval, Act.put, Array.getD_eq_getD_getElem?, List.getElem?_toArray, List.getElem?_cons_zero, List.getElem?_cons_succ, Option.getD_some, List.setIfInBounds_toArray, List.set_cons_zero, List.set_cons_succ])
                  | (refine wpS_read (v := ?_) rfl ?_ ?_; rotate_left; (focus (intro w' hG; go_simp; try (with_reducible rfl))); simp only [Act.put, List.setIfInBounds_toArray, List.set_cons_zero, List.set_cons_succ]))
                refine wpS_call (f := ?_) (args := ?_) (by rfl) ?_ ?_
                rotate_left 2; focus (go_simp; constructor <;> with_reducible rfl)
                refine (bleft_any b g (O.drop j) _ wr.drew (ht.grow (Grow.refl _).drew) (by rw [List.length_drop]; omega)).mono ?_
                rintro e w7 ⟨v7, rfl, o7, q7, -⟩
                refine ⟨_, rfl, q7, ?_⟩
                simp only [Act.put, List.setIfInBounds_toArray, List.set_cons_zero, List.set_cons_succ]
                repeat (first
                  | (refine wpS_move rfl ?_; simp only [Act.eval, Act.put, Array.getD_eq_getD_getElem?, List.getElem?_toArray, List.getElem?_cons_zero, List.getElem?_cons_succ, Option.getD_some, List.setIfInBounds_toArray, List.set_cons_zero, List.set_cons_succ])
                  | (refine wpS_assign rfl ?_; simp only [Act.eval, Act.put, Array.getD_eq_getD_getElem?, List.getElem?_toArray, List.getElem?_cons_zero, List.getElem?_cons_succ, Option.getD_some, List.setIfInBounds_toArray, List.set_cons_zero, List.set_cons_succ])
                  | (refine wpS_read (v := ?_) rfl ?_ ?_; rotate_left; (focus (intro w' hG; go_simp; try (with_reducible rfl))); simp only [Act.put, List.setIfInBounds_toArray, List.set_cons_zero, List.set_cons_succ]))
                refine wpS_call (f := ?_) (args := ?_) (by rfl) ?_ ?_
                rotate_left 2; focus (go_simp; constructor <;> with_reducible rfl)
                refine (bsame_any _ _ _ _ _ _ w7 o7.rd (HV.out.grow ((Grow.refl wr).drew.trans q7))).mono ?_
                rintro e w8 ⟨rfl, q8⟩
                have hd : decide (O.drop j = O.drop j) = true := decide_eq_true rfl
                rw [hd]
                refine ⟨_, rfl, q8, ?_⟩
                clear hd
                simp only [Act.put, List.setIfInBounds_toArray, List.set_cons_zero, List.set_cons_succ]
                repeat (first
                  | (refine wpS_move rfl ?_; simp only [Act.eval, Act.put, Array.getD_eq_getD_getElem?, List.getElem?_toArray, List.getElem?_cons_zero, List.getElem?_cons_succ, Option.getD_some, List.setIfInBounds_toArray, List.set_cons_zero, List.set_cons_succ])
                  | (refine wpS_assign rfl ?_; simp only [Act.eval, Act.put, Array.getD_eq_getD_getElem?, List.getElem?_toArray, List.getElem?_cons_zero, List.getElem?_cons_succ, Option.getD_some, List.setIfInBounds_toArray, List.set_cons_zero, List.set_cons_succ])
                  | (refine wpS_read (v := ?_) rfl ?_ ?_; rotate_left; (focus (intro w' hG; go_simp; try (with_reducible rfl))); simp only [Act.put, List.setIfInBounds_toArray, List.set_cons_zero, List.set_cons_succ])
                  | (refine wpS_skip rfl ?_; simp only [Act.put, List.setIfInBounds_toArray, List.set_cons_zero, List.set_cons_succ]))
                refine wpS_call (f := ?_) (args := ?_) (by rfl) ?_ ?_
                rotate_left 2; focus (go_simp; constructor <;> with_reducible rfl)
                refine (blives_any w8).mono ?_
                rintro e w9 ⟨rfl, q9⟩
                refine ⟨_, rfl, q9, ?_⟩
                simp only [Act.put, List.setIfInBounds_toArray, List.set_cons_zero, List.set_cons_succ]
                repeat (first
                  | (refine wpS_move rfl ?_; simp only [Act.eval, Act.put, Array.getD_eq_getD_getElem?, List.getElem?_toArray, List.getElem?_cons_zero, List.getElem?_cons_succ, Option.getD_some, List.setIfInBounds_toArray, List.set_cons_zero, List.set_cons_succ])
                  | (refine wpS_assign rfl ?_; simp only [Act.eval, Act.put, Array.getD_eq_getD_getElem?, List.getElem?_toArray, List.getElem?_cons_zero, List.getElem?_cons_succ, Option.getD_some, List.setIfInBounds_toArray, List.set_cons_zero, List.set_cons_succ])
                  | (refine wpS_read (v := ?_) rfl ?_ ?_; rotate_left; (focus (intro w' hG; go_simp; try (with_reducible rfl))); simp only [Act.put, List.setIfInBounds_toArray, List.set_cons_zero, List.set_cons_succ])
                  | (refine wpS_skip rfl ?_; simp only [Act.put, List.setIfInBounds_toArray, List.set_cons_zero, List.set_cons_succ]))
                refine wpS_nil ?_
                go_wp2
                go_ret
                exact ⟨rfl, ((hgr.drew.trans q7).trans q8).trans q9⟩
end Go.Proofs.Ythgemalikenhfaa
