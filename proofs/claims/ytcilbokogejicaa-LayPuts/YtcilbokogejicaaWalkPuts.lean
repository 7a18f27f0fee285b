/-
  The walk of allotmentlaw01.LayPuts: it returns true, and nothing that was there is written. Conditions: none but the reading of its arguments.
-/
import Derived.Test.YtcilbokogejicaaPuts
import Derived.Test.YtcilbokogejicaaSched
import Derived.Outline
namespace Go.Proofs.Ytcilbokogejicaa
open Go.RowKit
set_option linter.unusedVariables false
set_option linter.unusedSimpArgs false

set_option maxHeartbeats 2000000 in
theorem layPuts_walk (v0 v3 : Value) (a2 : Option Addr) (cap2 : Nat) (b0 l s0 : List Int) (a1 : Int) (w : World) (hb : Rd .u8 w.heap.size w v0 b0) (hl : Rd .i64 w.heap.size w (.slice a2 l.length cap2) l) (hs : Rd .u8 w.heap.size w v3 s0) (hn0 : 0 ≤ a1) (hn1 : a1 < 18446744073709551616) :
    Calls Try.prog 3 #[v0, .int .u64 a1, .slice a2 l.length cap2, v3] w fun e w' => e = .returned (.bool true) ∧ Below w.heap.size w w' := by
  obtain ⟨-, hlc, hcm⟩ := hl.caps
  unfold maxLen at hcm
  obtain ⟨bs, hbs⟩ : ∃ bs, b0.take 8 = bs := ⟨_, rfl⟩
  obtain ⟨ss, hss⟩ : ∃ ss, s0.take 40 = ss := ⟨_, rfl⟩
  have hbl : bs.length ≤ 8 := by rw [← hbs, List.length_take]; omega
  have hsl : ss.length ≤ 40 := by rw [← hss, List.length_take]; omega
  by_cases h5 : l.length ≤ 5
  · have h5' : (l.length : Int) ≤ 5 := by omega
    have hr6 := hl
    have hn6 : l.length = l.length := rfl
    have hls : l.length ≤ 100000 := by omega
    have hA : ∀ j, (bs ++ leAll (l.take j)).length ≤ 100 := fun j => by rw [List.length_append, leAll_length, List.length_take]; omega
    go_enter Try.func3, Try.ntmps3
    go_wp2_with fail
    refine (few_any _ b0 8 8 _ _ rfl hb (by omega)).mono ?_
    rintro e w1 ⟨v1, rfl, ho1, hg1⟩
    rw [hbs] at ho1
    go_wp2_with fail
    refine (few_any _ s0 40 40 _ _ rfl (hs.below hg1) (by omega)).mono ?_
    rintro e w2 ⟨v2, rfl, ho2, hg2⟩
    rw [hss] at ho2
    have ho1' := ho1.rd.below hg2
    have g2 : Grow w w2 := Grow.trans (b := w1) hg1 hg2
    go_wp2_with fail
    refine (uint_any _ bs a1 _ _ ho1' (by omega) hn0 hn1).mono ?_
    rintro e w3 ⟨v3, rfl, ho3, hg3⟩
    have g3 : Grow w w3 := Grow.trans g2 hg3
    have ho1'' := ho1'.size.below hg3
    go_wp2_with fail
    refine (ints_any _ _ bs l _ w.heap.size _ ho1'' (hr6.below g3) (by omega) hls).mono ?_
    rintro e w4 ⟨v4, rfl, ho4, hg4⟩
    have g4 : Grow w w4 := Grow.trans g3 hg4
    have ho1x := ho1''.size.below hg4
    go_wp2_with fail
    have ho2' := (ho2.rd.below hg3).size.below hg4
    refine (bytes_any _ _ bs ss _ _ _ ho1x ho2' (by omega) (by omega)).mono ?_
    rintro e w5 ⟨v5, rfl, ho5, hg5⟩
    have g5 : Grow w w5 := Grow.trans g4 hg5
    have r1 := (ho1x.size.below hg5).size
    have r2 := (ho2'.size.below hg5).size
    have r3 := ((ho3.rd.below hg4).size.below hg5).size
    have r4 := (ho4.rd.below hg5).size
    have r5 := ho5.rd
    rw [List.append_assoc, ← leI_small ss.length (by omega) (by omega)] at r5
    have s1 := r1.string (P := Try.prog) 22 9 5 Try.underlying22 Try.underlying5 Try.underlying9
    clear ho1 ho1' ho1'' ho1x ho2 ho2' ho3 ho4 ho5 hg1 hg2 hg3 hg4 hg5 g2 g3 g4
    go_wp2
    clear s1
    go_loopg [16, 17] l.length (fun k d c wr => ∃ j : Nat, k = l.length - j ∧ j ≤ l.length ∧ c = .int .i64 j ∧ d = .string (strOfNums (bs ++ leAll (l.take j))) ∧ Grow w5 wr)
    case atStart => exact ⟨0, rfl, Nat.zero_le _, rfl, by simp [leAll], Grow.refl _⟩
    case round =>
      obtain ⟨j, hk, hj, rfl, rfl, hg⟩ := hrel
      by_cases hlt : j < l.length
      · have hlt' : (j : Int) < (l.length : Int) := by omega
        have hrr := hr6.below (Grow.trans g5 hg)
        obtain ⟨-, -, -, b, o, ha2, hbB, hc⟩ := hrr.addr (by omega)
        subst ha2
        have hcr := hc j hlt
        have HT : Hid (leAll (l.take (j + 1)) = leAll (l.take j) ++ leI (l.getD j 0)) := leAll_take_succ l j (by omega)
        have hll := hA j
        clear hc hA
        generalize l.getD j 0 = x at hcr HT
        go_wp2_with fail
        refine (rInt_any _ _).mono ?_
        rintro e w6 ⟨v6, rfl, ho6, hg6⟩
        have s6 := ho6.rd.string (P := Try.prog) 22 9 5 Try.underlying22 Try.underlying5 Try.underlying9
        have hadd := fun w' => str_add (P := Try.prog) (bs ++ leAll (l.take j)) (leI x) w' (by rw [leI_length]; omega)
        go_wp2
        go_roundg (l.length - (j + 1))
        case measure => omega
        case rel =>
          exact ⟨j + 1, rfl, by omega, by go_num, by rw [HT.out, ← List.append_assoc], Grow.trans hg hg6⟩
      · obtain rfl : j = l.length := by omega
        rw [List.take_of_length_le (by omega)]
        clear hA
        have hfl : (bs ++ leAll l).length ≤ 100 := by rw [List.length_append, leAll_length]; omega
        have q : ∀ w', Grow wr.drew w' → Grow w5 w' := fun w' h => Grow.trans hg (Grow.trans (Grow.refl wr).drew h)
        have s3 : ∀ w', Grow wr.drew w' → (convert 22 9 v3).run Try.prog w' = .ok (.string (strOfNums (bs ++ le 8 a1))) w' := fun w' h => (r3.below (q w' h)).string 22 9 5 Try.underlying22 Try.underlying5 Try.underlying9
        have s4 : ∀ w', Grow wr.drew w' → (convert 22 9 v4).run Try.prog w' = .ok (.string (strOfNums (bs ++ leAll l))) w' := fun w' h => (r4.below (q w' h)).string 22 9 5 Try.underlying22 Try.underlying5 Try.underlying9
        have hadd := fun w' => str_add (P := Try.prog) bs (le 8 a1) w' (by rw [le_length]; omega)
        go_wp2
        refine wp_region_sched (by kernel_rfl) [(0, false), (1, false), (2, false), (3, false), (4, true), (5, false), (6, false), (7, false), (8, false), (9, false), (10, false), (11, false), (12, false), (13, false), (14, false), (15, false), (16, false), (17, false), (18, false), (19, true), (20, false), (21, false), (22, false), (23, false), (24, false), (25, false), (26, false), (27, false), (28, true), (29, false), (30, false), (31, false), (32, false), (33, true), (34, false), (35, false)] (by kernel_rfl) (by kernel_rfl) rfl (fun _ _ d _ _ h => by cases d <;> exact h) ?_
        simp only [inOrder, List.filterMap_cons, List.filterMap_nil, List.getElem?_toArray, List.getElem?_cons_zero, List.getElem?_cons_succ, Option.map_some]
        repeat (first
          | (refine wpS_move rfl ?_; simp only [Act.eval, Act.put, Array.getD_eq_getD_getElem?, List.getElem?_toArray, List.getElem?_cons_zero, List.getElem?_cons_succ, Option.getD_some, List.setIfInBounds_toArray, List.set_cons_zero, List.set_cons_succ])
          | (refine wpS_assign rfl ?_; simp only [Act.eval, Act.put, Array.getD_eq_getD_getElem?, List.getElem?_toArray, List.getElem?_cons_zero, List.getElem?_cons_succ, Option.getD_some, List.setIfInBounds_toArray, List.set_cons_zero, List.set_cons_succ])
          | (refine wpS_read (v := ?_) rfl ?_ ?_; rotate_left; (focus (intro w' hG; go_simp; try (with_reducible rfl))); simp only [Act.put, List.setIfInBounds_toArray, List.set_cons_zero, List.set_cons_succ]))
        refine wpS_call (f := ?_) (args := ?_) (by rfl) ?_ ?_
        rotate_left 2; focus (go_simp; constructor <;> with_reducible rfl)
        refine (rUint_any _ _ hn0 hn1).mono ?_
        rintro e w7 ⟨v7, rfl, ho7, hg7⟩
        refine ⟨_, rfl, hg7, ?_⟩
        have s7 : ∀ w', Grow w7 w' → (convert 22 9 v7).run Try.prog w' = .ok (.string (strOfNums (le 8 a1))) w' := fun w' h => (ho7.rd.below h).string 22 9 5 Try.underlying22 Try.underlying5 Try.underlying9
        replace s4 : ∀ w', Grow w7 w' → (convert 22 9 v4).run Try.prog w' = .ok (.string (strOfNums (bs ++ leAll l))) w' := fun w' h => s4 w' (Grow.trans hg7 h)
        have q7 : ∀ w', Grow w7 w' → Grow w5 w' := fun w' h => q w' (Grow.trans hg7 h)
        have s5 : ∀ w', Grow w7 w' → (convert 22 9 v5).run Try.prog w' = .ok (.string (strOfNums (bs ++ (leI ss.length ++ ss)))) w' := fun w' h => (r5.below (q7 w' h)).string 22 9 5 Try.underlying22 Try.underlying5 Try.underlying9
        simp only [Act.put, List.setIfInBounds_toArray, List.set_cons_zero, List.set_cons_succ]
        repeat (first
          | (refine wpS_move rfl ?_; simp only [Act.eval, Act.put, Array.getD_eq_getD_getElem?, List.getElem?_toArray, List.getElem?_cons_zero, List.getElem?_cons_succ, Option.getD_some, List.setIfInBounds_toArray, List.set_cons_zero, List.set_cons_succ])
          | (refine wpS_assign rfl ?_; simp only [Act.eval, Act.put, Array.getD_eq_getD_getElem?, List.getElem?_toArray, List.getElem?_cons_zero, List.getElem?_cons_succ, Option.getD_some, List.setIfInBounds_toArray, List.set_cons_zero, List.set_cons_succ])
          | (refine wpS_read (v := ?_) rfl ?_ ?_; rotate_left; (focus (intro w' hG; go_simp; try (with_reducible rfl))); simp only [Act.put, List.setIfInBounds_toArray, List.set_cons_zero, List.set_cons_succ]))
        refine wpS_call (f := ?_) (args := ?_) (by rfl) ?_ ?_
        rotate_left 2; focus (go_simp; constructor <;> with_reducible rfl)
        refine (rBytes_any _ ss _ _ (r2.below (q7 _ (Grow.refl _))) (by omega)).mono ?_
        rintro e w8 ⟨v8, rfl, ho8, hg8⟩
        refine ⟨_, rfl, hg8, ?_⟩
        have s8 : ∀ w', Grow w8 w' → (convert 22 9 v8).run Try.prog w' = .ok (.string (strOfNums (leI ss.length ++ ss))) w' := fun w' h => (ho8.rd.below h).string 22 9 5 Try.underlying22 Try.underlying5 Try.underlying9
        have hadd8 := fun w' => str_add (P := Try.prog) bs (leI ss.length ++ ss) w' (by rw [List.length_append, leI_length]; omega)
        have q8 : ∀ w', Grow w8 w' → Grow w5 w' := fun w' h => q7 w' (Grow.trans hg8 h)
        have s1 : ∀ w', Grow w8 w' → (convert 22 9 v1).run Try.prog w' = .ok (.string (strOfNums bs)) w' := fun w' h => (r1.below (q8 w' h)).string 22 9 5 Try.underlying22 Try.underlying5 Try.underlying9
        simp only [Act.put, List.setIfInBounds_toArray, List.set_cons_zero, List.set_cons_succ]
        repeat (first
          | (refine wpS_move rfl ?_; simp only [Act.eval, Act.put, Array.getD_eq_getD_getElem?, List.getElem?_toArray, List.getElem?_cons_zero, List.getElem?_cons_succ, Option.getD_some, List.setIfInBounds_toArray, List.set_cons_zero, List.set_cons_succ])
          | (refine wpS_assign rfl ?_; simp only [Act.eval, Act.put, Array.getD_eq_getD_getElem?, List.getElem?_toArray, List.getElem?_cons_zero, List.getElem?_cons_succ, Option.getD_some, List.setIfInBounds_toArray, List.set_cons_zero, List.set_cons_succ])
          | (refine wpS_read (v := ?_) rfl ?_ ?_; rotate_left; (focus (intro w' hG; go_simp; try (with_reducible rfl))); simp only [Act.put, List.setIfInBounds_toArray, List.set_cons_zero, List.set_cons_succ]))
        refine wpS_call (f := ?_) (args := ?_) (by rfl) ?_ ?_
        rotate_left 2; focus (go_simp; constructor <;> with_reducible rfl)
        refine (few_any _ b0 8 8 _ _ rfl (hb.below (Grow.trans g5 (q8 _ (Grow.refl _)))) (by omega)).mono ?_
        rintro e w9 ⟨v9, rfl, ho9, hg9⟩
        rw [hbs] at ho9
        refine ⟨_, rfl, hg9, ?_⟩
        have s9 : ∀ w', Grow w9 w' → (convert 22 9 v9).run Try.prog w' = .ok (.string (strOfNums bs)) w' := fun w' h => (ho9.rd.below h).string 22 9 5 Try.underlying22 Try.underlying5 Try.underlying9
        simp only [Act.put, List.setIfInBounds_toArray, List.set_cons_zero, List.set_cons_succ]
        repeat (first
          | (refine wpS_move rfl ?_; simp only [Act.eval, Act.put, Array.getD_eq_getD_getElem?, List.getElem?_toArray, List.getElem?_cons_zero, List.getElem?_cons_succ, Option.getD_some, List.setIfInBounds_toArray, List.set_cons_zero, List.set_cons_succ])
          | (refine wpS_assign rfl ?_; simp only [Act.eval, Act.put, Array.getD_eq_getD_getElem?, List.getElem?_toArray, List.getElem?_cons_zero, List.getElem?_cons_succ, Option.getD_some, List.setIfInBounds_toArray, List.set_cons_zero, List.set_cons_succ])
          | (refine wpS_read (v := ?_) rfl ?_ ?_; rotate_left; (focus (intro w' hG; go_simp; try (with_reducible rfl))); simp only [Act.put, List.setIfInBounds_toArray, List.set_cons_zero, List.set_cons_succ]))
        refine wpS_call (f := ?_) (args := ?_) (by rfl) ?_ ?_
        rotate_left 2; focus (go_simp; constructor <;> with_reducible rfl)
        refine (lives_any _).mono ?_
        rintro e w10 ⟨rfl, hg10⟩
        refine ⟨_, rfl, hg10, ?_⟩
        simp only [Act.put, List.setIfInBounds_toArray, List.set_cons_zero, List.set_cons_succ]
        repeat (first
          | (refine wpS_move rfl ?_; simp only [Act.eval, Act.put, Array.getD_eq_getD_getElem?, List.getElem?_toArray, List.getElem?_cons_zero, List.getElem?_cons_succ, Option.getD_some, List.setIfInBounds_toArray, List.set_cons_zero, List.set_cons_succ])
          | (refine wpS_assign rfl ?_; simp only [Act.eval, Act.put, Array.getD_eq_getD_getElem?, List.getElem?_toArray, List.getElem?_cons_zero, List.getElem?_cons_succ, Option.getD_some, List.setIfInBounds_toArray, List.set_cons_zero, List.set_cons_succ])
          | (refine wpS_read (v := ?_) rfl ?_ ?_; rotate_left; (focus (intro w' hG; go_simp; try (with_reducible rfl))); simp only [Act.put, List.setIfInBounds_toArray, List.set_cons_zero, List.set_cons_succ]))
        refine wpS_nil ?_
        go_wp2
        go_ret
        exact ⟨rfl, Grow.trans g5 (q8 _ (Grow.trans hg9 hg10))⟩
  · have h5' : ¬ (l.length : Int) ≤ 5 := by omega
    have h5'' : (5 : Int) < (l.length : Int) := by omega
    have h5c : (5 : Int) ≤ (cap2 : Int) := by omega
    have hr6 := hl.take 5 (by omega)
    have hn6 : (l.take 5).length = 5 := by rw [List.length_take]; omega
    generalize l.take 5 = l6 at hr6 hn6
    have hls : l6.length ≤ 100000 := by omega
    have hA : ∀ j, (bs ++ leAll (l6.take j)).length ≤ 100 := fun j => by rw [List.length_append, leAll_length, List.length_take]; omega
    go_enter Try.func3, Try.ntmps3
    go_wp2_with fail
    refine (few_any _ b0 8 8 _ _ rfl hb (by omega)).mono ?_
    rintro e w1 ⟨v1, rfl, ho1, hg1⟩
    rw [hbs] at ho1
    go_wp2_with fail
    refine (few_any _ s0 40 40 _ _ rfl (hs.below hg1) (by omega)).mono ?_
    rintro e w2 ⟨v2, rfl, ho2, hg2⟩
    rw [hss] at ho2
    have ho1' := ho1.rd.below hg2
    have g2 : Grow w w2 := Grow.trans (b := w1) hg1 hg2
    go_wp2_with fail
    refine (uint_any _ bs a1 _ _ ho1' (by omega) hn0 hn1).mono ?_
    rintro e w3 ⟨v3, rfl, ho3, hg3⟩
    have g3 : Grow w w3 := Grow.trans g2 hg3
    have ho1'' := ho1'.size.below hg3
    go_wp2_with fail
    refine (ints_any _ _ bs l6 _ w.heap.size _ ho1'' (hr6.below g3) (by omega) hls).mono ?_
    rintro e w4 ⟨v4, rfl, ho4, hg4⟩
    have g4 : Grow w w4 := Grow.trans g3 hg4
    have ho1x := ho1''.size.below hg4
    go_wp2_with fail
    have ho2' := (ho2.rd.below hg3).size.below hg4
    refine (bytes_any _ _ bs ss _ _ _ ho1x ho2' (by omega) (by omega)).mono ?_
    rintro e w5 ⟨v5, rfl, ho5, hg5⟩
    have g5 : Grow w w5 := Grow.trans g4 hg5
    have r1 := (ho1x.size.below hg5).size
    have r2 := (ho2'.size.below hg5).size
    have r3 := ((ho3.rd.below hg4).size.below hg5).size
    have r4 := (ho4.rd.below hg5).size
    have r5 := ho5.rd
    rw [List.append_assoc, ← leI_small ss.length (by omega) (by omega)] at r5
    have s1 := r1.string (P := Try.prog) 22 9 5 Try.underlying22 Try.underlying5 Try.underlying9
    clear ho1 ho1' ho1'' ho1x ho2 ho2' ho3 ho4 ho5 hg1 hg2 hg3 hg4 hg5 g2 g3 g4
    go_wp2
    clear s1
    go_loopg [16, 17] 5 (fun k d c wr => ∃ j : Nat, k = 5 - j ∧ j ≤ 5 ∧ c = .int .i64 j ∧ d = .string (strOfNums (bs ++ leAll (l6.take j))) ∧ Grow w5 wr)
    case atStart => exact ⟨0, rfl, Nat.zero_le _, rfl, by simp [leAll], Grow.refl _⟩
    case round =>
      obtain ⟨j, hk, hj, rfl, rfl, hg⟩ := hrel
      by_cases hlt : j < 5
      · have hlt' : (j : Int) < (5 : Int) := by omega
        have hrr := hr6.below (Grow.trans g5 hg)
        obtain ⟨-, -, -, b, o, ha2, hbB, hc⟩ := hrr.addr (by omega)
        subst ha2
        have hcr := hc j hlt
        have HT : Hid (leAll (l6.take (j + 1)) = leAll (l6.take j) ++ leI (l6.getD j 0)) := leAll_take_succ l6 j (by omega)
        have hll := hA j
        clear hc hA
        generalize l6.getD j 0 = x at hcr HT
        go_wp2_with fail
        refine (rInt_any _ _).mono ?_
        rintro e w6 ⟨v6, rfl, ho6, hg6⟩
        have s6 := ho6.rd.string (P := Try.prog) 22 9 5 Try.underlying22 Try.underlying5 Try.underlying9
        have hadd := fun w' => str_add (P := Try.prog) (bs ++ leAll (l6.take j)) (leI x) w' (by rw [leI_length]; omega)
        go_wp2
        go_roundg (5 - (j + 1))
        case measure => omega
        case rel =>
          exact ⟨j + 1, rfl, by omega, by go_num, by rw [HT.out, ← List.append_assoc], Grow.trans hg hg6⟩
      · obtain rfl : j = 5 := by omega
        rw [List.take_of_length_le (by omega)]
        clear hA
        have hfl : (bs ++ leAll l6).length ≤ 100 := by rw [List.length_append, leAll_length]; omega
        have q : ∀ w', Grow wr.drew w' → Grow w5 w' := fun w' h => Grow.trans hg (Grow.trans (Grow.refl wr).drew h)
        have s3 : ∀ w', Grow wr.drew w' → (convert 22 9 v3).run Try.prog w' = .ok (.string (strOfNums (bs ++ le 8 a1))) w' := fun w' h => (r3.below (q w' h)).string 22 9 5 Try.underlying22 Try.underlying5 Try.underlying9
        have s4 : ∀ w', Grow wr.drew w' → (convert 22 9 v4).run Try.prog w' = .ok (.string (strOfNums (bs ++ leAll l6))) w' := fun w' h => (r4.below (q w' h)).string 22 9 5 Try.underlying22 Try.underlying5 Try.underlying9
        have hadd := fun w' => str_add (P := Try.prog) bs (le 8 a1) w' (by rw [le_length]; omega)
        go_wp2
        refine wp_region_sched (by kernel_rfl) [(0, false), (1, false), (2, false), (3, false), (4, true), (5, false), (6, false), (7, false), (8, false), (9, false), (10, false), (11, false), (12, false), (13, false), (14, false), (15, false), (16, false), (17, false), (18, false), (19, true), (20, false), (21, false), (22, false), (23, false), (24, false), (25, false), (26, false), (27, false), (28, true), (29, false), (30, false), (31, false), (32, false), (33, true), (34, false), (35, false)] (by kernel_rfl) (by kernel_rfl) rfl (fun _ _ d _ _ h => by cases d <;> exact h) ?_
        simp only [inOrder, List.filterMap_cons, List.filterMap_nil, List.getElem?_toArray, List.getElem?_cons_zero, List.getElem?_cons_succ, Option.map_some]
        repeat (first
          | (refine wpS_move rfl ?_; simp only [Act.eval, Act.put, Array.getD_eq_getD_getElem?, List.getElem?_toArray, List.getElem?_cons_zero, List.getElem?_cons_succ, Option.getD_some, List.setIfInBounds_toArray, List.set_cons_zero, List.set_cons_succ])
          | (refine wpS_assign rfl ?_; simp only [Act.eval, Act.put, Array.getD_eq_getD_getElem?, List.getElem?_toArray, List.getElem?_cons_zero, List.getElem?_cons_succ, Option.getD_some, List.setIfInBounds_toArray, List.set_cons_zero, List.set_cons_succ])
          | (refine wpS_read (v := ?_) rfl ?_ ?_; rotate_left; (focus (intro w' hG; go_simp; try (with_reducible rfl))); simp only [Act.put, List.setIfInBounds_toArray, List.set_cons_zero, List.set_cons_succ]))
        refine wpS_call (f := ?_) (args := ?_) (by rfl) ?_ ?_
        rotate_left 2; focus (go_simp; constructor <;> with_reducible rfl)
        refine (rUint_any _ _ hn0 hn1).mono ?_
        rintro e w7 ⟨v7, rfl, ho7, hg7⟩
        refine ⟨_, rfl, hg7, ?_⟩
        have s7 : ∀ w', Grow w7 w' → (convert 22 9 v7).run Try.prog w' = .ok (.string (strOfNums (le 8 a1))) w' := fun w' h => (ho7.rd.below h).string 22 9 5 Try.underlying22 Try.underlying5 Try.underlying9
        replace s4 : ∀ w', Grow w7 w' → (convert 22 9 v4).run Try.prog w' = .ok (.string (strOfNums (bs ++ leAll l6))) w' := fun w' h => s4 w' (Grow.trans hg7 h)
        have q7 : ∀ w', Grow w7 w' → Grow w5 w' := fun w' h => q w' (Grow.trans hg7 h)
        have s5 : ∀ w', Grow w7 w' → (convert 22 9 v5).run Try.prog w' = .ok (.string (strOfNums (bs ++ (leI ss.length ++ ss)))) w' := fun w' h => (r5.below (q7 w' h)).string 22 9 5 Try.underlying22 Try.underlying5 Try.underlying9
        simp only [Act.put, List.setIfInBounds_toArray, List.set_cons_zero, List.set_cons_succ]
        repeat (first
          | (refine wpS_move rfl ?_; simp only [Act.eval, Act.put, Array.getD_eq_getD_getElem?, List.getElem?_toArray, List.getElem?_cons_zero, List.getElem?_cons_succ, Option.getD_some, List.setIfInBounds_toArray, List.set_cons_zero, List.set_cons_succ])
          | (refine wpS_assign rfl ?_; simp only [Act.eval, Act.put, Array.getD_eq_getD_getElem?, List.getElem?_toArray, List.getElem?_cons_zero, List.getElem?_cons_succ, Option.getD_some, List.setIfInBounds_toArray, List.set_cons_zero, List.set_cons_succ])
          | (refine wpS_read (v := ?_) rfl ?_ ?_; rotate_left; (focus (intro w' hG; go_simp; try (with_reducible rfl))); simp only [Act.put, List.setIfInBounds_toArray, List.set_cons_zero, List.set_cons_succ]))
        refine wpS_call (f := ?_) (args := ?_) (by rfl) ?_ ?_
        rotate_left 2; focus (go_simp; constructor <;> with_reducible rfl)
        refine (rBytes_any _ ss _ _ (r2.below (q7 _ (Grow.refl _))) (by omega)).mono ?_
        rintro e w8 ⟨v8, rfl, ho8, hg8⟩
        refine ⟨_, rfl, hg8, ?_⟩
        have s8 : ∀ w', Grow w8 w' → (convert 22 9 v8).run Try.prog w' = .ok (.string (strOfNums (leI ss.length ++ ss))) w' := fun w' h => (ho8.rd.below h).string 22 9 5 Try.underlying22 Try.underlying5 Try.underlying9
        have hadd8 := fun w' => str_add (P := Try.prog) bs (leI ss.length ++ ss) w' (by rw [List.length_append, leI_length]; omega)
        have q8 : ∀ w', Grow w8 w' → Grow w5 w' := fun w' h => q7 w' (Grow.trans hg8 h)
        have s1 : ∀ w', Grow w8 w' → (convert 22 9 v1).run Try.prog w' = .ok (.string (strOfNums bs)) w' := fun w' h => (r1.below (q8 w' h)).string 22 9 5 Try.underlying22 Try.underlying5 Try.underlying9
        simp only [Act.put, List.setIfInBounds_toArray, List.set_cons_zero, List.set_cons_succ]
        repeat (first
          | (refine wpS_move rfl ?_; simp only [Act.eval, Act.put, Array.getD_eq_getD_getElem?, List.getElem?_toArray, List.getElem?_cons_zero, List.getElem?_cons_succ, Option.getD_some, List.setIfInBounds_toArray, List.set_cons_zero, List.set_cons_succ])
          | (refine wpS_assign rfl ?_; simp only [Act.eval, Act.put, Array.getD_eq_getD_getElem?, List.getElem?_toArray, List.getElem?_cons_zero, List.getElem?_cons_succ, Option.getD_some, List.setIfInBounds_toArray, List.set_cons_zero, List.set_cons_succ])
          | (refine wpS_read (v := ?_) rfl ?_ ?_; rotate_left; (focus (intro w' hG; go_simp; try (with_reducible rfl))); simp only [Act.put, List.setIfInBounds_toArray, List.set_cons_zero, List.set_cons_succ]))
        refine wpS_call (f := ?_) (args := ?_) (by rfl) ?_ ?_
        rotate_left 2; focus (go_simp; constructor <;> with_reducible rfl)
        refine (few_any _ b0 8 8 _ _ rfl (hb.below (Grow.trans g5 (q8 _ (Grow.refl _)))) (by omega)).mono ?_
        rintro e w9 ⟨v9, rfl, ho9, hg9⟩
        rw [hbs] at ho9
        refine ⟨_, rfl, hg9, ?_⟩
        have s9 : ∀ w', Grow w9 w' → (convert 22 9 v9).run Try.prog w' = .ok (.string (strOfNums bs)) w' := fun w' h => (ho9.rd.below h).string 22 9 5 Try.underlying22 Try.underlying5 Try.underlying9
        simp only [Act.put, List.setIfInBounds_toArray, List.set_cons_zero, List.set_cons_succ]
        repeat (first
          | (refine wpS_move rfl ?_; simp only [Act.eval, Act.put, Array.getD_eq_getD_getElem?, List.getElem?_toArray, List.getElem?_cons_zero, List.getElem?_cons_succ, Option.getD_some, List.setIfInBounds_toArray, List.set_cons_zero, List.set_cons_succ])
          | (refine wpS_assign rfl ?_; simp only [Act.eval, Act.put, Array.getD_eq_getD_getElem?, List.getElem?_toArray, List.getElem?_cons_zero, List.getElem?_cons_succ, Option.getD_some, List.setIfInBounds_toArray, List.set_cons_zero, List.set_cons_succ])
          | (refine wpS_read (v := ?_) rfl ?_ ?_; rotate_left; (focus (intro w' hG; go_simp; try (with_reducible rfl))); simp only [Act.put, List.setIfInBounds_toArray, List.set_cons_zero, List.set_cons_succ]))
        refine wpS_call (f := ?_) (args := ?_) (by rfl) ?_ ?_
        rotate_left 2; focus (go_simp; constructor <;> with_reducible rfl)
        refine (lives_any _).mono ?_
        rintro e w10 ⟨rfl, hg10⟩
        refine ⟨_, rfl, hg10, ?_⟩
        simp only [Act.put, List.setIfInBounds_toArray, List.set_cons_zero, List.set_cons_succ]
        repeat (first
          | (refine wpS_move rfl ?_; simp only [Act.eval, Act.put, Array.getD_eq_getD_getElem?, List.getElem?_toArray, List.getElem?_cons_zero, List.getElem?_cons_succ, Option.getD_some, List.setIfInBounds_toArray, List.set_cons_zero, List.set_cons_succ])
          | (refine wpS_assign rfl ?_; simp only [Act.eval, Act.put, Array.getD_eq_getD_getElem?, List.getElem?_toArray, List.getElem?_cons_zero, List.getElem?_cons_succ, Option.getD_some, List.setIfInBounds_toArray, List.set_cons_zero, List.set_cons_succ])
          | (refine wpS_read (v := ?_) rfl ?_ ?_; rotate_left; (focus (intro w' hG; go_simp; try (with_reducible rfl))); simp only [Act.put, List.setIfInBounds_toArray, List.set_cons_zero, List.set_cons_succ]))
        refine wpS_nil ?_
        go_wp2
        go_ret
        exact ⟨rfl, Grow.trans g5 (q8 _ (Grow.trans hg9 hg10))⟩
end Go.Proofs.Ytcilbokogejicaa
