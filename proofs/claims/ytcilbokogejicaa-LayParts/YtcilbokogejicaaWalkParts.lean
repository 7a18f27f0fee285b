/-
  The walk of allotmentlaw01.LayParts: it returns true, and nothing that was there is written. Conditions: none but the reading of its arguments.
-/
import Derived.Test.YtcilbokogejicaaPuts
import Derived.Test.YtcilbokogejicaaSched
import Derived.Outline
namespace Go.Proofs.Ytcilbokogejicaa
open Go.RowKit
set_option linter.unusedVariables false
set_option linter.unusedSimpArgs false

set_option maxHeartbeats 2000000 in
theorem layParts_walk (a0 : Option Addr) (cap0 : Nat) (l : List Int) (a1 : Int) (w : World) (hr : Rd .i64 w.heap.size w (.slice a0 l.length cap0) l) (w1 : (Lit.int .i64 a1).wf = true) :
    Calls Try.prog 8 #[.slice a0 l.length cap0, .int .i64 a1] w fun e w' => e = .returned (.bool true) ∧ Below w.heap.size w w' := by
  obtain ⟨-, hlc, hcm⟩ := hr.caps
  unfold maxLen at hcm
  by_cases h6 : l.length ≤ 6
  · have h6' : (l.length : Int) ≤ 6 := by omega
    have hr6 := hr
    have hn6 : l.length = l.length := rfl
    have hbd := around_bd a1 ((l.length : Int) + 1) (by omega)
    obtain ⟨k, hk⟩ := Int.eq_ofNat_of_zero_le hbd.1
    rw [hk] at hbd
    obtain ⟨-, hk1⟩ := hbd
    have har := around_any a1 ((l.length : Int) + 1) w w1 (by omega) (by omega)
    rw [hk] at har
    have HR : Hid (Calls Try.prog 18 #[.int .i64 a1, .int .i64 ((l.length : Int) + 1)] w fun e w' => e = .returned (.int .i64 (k : Int)) ∧ w = w') := har
    clear har hk
    have hk2 : (k : Int) ≤ (l.length : Int) := by omega
    have hk3 : k ≤ l.length := by omega
    have hk4 : (k : Int) ≤ (cap0 : Int) := by omega
    have hr1 : ∀ w', Below w.heap.size w w' → Rd .i64 w.heap.size w' (.slice a0 k cap0) (l.take k) := fun w' hb => (hr6.below hb).take k hk3
    have hr2 : ∀ w', Below w.heap.size w w' → Rd .i64 w.heap.size w' (.slice (if cap0 = k then a0 else a0.map (·.add k)) (l.length - k) (cap0 - k)) (l.drop k) := fun w' hb => (hr6.below hb).drop k hk3
    have HT : Hid (leAll (l.take k) ++ leAll (l.drop k) = leAll l) := by rw [← leAll_append, List.take_append_drop]; rfl
    have ht : (l.take k).length ≤ 100000 := by rw [List.length_take]; omega
    have hd : (l.drop k).length ≤ 100000 := by rw [List.length_drop]; omega
    have ha : (leAll (l.take k)).length ≤ 1000000 := by rw [leAll_length]; omega
    have HL : Hid ((leAll l).length = 8 * l.length) := by rw [leAll_length, hn6]; rfl
    have hls : l.length ≤ 100000 := by omega
    go_enter Try.func8, Try.ntmps8
    go_wp2_with (go_at_call 18; refine HR.out.mono ?_; rintro e w' ⟨rfl, rfl⟩)
    refine wp_region_sched (by kernel_rfl) [(0, false), (1, false), (2, false), (4, false), (5, false), (6, false), (3, true), (7, true), (8, false)] (by kernel_rfl) (by kernel_rfl) rfl (fun _ _ d _ _ h => by cases d <;> exact h) ?_
    simp only [inOrder, List.filterMap_cons, List.filterMap_nil, List.getElem?_toArray, List.getElem?_cons_zero, List.getElem?_cons_succ, Option.map_some]
    repeat (first
      | (refine wpS_move rfl ?_; simp only [Act.eval, Act.put, Array.getD_eq_getD_getElem?, List.getElem?_toArray, List.getElem?_cons_zero, List.getElem?_cons_succ, Option.getD_some, List.setIfInBounds_toArray, List.set_cons_zero, List.set_cons_succ])
      | (refine wpS_assign rfl ?_; simp only [Act.eval, Act.put, Array.getD_eq_getD_getElem?, List.getElem?_toArray, List.getElem?_cons_zero, List.getElem?_cons_succ, Option.getD_some, List.setIfInBounds_toArray, List.set_cons_zero, List.set_cons_succ])
      | (refine wpS_read (v := ?_) rfl ?_ ?_; rotate_left; (focus (intro w' hG; go_simp; try (with_reducible rfl))); simp only [Act.put, List.setIfInBounds_toArray, List.set_cons_zero, List.set_cons_succ]))
    refine wpS_call (f := ?_) (args := ?_) (by rfl) ?_ ?_
    rotate_left 2; focus (go_simp; constructor <;> with_reducible rfl)
    refine (ints_any _ _ [] (l.take k) 0 w.heap.size _ (Rd.nil _ _ _ _ _ (Nat.zero_le _)) (hr1 _ (Below.refl _ _).drew) (Nat.zero_le _) ht).mono ?_
    rintro e w1 ⟨v1, rfl, ho1, hb1⟩
    refine ⟨v1, rfl, hb1, ?_⟩
    rw [List.nil_append] at ho1
    replace hb1 := (Below.refl w.heap.size w).drew.trans hb1
    simp only [Act.put, List.setIfInBounds_toArray, List.set_cons_zero, List.set_cons_succ]
    refine wpS_call (f := ?_) (args := ?_) (by rfl) ?_ ?_
    rotate_left 2; focus (go_simp; constructor <;> with_reducible rfl)
    refine (ints_any _ _ (leAll (l.take k)) (l.drop k) _ w.heap.size _ ho1.rd (hr2 _ hb1) ha hd).mono ?_
    rintro e w2 ⟨v2, rfl, ho2, hb2⟩
    refine ⟨v2, rfl, hb2, ?_⟩
    rw [HT.out] at ho2
    simp only [Act.put, List.setIfInBounds_toArray, List.set_cons_zero, List.set_cons_succ]
    repeat (first
      | (refine wpS_move rfl ?_; simp only [Act.eval, Act.put, Array.getD_eq_getD_getElem?, List.getElem?_toArray, List.getElem?_cons_zero, List.getElem?_cons_succ, Option.getD_some, List.setIfInBounds_toArray, List.set_cons_zero, List.set_cons_succ])
      | (refine wpS_assign rfl ?_; simp only [Act.eval, Act.put, Array.getD_eq_getD_getElem?, List.getElem?_toArray, List.getElem?_cons_zero, List.getElem?_cons_succ, Option.getD_some, List.setIfInBounds_toArray, List.set_cons_zero, List.set_cons_succ])
      | (refine wpS_read (v := ?_) rfl ?_ ?_; rotate_left; (focus (intro w' hG; go_simp; try (with_reducible rfl))); simp only [Act.put, List.setIfInBounds_toArray, List.set_cons_zero, List.set_cons_succ]))
    refine wpS_nil ?_
    generalize (if cap0 = k then a0 else a0.map (·.add k)) = ax
    clear hr2 HR
    have hg2 : Grow w w2 := Grow.trans (b := w1) hb1 hb2
    have hr3 : ∀ w', Grow w2 w' → Rd .i64 w.heap.size w' (.slice a0 l.length cap0) l := fun w' hg => hr6.below (hg2.trans hg)
    have hs2 : ∀ w', Grow w2.drew w' → (convert 22 9 v2).run Try.prog w' = .ok (.string (strOfNums (leAll l))) w' := fun w' hg => (ho2.rd.below (Grow.trans (Grow.refl w2).drew hg)).string 22 9 5 Try.underlying22 Try.underlying5 Try.underlying9
    obtain ⟨a2, c2, hv2⟩ := ho2.shape
    rw [HL.out] at hv2
    subst hv2
    go_wp2
    have hwr : IntKind.i64.wrap (8 * (l.length : Int)) = 8 * (l.length : Int) := by rw [IntKind.wrap_i64]; omega
    refine wp_region_sched (by kernel_rfl) [(0, false), (1, false), (2, false), (3, true), (4, false), (5, false), (6, false), (7, false), (8, false), (9, false), (10, false), (11, false), (12, false), (13, false), (14, false), (15, true), (16, false), (17, false)] (by kernel_rfl) (by kernel_rfl) rfl (fun _ _ d _ _ h => by cases d <;> exact h) ?_
    simp only [inOrder, List.filterMap_cons, List.filterMap_nil, List.getElem?_toArray, List.getElem?_cons_zero, List.getElem?_cons_succ, Option.map_some]
    repeat (first
      | (refine wpS_move rfl ?_; simp only [Act.eval, Act.put, Array.getD_eq_getD_getElem?, List.getElem?_toArray, List.getElem?_cons_zero, List.getElem?_cons_succ, Option.getD_some, List.setIfInBounds_toArray, List.set_cons_zero, List.set_cons_succ])
      | (refine wpS_assign rfl ?_; simp only [Act.eval, Act.put, Array.getD_eq_getD_getElem?, List.getElem?_toArray, List.getElem?_cons_zero, List.getElem?_cons_succ, Option.getD_some, List.setIfInBounds_toArray, List.set_cons_zero, List.set_cons_succ])
      | (refine wpS_read (v := ?_) rfl ?_ ?_; rotate_left; (focus (intro w' hG; go_simp; try (with_reducible rfl))); simp only [Act.put, List.setIfInBounds_toArray, List.set_cons_zero, List.set_cons_succ]))
    refine wpS_call (f := ?_) (args := ?_) (by rfl) ?_ ?_
    rotate_left 2; focus (go_simp; constructor <;> with_reducible rfl)
    refine (ints_any _ _ [] l 0 w.heap.size _ (Rd.nil _ _ _ _ _ (Nat.zero_le _)) (hr3 _ (Grow.refl _).drew) (Nat.zero_le _) hls).mono ?_
    rintro e w3 ⟨v3, rfl, ho3, hb3⟩
    refine ⟨v3, rfl, hb3, ?_⟩
    rw [List.nil_append] at ho3
    have hs3 : ∀ w', Grow w3 w' → (convert 22 9 v3).run Try.prog w' = .ok (.string (strOfNums (leAll l))) w' := fun w' hg => (ho3.rd.below hg).string 22 9 5 Try.underlying22 Try.underlying5 Try.underlying9
    simp only [Act.put, List.setIfInBounds_toArray, List.set_cons_zero, List.set_cons_succ]
    repeat (first
      | (refine wpS_move rfl ?_; simp only [Act.eval, Act.put, Array.getD_eq_getD_getElem?, List.getElem?_toArray, List.getElem?_cons_zero, List.getElem?_cons_succ, Option.getD_some, List.setIfInBounds_toArray, List.set_cons_zero, List.set_cons_succ])
      | (refine wpS_assign rfl ?_; simp only [Act.eval, Act.put, Array.getD_eq_getD_getElem?, List.getElem?_toArray, List.getElem?_cons_zero, List.getElem?_cons_succ, Option.getD_some, List.setIfInBounds_toArray, List.set_cons_zero, List.set_cons_succ])
      | (refine wpS_read (v := ?_) rfl ?_ ?_; rotate_left; (focus (intro w' hG; go_simp; try (with_reducible rfl))); simp only [Act.put, List.setIfInBounds_toArray, List.set_cons_zero, List.set_cons_succ]))
    refine wpS_call (f := ?_) (args := ?_) (by rfl) ?_ ?_
    rotate_left 2; focus (go_simp; constructor <;> with_reducible rfl)
    refine (lives_any _).mono ?_
    rintro e w4 ⟨rfl, hb4⟩
    refine ⟨_, rfl, hb4, ?_⟩
    simp only [Act.put, List.setIfInBounds_toArray, List.set_cons_zero, List.set_cons_succ]
    repeat (first
      | (refine wpS_move rfl ?_; simp only [Act.eval, Act.put, Array.getD_eq_getD_getElem?, List.getElem?_toArray, List.getElem?_cons_zero, List.getElem?_cons_succ, Option.getD_some, List.setIfInBounds_toArray, List.set_cons_zero, List.set_cons_succ])
      | (refine wpS_assign rfl ?_; simp only [Act.eval, Act.put, Array.getD_eq_getD_getElem?, List.getElem?_toArray, List.getElem?_cons_zero, List.getElem?_cons_succ, Option.getD_some, List.setIfInBounds_toArray, List.set_cons_zero, List.set_cons_succ])
      | (refine wpS_read (v := ?_) rfl ?_ ?_; rotate_left; (focus (intro w' hG; go_simp; try (with_reducible rfl))); simp only [Act.put, List.setIfInBounds_toArray, List.set_cons_zero, List.set_cons_succ]))
    refine wpS_nil ?_
    go_wp2
    go_ret
    exact ⟨rfl, Grow.trans hg2 (Grow.trans (Grow.trans (Grow.refl w2).drew hb3) hb4)⟩
  · have h6' : ¬ (l.length : Int) ≤ 6 := by omega
    have h6'' : (6 : Int) < (l.length : Int) := by omega
    have h6c : (6 : Int) ≤ (cap0 : Int) := by omega
    have hr6 := hr.take 6 (by omega)
    have hn6 : (l.take 6).length = 6 := by rw [List.length_take]; omega
    generalize l.take 6 = l6 at hr6 hn6
    have hbd := around_bd a1 7 (by omega)
    obtain ⟨k, hk⟩ := Int.eq_ofNat_of_zero_le hbd.1
    rw [hk] at hbd
    obtain ⟨-, hk1⟩ := hbd
    have har := around_any a1 7 w w1 (by omega) (by omega)
    rw [hk] at har
    have HR : Hid (Calls Try.prog 18 #[.int .i64 a1, .int .i64 7] w fun e w' => e = .returned (.int .i64 (k : Int)) ∧ w = w') := har
    clear har hk
    have hk2 : (k : Int) ≤ (6 : Int) := by omega
    have hk3 : k ≤ l6.length := by omega
    have hk4 : (k : Int) ≤ (cap0 : Int) := by omega
    have hr1 : ∀ w', Below w.heap.size w w' → Rd .i64 w.heap.size w' (.slice a0 k cap0) (l6.take k) := fun w' hb => (hr6.below hb).take k hk3
    have hr2 : ∀ w', Below w.heap.size w w' → Rd .i64 w.heap.size w' (.slice (if cap0 = k then a0 else a0.map (·.add k)) (6 - k) (cap0 - k)) (l6.drop k) := fun w' hb => (hr6.below hb).drop k hk3
    have HT : Hid (leAll (l6.take k) ++ leAll (l6.drop k) = leAll l6) := by rw [← leAll_append, List.take_append_drop]; rfl
    have ht : (l6.take k).length ≤ 100000 := by rw [List.length_take]; omega
    have hd : (l6.drop k).length ≤ 100000 := by rw [List.length_drop]; omega
    have ha : (leAll (l6.take k)).length ≤ 1000000 := by rw [leAll_length]; omega
    have HL : Hid ((leAll l6).length = 8 * 6) := by rw [leAll_length, hn6]; rfl
    have hls : l6.length ≤ 100000 := by omega
    go_enter Try.func8, Try.ntmps8
    go_wp2_with (go_at_call 18; refine HR.out.mono ?_; rintro e w' ⟨rfl, rfl⟩)
    refine wp_region_sched (by kernel_rfl) [(0, false), (1, false), (2, false), (4, false), (5, false), (6, false), (3, true), (7, true), (8, false)] (by kernel_rfl) (by kernel_rfl) rfl (fun _ _ d _ _ h => by cases d <;> exact h) ?_
    simp only [inOrder, List.filterMap_cons, List.filterMap_nil, List.getElem?_toArray, List.getElem?_cons_zero, List.getElem?_cons_succ, Option.map_some]
    repeat (first
      | (refine wpS_move rfl ?_; simp only [Act.eval, Act.put, Array.getD_eq_getD_getElem?, List.getElem?_toArray, List.getElem?_cons_zero, List.getElem?_cons_succ, Option.getD_some, List.setIfInBounds_toArray, List.set_cons_zero, List.set_cons_succ])
      | (refine wpS_assign rfl ?_; simp only [Act.eval, Act.put, Array.getD_eq_getD_getElem?, List.getElem?_toArray, List.getElem?_cons_zero, List.getElem?_cons_succ, Option.getD_some, List.setIfInBounds_toArray, List.set_cons_zero, List.set_cons_succ])
      | (refine wpS_read (v := ?_) rfl ?_ ?_; rotate_left; (focus (intro w' hG; go_simp; try (with_reducible rfl))); simp only [Act.put, List.setIfInBounds_toArray, List.set_cons_zero, List.set_cons_succ]))
    refine wpS_call (f := ?_) (args := ?_) (by rfl) ?_ ?_
    rotate_left 2; focus (go_simp; constructor <;> with_reducible rfl)
    refine (ints_any _ _ [] (l6.take k) 0 w.heap.size _ (Rd.nil _ _ _ _ _ (Nat.zero_le _)) (hr1 _ (Below.refl _ _).drew) (Nat.zero_le _) ht).mono ?_
    rintro e w1 ⟨v1, rfl, ho1, hb1⟩
    refine ⟨v1, rfl, hb1, ?_⟩
    rw [List.nil_append] at ho1
    replace hb1 := (Below.refl w.heap.size w).drew.trans hb1
    simp only [Act.put, List.setIfInBounds_toArray, List.set_cons_zero, List.set_cons_succ]
    refine wpS_call (f := ?_) (args := ?_) (by rfl) ?_ ?_
    rotate_left 2; focus (go_simp; constructor <;> with_reducible rfl)
    refine (ints_any _ _ (leAll (l6.take k)) (l6.drop k) _ w.heap.size _ ho1.rd (hr2 _ hb1) ha hd).mono ?_
    rintro e w2 ⟨v2, rfl, ho2, hb2⟩
    refine ⟨v2, rfl, hb2, ?_⟩
    rw [HT.out] at ho2
    simp only [Act.put, List.setIfInBounds_toArray, List.set_cons_zero, List.set_cons_succ]
    repeat (first
      | (refine wpS_move rfl ?_; simp only [Act.eval, Act.put, Array.getD_eq_getD_getElem?, List.getElem?_toArray, List.getElem?_cons_zero, List.getElem?_cons_succ, Option.getD_some, List.setIfInBounds_toArray, List.set_cons_zero, List.set_cons_succ])
      | (refine wpS_assign rfl ?_; simp only [Act.eval, Act.put, Array.getD_eq_getD_getElem?, List.getElem?_toArray, List.getElem?_cons_zero, List.getElem?_cons_succ, Option.getD_some, List.setIfInBounds_toArray, List.set_cons_zero, List.set_cons_succ])
      | (refine wpS_read (v := ?_) rfl ?_ ?_; rotate_left; (focus (intro w' hG; go_simp; try (with_reducible rfl))); simp only [Act.put, List.setIfInBounds_toArray, List.set_cons_zero, List.set_cons_succ]))
    refine wpS_nil ?_
    generalize (if cap0 = k then a0 else a0.map (·.add k)) = ax
    clear hr2 HR
    have hg2 : Grow w w2 := Grow.trans (b := w1) hb1 hb2
    have hr3 : ∀ w', Grow w2 w' → Rd .i64 w.heap.size w' (.slice a0 6 cap0) l6 := fun w' hg => hr6.below (hg2.trans hg)
    have hs2 : ∀ w', Grow w2.drew w' → (convert 22 9 v2).run Try.prog w' = .ok (.string (strOfNums (leAll l6))) w' := fun w' hg => (ho2.rd.below (Grow.trans (Grow.refl w2).drew hg)).string 22 9 5 Try.underlying22 Try.underlying5 Try.underlying9
    obtain ⟨a2, c2, hv2⟩ := ho2.shape
    rw [HL.out] at hv2
    subst hv2
    go_wp2
    refine wp_region_sched (by kernel_rfl) [(0, false), (1, false), (2, false), (3, true), (4, false), (5, false), (6, false), (7, false), (8, false), (9, false), (10, false), (11, false), (12, false), (13, false), (14, false), (15, true), (16, false), (17, false)] (by kernel_rfl) (by kernel_rfl) rfl (fun _ _ d _ _ h => by cases d <;> exact h) ?_
    simp only [inOrder, List.filterMap_cons, List.filterMap_nil, List.getElem?_toArray, List.getElem?_cons_zero, List.getElem?_cons_succ, Option.map_some]
    repeat (first
      | (refine wpS_move rfl ?_; simp only [Act.eval, Act.put, Array.getD_eq_getD_getElem?, List.getElem?_toArray, List.getElem?_cons_zero, List.getElem?_cons_succ, Option.getD_some, List.setIfInBounds_toArray, List.set_cons_zero, List.set_cons_succ])
      | (refine wpS_assign rfl ?_; simp only [Act.eval, Act.put, Array.getD_eq_getD_getElem?, List.getElem?_toArray, List.getElem?_cons_zero, List.getElem?_cons_succ, Option.getD_some, List.setIfInBounds_toArray, List.set_cons_zero, List.set_cons_succ])
      | (refine wpS_read (v := ?_) rfl ?_ ?_; rotate_left; (focus (intro w' hG; go_simp; try (with_reducible rfl))); simp only [Act.put, List.setIfInBounds_toArray, List.set_cons_zero, List.set_cons_succ]))
    refine wpS_call (f := ?_) (args := ?_) (by rfl) ?_ ?_
    rotate_left 2; focus (go_simp; constructor <;> with_reducible rfl)
    refine (ints_any _ _ [] l6 0 w.heap.size _ (Rd.nil _ _ _ _ _ (Nat.zero_le _)) (hr3 _ (Grow.refl _).drew) (Nat.zero_le _) hls).mono ?_
    rintro e w3 ⟨v3, rfl, ho3, hb3⟩
    refine ⟨v3, rfl, hb3, ?_⟩
    rw [List.nil_append] at ho3
    have hs3 : ∀ w', Grow w3 w' → (convert 22 9 v3).run Try.prog w' = .ok (.string (strOfNums (leAll l6))) w' := fun w' hg => (ho3.rd.below hg).string 22 9 5 Try.underlying22 Try.underlying5 Try.underlying9
    simp only [Act.put, List.setIfInBounds_toArray, List.set_cons_zero, List.set_cons_succ]
    repeat (first
      | (refine wpS_move rfl ?_; simp only [Act.eval, Act.put, Array.getD_eq_getD_getElem?, List.getElem?_toArray, List.getElem?_cons_zero, List.getElem?_cons_succ, Option.getD_some, List.setIfInBounds_toArray, List.set_cons_zero, List.set_cons_succ])
      | (refine wpS_assign rfl ?_; simp only [Act.eval, Act.put, Array.getD_eq_getD_getElem?, List.getElem?_toArray, List.getElem?_cons_zero, List.getElem?_cons_succ, Option.getD_some, List.setIfInBounds_toArray, List.set_cons_zero, List.set_cons_succ])
      | (refine wpS_read (v := ?_) rfl ?_ ?_; rotate_left; (focus (intro w' hG; go_simp; try (with_reducible rfl))); simp only [Act.put, List.setIfInBounds_toArray, List.set_cons_zero, List.set_cons_succ]))
    refine wpS_call (f := ?_) (args := ?_) (by rfl) ?_ ?_
    rotate_left 2; focus (go_simp; constructor <;> with_reducible rfl)
    refine (lives_any _).mono ?_
    rintro e w4 ⟨rfl, hb4⟩
    refine ⟨_, rfl, hb4, ?_⟩
    simp only [Act.put, List.setIfInBounds_toArray, List.set_cons_zero, List.set_cons_succ]
    repeat (first
      | (refine wpS_move rfl ?_; simp only [Act.eval, Act.put, Array.getD_eq_getD_getElem?, List.getElem?_toArray, List.getElem?_cons_zero, List.getElem?_cons_succ, Option.getD_some, List.setIfInBounds_toArray, List.set_cons_zero, List.set_cons_succ])
      | (refine wpS_assign rfl ?_; simp only [Act.eval, Act.put, Array.getD_eq_getD_getElem?, List.getElem?_toArray, List.getElem?_cons_zero, List.getElem?_cons_succ, Option.getD_some, List.setIfInBounds_toArray, List.set_cons_zero, List.set_cons_succ])
      | (refine wpS_read (v := ?_) rfl ?_ ?_; rotate_left; (focus (intro w' hG; go_simp; try (with_reducible rfl))); simp only [Act.put, List.setIfInBounds_toArray, List.set_cons_zero, List.set_cons_succ]))
    refine wpS_nil ?_
    go_wp2
    go_ret
    exact ⟨rfl, Grow.trans hg2 (Grow.trans (Grow.trans (Grow.refl w2).drew hb3) hb4)⟩
end Go.Proofs.Ytcilbokogejicaa
