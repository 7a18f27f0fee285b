/-
  The walk of FramePins. Conditions: the theorem's own.
-/
import Derived.Test.YtcmehefaceaioaaFraV
import Derived.Test.YtcmehefaceaioaaAround
import Derived.Deep.LoopGhost
namespace Go.Proofs.Ytcmehefaceaioaa
open Go.RowKit
set_option linter.unusedVariables false
set_option linter.unusedSimpArgs false

set_option maxRecDepth 8000 in
set_option maxHeartbeats 4000000 in
theorem framePins_walk (x y : Int) (w : World) (hx : (Lit.int .i64 x).wf = true) (hy : (Lit.int .i64 y).wf = true) :
    Calls Try.prog 4 #[.int .i64 x, .int .i64 y] w fun e w' => e = .returned (.bool true) ∧ Grow w w' := by
  have ha1 := around_any x 121 w hx (by omega) (by omega)
  have ha2 := around_any y 121 w hy (by omega) (by omega)
  have hb1 := around_bd x 121 (by omega)
  have hb2 := around_bd y 121 (by omega)
  obtain ⟨N, hN⟩ := Int.eq_ofNat_of_zero_le hb1.1
  obtain ⟨M, hM⟩ := Int.eq_ofNat_of_zero_le hb2.1
  rw [hN] at ha1 hb1
  rw [hM] at ha2 hb2
  have hN1 : N ≤ 120 := by omega
  have hM1 : M ≤ 120 := by omega
  clear hN hM hb1 hb2
  obtain ⟨W1, hW1⟩ : ∃ W1, w.alloc (.cells zeroF 28) = W1 := ⟨_, rfl⟩
  have F1 := FrAt.new w 28
  rw [hW1] at F1
  have g1 : Grow w W1 := by rw [← hW1]; exact (Grow.refl w).alloc _
  obtain ⟨b, hb⟩ : ∃ b, w.heap.size = b := ⟨_, rfl⟩
  rw [hb] at F1
  have hP0 := pin_unused W1 b _ _ _ _ _ _ F1 rfl
  obtain ⟨v2, W2, hm, ho2, g2⟩ := make32 W1
  obtain ⟨a2, c2, hv2⟩ := ho2.shape
  rw [z32_len] at hv2
  subst hv2
  have hlt1 := F1.lt
  have hL := load_yes W2 b _ _ _ _ _ _ (F1.grow g2) 1 a2 c2 z32 (ho2.rd.mono (fun i _ hi => by omega))
  have HG : Hid (Grow w W2 ∧ w.heap.size ≤ b) := ⟨g1.trans g2, by omega⟩
  clear ho2 g1 g2 F1 hlt1
  go_enter Try.func4, Try.ntmps4
  go_wp2_with fail
  refine ha1.mono ?_
  rintro e w0 ⟨rfl, rfl⟩
  go_wp2_with fail
  refine ha2.mono ?_
  rintro e w0 ⟨rfl, rfl⟩
  clear ha1 ha2
  go_wp2_with fail
  (try rw [zeroF_lit])
  (try rw [hW1])
  (try rw [hb])
  refine hP0.mono ?_
  rintro e w0 ⟨rfl, rfl⟩
  clear hP0 hW1
  go_wp2_with fail
  refine hL.mono ?_
  rintro e w3 ⟨rfl, F3, u3⟩
  have H3 : Hid (FrAt w3 b true false false 0 1 z32 ∧ Grow w w3) := ⟨F3, UpdS.new HG.out.1 u3 (fun i hi => by have := HG.out.2; omega)⟩
  clear F3 u3 hL hm hb
  go_wp2
  go_loopg [8] N (fun k i wr => ∃ j : Nat, k = N - j ∧ j ≤ N ∧ i = .int .i64 j ∧ Hid (∃ r, FrAt wr b true false r ((min j 100 : Nat) : Int) 1 z32 ∧ Grow w wr))
  case atStart => exact ⟨0, rfl, Nat.zero_le _, rfl, false, H3.out.1, H3.out.2⟩
  case round =>
    obtain ⟨j, hk, hj, rfl, HI⟩ := hrel
    have HK : Hid (gk = N - j) := hk
    clear hk H3
    by_cases hlt : j < N
    · have hlt' : (j : Int) < (N : Int) := by omega
      obtain ⟨r, F, g⟩ := HI.out
      by_cases h100 : j < 100
      · have h100' : ¬ (100 : Int) ≤ (j : Int) := by omega
        rw [Nat.min_eq_left (by omega)] at F
        have hP := pin_yes wr b _ _ _ _ _ _ F rfl (by omega) (by omega)
        have HG1 : Hid (Grow w wr) := g
        clear F g HI
        go_wp2_with fail
        refine hP.mono ?_
        rintro e w5 ⟨rfl, F5, u5⟩
        have H5 : Hid (∃ r, FrAt w5 b true false r ((min (j + 1) 100 : Nat) : Int) 1 z32 ∧ Grow w w5) := ⟨true, by rw [Nat.min_eq_left (by omega)]; exact F5, UpdS.new HG1.out u5 (fun i hi => by have := HG.out.2; omega)⟩
        clear F5 u5 hP
        go_wp2
        go_roundg (N - (j + 1))
        case measure => have := HK.out; omega
        case rel => exact ⟨j + 1, rfl, by omega, by go_num, H5⟩
      · have h100' : (100 : Int) ≤ (j : Int) := by omega
        rw [Nat.min_eq_right (by omega)] at F
        have hP := pin_full wr b _ _ _ _ _ _ F rfl (by omega)
        have H5 : Hid (∃ r, FrAt wr b true false r ((min (j + 1) 100 : Nat) : Int) 1 z32 ∧ Grow w wr) := ⟨r, by rw [Nat.min_eq_right (by omega)]; exact F, g⟩
        clear F g HI
        go_wp2_with fail
        refine hP.mono ?_
        rintro e w5 ⟨rfl, rfl⟩
        clear hP
        go_wp2
        go_roundg (N - (j + 1))
        case measure => have := HK.out; omega
        case rel => exact ⟨j + 1, rfl, by omega, by go_num, H5⟩
    · have hlt' : ¬ (j : Int) < (N : Int) := by omega
      obtain rfl : N = j := by omega
      clear HK hlt
      by_cases hN100 : N ≤ 100
      · skip
        have hmn : ¬ (100 : Int) < (N : Int) := by omega
        obtain ⟨W4, rfl⟩ : ∃ W4, W4 = wr := ⟨_, rfl⟩
        have H4 : Hid (∃ r, FrAt W4 b true false r ((N : Nat) : Int) 1 z32 ∧ Grow w W4) := by
          obtain ⟨r, F, g⟩ := HI.out
          rw [Nat.min_eq_left (by omega)] at F
          exact ⟨r, F, g⟩
        clear HI
        go_wp2
        go_loopg [10] M (fun k i wr => ∃ j : Nat, k = M - j ∧ j ≤ M ∧ i = .int .i64 j ∧ Hid (∃ r, FrAt wr b true false r ((N - j : Nat) : Int) 1 z32 ∧ Grow w wr))
        case atStart => exact ⟨0, rfl, Nat.zero_le _, rfl, H4⟩
        case round =>
          obtain ⟨j, hk, hj, rfl, HI⟩ := hrel
          have HK : Hid (gk = M - j) := hk
          clear hk H4
          by_cases hlt : j < M
          · have hlt' : (j : Int) < (M : Int) := by omega
            obtain ⟨r, F, g⟩ := HI.out
            by_cases hC : j < N
            · have hC' : ¬ (N : Int) ≤ (j : Int) := by omega
              have e1 : ((N - j : Nat) : Int) - 1 = ((N - (j + 1) : Nat) : Int) := by omega
              have hP := unpin_yes wr b _ _ _ _ _ _ F (by omega) (by omega)
              rw [e1] at hP
              have HG1 : Hid (Grow w wr) := g
              clear F g HI e1
              go_wp2_with fail
              refine hP.mono ?_
              rintro e w5 ⟨rfl, F5, u5⟩
              have H5 : Hid (∃ r, FrAt w5 b true false r ((N - (j + 1) : Nat) : Int) 1 z32 ∧ Grow w w5) := ⟨r, F5, UpdS.new HG1.out u5 (fun i hi => by have := HG.out.2; omega)⟩
              clear F5 u5 hP
              go_wp2
              go_roundg (M - (j + 1))
              case measure => have := HK.out; omega
              case rel => exact ⟨j + 1, rfl, by omega, by go_num, H5⟩
            · have hC' : (N : Int) ≤ (j : Int) := by omega
              have hP := unpin_no wr b _ _ _ _ _ _ F (by omega)
              have H5 : Hid (∃ r, FrAt wr b true false r ((N - (j + 1) : Nat) : Int) 1 z32 ∧ Grow w wr) := by
                have e : N - (j + 1) = N - j := by omega
                rw [e]; exact ⟨r, F, g⟩
              clear F g HI
              go_wp2_with fail
              refine hP.mono ?_
              rintro e w5 ⟨rfl, rfl⟩
              clear hP
              go_wp2
              go_roundg (M - (j + 1))
              case measure => have := HK.out; omega
              case rel => exact ⟨j + 1, rfl, by omega, by go_num, H5⟩
          · have hlt' : ¬ (j : Int) < (M : Int) := by omega
            obtain rfl : M = j := by omega
            obtain ⟨r, F, g⟩ := HI.out
            clear HK hlt HI
            rcases Nat.lt_trichotomy M (N) with hMC | hMC | hMC
            · have e1 : ((N - M : Nat) : Int) = (N : Int) - (M : Int) := by omega
              rw [e1] at F
              have hle : decide ((N : Int) - (M : Int) ≤ 0) = false := decide_eq_false (by omega)
              have hMN : (M : Int) < (N : Int) := by omega
              clear e1 hMC
              have gd : Grow wr wr.drew := (Grow.refl wr).drew
              have fx : ∀ w', Grow wr.drew w' → w'.cell? ⟨b, 3, none⟩ = some (.int .i64 ((N : Int) - (M : Int))) := fun w' g' => ((F.grow gd).grow g').five.1.2.2.2.1
              have hf := free_any wr.drew b _ _ _ _ _ _ (F.grow gd)
              rw [hle] at hf
              have HW : Hid (Grow w wr) := g
              clear F g
              go_wp2
              have z1 := eq_false (show ¬ (100 : Int) < (N : Int) by omega)
              have z2 : IntKind.i64.wrap ((N : Int) - (M : Int)) = (N : Int) - (M : Int) := by rw [IntKind.wrap_i64]; omega
              have z3 := eq_false (show ¬ (N : Int) - (M : Int) < 0 by omega)
              have z4 : ((N : Int) - (M : Int) == 0) = false := by rw [beq_eq_false_iff_ne]; omega
              refine wp_region_sched (by kernel_rfl) [(0, false), (1, false), (2, false), (3, false), (4, false), (5, false), (6, false), (7, false), (8, false), (9, false), (10, false), (11, false), (12, false), (13, false), (14, false), (16, false), (17, false), (18, false), (19, false), (20, false), (21, false), (15, true), (22, false), (23, false), (24, false), (25, true), (26, false), (27, false)] (by kernel_rfl) (by kernel_rfl) rfl (fun _ _ d _ _ h => by cases d <;> exact h) ?_
              simp only [inOrder, List.filterMap_cons, List.filterMap_nil, List.getElem?_toArray, List.getElem?_cons_zero, List.getElem?_cons_succ, Option.map_some]
              repeat (first
                | (refine wpS_move rfl ?_; simp only [Act.eval, Act.put, Array.getD_eq_getD_getElem?, List.getElem?_toArray, List.getElem?_cons_zero, List.getElem?_cons_succ, Option.getD_some, List.setIfInBounds_toArray, List.set_cons_zero, List.set_cons_succ])
                | (refine wpS_assign rfl ?_; simp only [Act.eval, Act.put, Array.getD_eq_getD_getElem?, List.getElem?_toArray, List.getElem?_cons_zero, List.getElem?_cons_succ, Option.getD_some, List.setIfInBounds_toArray, List.set_cons_zero, List.set_cons_succ])
                | (refine wpS_read (v := ?_) rfl ?_ ?_; rotate_left; (focus (intro w' hG; have q0 := fx w' hG; go_simp; try (with_reducible rfl))); simp only [Act.put, List.setIfInBounds_toArray, List.set_cons_zero, List.set_cons_succ])
                | (refine wpS_skip rfl ?_; simp only [Act.put, List.setIfInBounds_toArray, List.set_cons_zero, List.set_cons_succ]))
              refine wpS_call (f := ?_) (args := ?_) (by rfl) ?_ ?_
              rotate_left 2; focus (go_simp; constructor <;> with_reducible rfl)
              refine (hf).mono ?_
              rintro e w5 ⟨rfl, rfl⟩
              refine ⟨_, rfl, Grow.refl _, ?_⟩
              simp only [Act.put, List.setIfInBounds_toArray, List.set_cons_zero, List.set_cons_succ]
              repeat (first
                | (refine wpS_move rfl ?_; simp only [Act.eval, Act.put, Array.getD_eq_getD_getElem?, List.getElem?_toArray, List.getElem?_cons_zero, List.getElem?_cons_succ, Option.getD_some, List.setIfInBounds_toArray, List.set_cons_zero, List.set_cons_succ])
                | (refine wpS_assign rfl ?_; simp only [Act.eval, Act.put, Array.getD_eq_getD_getElem?, List.getElem?_toArray, List.getElem?_cons_zero, List.getElem?_cons_succ, Option.getD_some, List.setIfInBounds_toArray, List.set_cons_zero, List.set_cons_succ])
                | (refine wpS_read (v := ?_) rfl ?_ ?_; rotate_left; (focus (intro w' hG; have q0 := fx w' hG; go_simp; try (with_reducible rfl))); simp only [Act.put, List.setIfInBounds_toArray, List.set_cons_zero, List.set_cons_succ])
                | (refine wpS_skip rfl ?_; simp only [Act.put, List.setIfInBounds_toArray, List.set_cons_zero, List.set_cons_succ]))
              refine wpS_call (f := ?_) (args := ?_) (by rfl) ?_ ?_
              rotate_left 2; focus (go_simp; constructor <;> with_reducible rfl)
              refine (lives_any wr.drew).mono ?_
              rintro e w6 ⟨rfl, g6⟩
              refine ⟨_, rfl, g6, ?_⟩
              simp only [Act.put, List.setIfInBounds_toArray, List.set_cons_zero, List.set_cons_succ]
              repeat (first
                | (refine wpS_move rfl ?_; simp only [Act.eval, Act.put, Array.getD_eq_getD_getElem?, List.getElem?_toArray, List.getElem?_cons_zero, List.getElem?_cons_succ, Option.getD_some, List.setIfInBounds_toArray, List.set_cons_zero, List.set_cons_succ])
                | (refine wpS_assign rfl ?_; simp only [Act.eval, Act.put, Array.getD_eq_getD_getElem?, List.getElem?_toArray, List.getElem?_cons_zero, List.getElem?_cons_succ, Option.getD_some, List.setIfInBounds_toArray, List.set_cons_zero, List.set_cons_succ])
                | (refine wpS_read (v := ?_) rfl ?_ ?_; rotate_left; (focus (intro w' hG; skip; go_simp; try (with_reducible rfl))); simp only [Act.put, List.setIfInBounds_toArray, List.set_cons_zero, List.set_cons_succ])
                | (refine wpS_skip rfl ?_; simp only [Act.put, List.setIfInBounds_toArray, List.set_cons_zero, List.set_cons_succ]))
              refine wpS_nil ?_
              go_wp2
              go_ret
              exact ⟨rfl, (HW.out.trans gd).trans g6⟩
            · subst hMC
              have e1 : ((M - M : Nat) : Int) = 0 := by omega
              rw [e1] at F
              clear e1
              have gd : Grow wr wr.drew := (Grow.refl wr).drew
              have fx : ∀ w', Grow wr.drew w' → w'.cell? ⟨b, 3, none⟩ = some (.int .i64 0) := fun w' g' => ((F.grow gd).grow g').five.1.2.2.2.1
              have hf := free_any wr.drew b _ _ _ _ _ _ (F.grow gd)
              rw [show decide ((0 : Int) ≤ 0) = true from rfl] at hf
              have HW : Hid (Grow w wr) := g
              clear F g
              go_wp2
              have z1 := eq_false (show ¬ (100 : Int) < (M : Int) by omega)
              refine wp_region_sched (by kernel_rfl) [(0, false), (1, false), (2, false), (3, false), (4, false), (5, false), (6, false), (7, false), (8, false), (9, false), (10, false), (11, false), (12, false), (13, false), (14, false), (16, false), (17, false), (18, false), (19, false), (20, false), (21, false), (15, true), (22, false), (23, false), (24, false), (25, true), (26, false), (27, false)] (by kernel_rfl) (by kernel_rfl) rfl (fun _ _ d _ _ h => by cases d <;> exact h) ?_
              simp only [inOrder, List.filterMap_cons, List.filterMap_nil, List.getElem?_toArray, List.getElem?_cons_zero, List.getElem?_cons_succ, Option.map_some]
              repeat (first
                | (refine wpS_move rfl ?_; simp only [Act.eval, Act.put, Array.getD_eq_getD_getElem?, List.getElem?_toArray, List.getElem?_cons_zero, List.getElem?_cons_succ, Option.getD_some, List.setIfInBounds_toArray, List.set_cons_zero, List.set_cons_succ])
                | (refine wpS_assign rfl ?_; simp only [Act.eval, Act.put, Array.getD_eq_getD_getElem?, List.getElem?_toArray, List.getElem?_cons_zero, List.getElem?_cons_succ, Option.getD_some, List.setIfInBounds_toArray, List.set_cons_zero, List.set_cons_succ])
                | (refine wpS_read (v := ?_) rfl ?_ ?_; rotate_left; (focus (intro w' hG; have q0 := fx w' hG; go_simp; try (with_reducible rfl))); simp only [Act.put, List.setIfInBounds_toArray, List.set_cons_zero, List.set_cons_succ])
                | (refine wpS_skip rfl ?_; simp only [Act.put, List.setIfInBounds_toArray, List.set_cons_zero, List.set_cons_succ]))
              refine wpS_call (f := ?_) (args := ?_) (by rfl) ?_ ?_
              rotate_left 2; focus (go_simp; constructor <;> with_reducible rfl)
              refine (hf).mono ?_
              rintro e w5 ⟨rfl, rfl⟩
              refine ⟨_, rfl, Grow.refl _, ?_⟩
              simp only [Act.put, List.setIfInBounds_toArray, List.set_cons_zero, List.set_cons_succ]
              repeat (first
                | (refine wpS_move rfl ?_; simp only [Act.eval, Act.put, Array.getD_eq_getD_getElem?, List.getElem?_toArray, List.getElem?_cons_zero, List.getElem?_cons_succ, Option.getD_some, List.setIfInBounds_toArray, List.set_cons_zero, List.set_cons_succ])
                | (refine wpS_assign rfl ?_; simp only [Act.eval, Act.put, Array.getD_eq_getD_getElem?, List.getElem?_toArray, List.getElem?_cons_zero, List.getElem?_cons_succ, Option.getD_some, List.setIfInBounds_toArray, List.set_cons_zero, List.set_cons_succ])
                | (refine wpS_read (v := ?_) rfl ?_ ?_; rotate_left; (focus (intro w' hG; have q0 := fx w' hG; go_simp; try (with_reducible rfl))); simp only [Act.put, List.setIfInBounds_toArray, List.set_cons_zero, List.set_cons_succ])
                | (refine wpS_skip rfl ?_; simp only [Act.put, List.setIfInBounds_toArray, List.set_cons_zero, List.set_cons_succ]))
              refine wpS_call (f := ?_) (args := ?_) (by rfl) ?_ ?_
              rotate_left 2; focus (go_simp; constructor <;> with_reducible rfl)
              refine (lives_any wr.drew).mono ?_
              rintro e w6 ⟨rfl, g6⟩
              refine ⟨_, rfl, g6, ?_⟩
              simp only [Act.put, List.setIfInBounds_toArray, List.set_cons_zero, List.set_cons_succ]
              repeat (first
                | (refine wpS_move rfl ?_; simp only [Act.eval, Act.put, Array.getD_eq_getD_getElem?, List.getElem?_toArray, List.getElem?_cons_zero, List.getElem?_cons_succ, Option.getD_some, List.setIfInBounds_toArray, List.set_cons_zero, List.set_cons_succ])
                | (refine wpS_assign rfl ?_; simp only [Act.eval, Act.put, Array.getD_eq_getD_getElem?, List.getElem?_toArray, List.getElem?_cons_zero, List.getElem?_cons_succ, Option.getD_some, List.setIfInBounds_toArray, List.set_cons_zero, List.set_cons_succ])
                | (refine wpS_read (v := ?_) rfl ?_ ?_; rotate_left; (focus (intro w' hG; skip; go_simp; try (with_reducible rfl))); simp only [Act.put, List.setIfInBounds_toArray, List.set_cons_zero, List.set_cons_succ])
                | (refine wpS_skip rfl ?_; simp only [Act.put, List.setIfInBounds_toArray, List.set_cons_zero, List.set_cons_succ]))
              refine wpS_nil ?_
              go_wp2
              go_ret
              exact ⟨rfl, (HW.out.trans gd).trans g6⟩
            · have e1 : ((N - M : Nat) : Int) = 0 := by omega
              rw [e1] at F
              have hMN : (N : Int) < (M : Int) := by omega
              clear e1 hMC
              have gd : Grow wr wr.drew := (Grow.refl wr).drew
              have fx : ∀ w', Grow wr.drew w' → w'.cell? ⟨b, 3, none⟩ = some (.int .i64 0) := fun w' g' => ((F.grow gd).grow g').five.1.2.2.2.1
              have hf := free_any wr.drew b _ _ _ _ _ _ (F.grow gd)
              rw [show decide ((0 : Int) ≤ 0) = true from rfl] at hf
              have HW : Hid (Grow w wr) := g
              clear F g
              go_wp2
              have z1 := eq_false (show ¬ (100 : Int) < (N : Int) by omega)
              have z2 : IntKind.i64.wrap ((N : Int) - (M : Int)) = (N : Int) - (M : Int) := by rw [IntKind.wrap_i64]; omega
              have z3 := eq_true (show (N : Int) - (M : Int) < 0 by omega)
              refine wp_region_sched (by kernel_rfl) [(0, false), (1, false), (2, false), (3, false), (4, false), (5, false), (6, false), (7, false), (8, false), (9, false), (10, false), (11, false), (12, false), (13, false), (14, false), (16, false), (17, false), (18, false), (19, false), (20, false), (21, false), (15, true), (22, false), (23, false), (24, false), (25, true), (26, false), (27, false)] (by kernel_rfl) (by kernel_rfl) rfl (fun _ _ d _ _ h => by cases d <;> exact h) ?_
              simp only [inOrder, List.filterMap_cons, List.filterMap_nil, List.getElem?_toArray, List.getElem?_cons_zero, List.getElem?_cons_succ, Option.map_some]
              repeat (first
                | (refine wpS_move rfl ?_; simp only [Act.eval, Act.put, Array.getD_eq_getD_getElem?, List.getElem?_toArray, List.getElem?_cons_zero, List.getElem?_cons_succ, Option.getD_some, List.setIfInBounds_toArray, List.set_cons_zero, List.set_cons_succ])
                | (refine wpS_assign rfl ?_; simp only [Act.eval, Act.put, Array.getD_eq_getD_getElem?, List.getElem?_toArray, List.getElem?_cons_zero, List.getElem?_cons_succ, Option.getD_some, List.setIfInBounds_toArray, List.set_cons_zero, List.set_cons_succ])
                | (refine wpS_read (v := ?_) rfl ?_ ?_; rotate_left; (focus (intro w' hG; have q0 := fx w' hG; go_simp; try (with_reducible rfl))); simp only [Act.put, List.setIfInBounds_toArray, List.set_cons_zero, List.set_cons_succ])
                | (refine wpS_skip rfl ?_; simp only [Act.put, List.setIfInBounds_toArray, List.set_cons_zero, List.set_cons_succ]))
              refine wpS_call (f := ?_) (args := ?_) (by rfl) ?_ ?_
              rotate_left 2; focus (go_simp; constructor <;> with_reducible rfl)
              refine (hf).mono ?_
              rintro e w5 ⟨rfl, rfl⟩
              refine ⟨_, rfl, Grow.refl _, ?_⟩
              simp only [Act.put, List.setIfInBounds_toArray, List.set_cons_zero, List.set_cons_succ]
              repeat (first
                | (refine wpS_move rfl ?_; simp only [Act.eval, Act.put, Array.getD_eq_getD_getElem?, List.getElem?_toArray, List.getElem?_cons_zero, List.getElem?_cons_succ, Option.getD_some, List.setIfInBounds_toArray, List.set_cons_zero, List.set_cons_succ])
                | (refine wpS_assign rfl ?_; simp only [Act.eval, Act.put, Array.getD_eq_getD_getElem?, List.getElem?_toArray, List.getElem?_cons_zero, List.getElem?_cons_succ, Option.getD_some, List.setIfInBounds_toArray, List.set_cons_zero, List.set_cons_succ])
                | (refine wpS_read (v := ?_) rfl ?_ ?_; rotate_left; (focus (intro w' hG; have q0 := fx w' hG; go_simp; try (with_reducible rfl))); simp only [Act.put, List.setIfInBounds_toArray, List.set_cons_zero, List.set_cons_succ])
                | (refine wpS_skip rfl ?_; simp only [Act.put, List.setIfInBounds_toArray, List.set_cons_zero, List.set_cons_succ]))
              refine wpS_call (f := ?_) (args := ?_) (by rfl) ?_ ?_
              rotate_left 2; focus (go_simp; constructor <;> with_reducible rfl)
              refine (lives_any wr.drew).mono ?_
              rintro e w6 ⟨rfl, g6⟩
              refine ⟨_, rfl, g6, ?_⟩
              simp only [Act.put, List.setIfInBounds_toArray, List.set_cons_zero, List.set_cons_succ]
              repeat (first
                | (refine wpS_move rfl ?_; simp only [Act.eval, Act.put, Array.getD_eq_getD_getElem?, List.getElem?_toArray, List.getElem?_cons_zero, List.getElem?_cons_succ, Option.getD_some, List.setIfInBounds_toArray, List.set_cons_zero, List.set_cons_succ])
                | (refine wpS_assign rfl ?_; simp only [Act.eval, Act.put, Array.getD_eq_getD_getElem?, List.getElem?_toArray, List.getElem?_cons_zero, List.getElem?_cons_succ, Option.getD_some, List.setIfInBounds_toArray, List.set_cons_zero, List.set_cons_succ])
                | (refine wpS_read (v := ?_) rfl ?_ ?_; rotate_left; (focus (intro w' hG; skip; go_simp; try (with_reducible rfl))); simp only [Act.put, List.setIfInBounds_toArray, List.set_cons_zero, List.set_cons_succ])
                | (refine wpS_skip rfl ?_; simp only [Act.put, List.setIfInBounds_toArray, List.set_cons_zero, List.set_cons_succ]))
              refine wpS_nil ?_
              go_wp2
              go_ret
              exact ⟨rfl, (HW.out.trans gd).trans g6⟩
      · skip
        have hmn : (100 : Int) < (N : Int) := by omega
        obtain ⟨W4, rfl⟩ : ∃ W4, W4 = wr := ⟨_, rfl⟩
        have H4 : Hid (∃ r, FrAt W4 b true false r ((100 : Nat) : Int) 1 z32 ∧ Grow w W4) := by
          obtain ⟨r, F, g⟩ := HI.out
          rw [Nat.min_eq_right (by omega)] at F
          exact ⟨r, F, g⟩
        clear HI
        go_wp2
        go_loopg [10] M (fun k i wr => ∃ j : Nat, k = M - j ∧ j ≤ M ∧ i = .int .i64 j ∧ Hid (∃ r, FrAt wr b true false r ((100 - j : Nat) : Int) 1 z32 ∧ Grow w wr))
        case atStart => exact ⟨0, rfl, Nat.zero_le _, rfl, H4⟩
        case round =>
          obtain ⟨j, hk, hj, rfl, HI⟩ := hrel
          have HK : Hid (gk = M - j) := hk
          clear hk H4
          by_cases hlt : j < M
          · have hlt' : (j : Int) < (M : Int) := by omega
            obtain ⟨r, F, g⟩ := HI.out
            by_cases hC : j < 100
            · have hC' : ¬ (100 : Int) ≤ (j : Int) := by omega
              have e1 : ((100 - j : Nat) : Int) - 1 = ((100 - (j + 1) : Nat) : Int) := by omega
              have hP := unpin_yes wr b _ _ _ _ _ _ F (by omega) (by omega)
              rw [e1] at hP
              have HG1 : Hid (Grow w wr) := g
              clear F g HI e1
              go_wp2_with fail
              refine hP.mono ?_
              rintro e w5 ⟨rfl, F5, u5⟩
              have H5 : Hid (∃ r, FrAt w5 b true false r ((100 - (j + 1) : Nat) : Int) 1 z32 ∧ Grow w w5) := ⟨r, F5, UpdS.new HG1.out u5 (fun i hi => by have := HG.out.2; omega)⟩
              clear F5 u5 hP
              go_wp2
              go_roundg (M - (j + 1))
              case measure => have := HK.out; omega
              case rel => exact ⟨j + 1, rfl, by omega, by go_num, H5⟩
            · have hC' : (100 : Int) ≤ (j : Int) := by omega
              have hP := unpin_no wr b _ _ _ _ _ _ F (by omega)
              have H5 : Hid (∃ r, FrAt wr b true false r ((100 - (j + 1) : Nat) : Int) 1 z32 ∧ Grow w wr) := by
                have e : 100 - (j + 1) = 100 - j := by omega
                rw [e]; exact ⟨r, F, g⟩
              clear F g HI
              go_wp2_with fail
              refine hP.mono ?_
              rintro e w5 ⟨rfl, rfl⟩
              clear hP
              go_wp2
              go_roundg (M - (j + 1))
              case measure => have := HK.out; omega
              case rel => exact ⟨j + 1, rfl, by omega, by go_num, H5⟩
          · have hlt' : ¬ (j : Int) < (M : Int) := by omega
            obtain rfl : M = j := by omega
            obtain ⟨r, F, g⟩ := HI.out
            clear HK hlt HI
            rcases Nat.lt_trichotomy M (100) with hMC | hMC | hMC
            · have e1 : ((100 - M : Nat) : Int) = (100 : Int) - (M : Int) := by omega
              rw [e1] at F
              have hle : decide ((100 : Int) - (M : Int) ≤ 0) = false := decide_eq_false (by omega)
              have hMN : (M : Int) < (100 : Int) := by omega
              clear e1 hMC
              have gd : Grow wr wr.drew := (Grow.refl wr).drew
              have fx : ∀ w', Grow wr.drew w' → w'.cell? ⟨b, 3, none⟩ = some (.int .i64 ((100 : Int) - (M : Int))) := fun w' g' => ((F.grow gd).grow g').five.1.2.2.2.1
              have hf := free_any wr.drew b _ _ _ _ _ _ (F.grow gd)
              rw [hle] at hf
              have HW : Hid (Grow w wr) := g
              clear F g
              go_wp2
              have z1 := eq_true (show (100 : Int) < (N : Int) by omega)
              have z2 : IntKind.i64.wrap ((100 : Int) - (M : Int)) = (100 : Int) - (M : Int) := by rw [IntKind.wrap_i64]; omega
              have z3 := eq_false (show ¬ (100 : Int) - (M : Int) < 0 by omega)
              have z4 : ((100 : Int) - (M : Int) == 0) = false := by rw [beq_eq_false_iff_ne]; omega
              refine wp_region_sched (by kernel_rfl) [(0, false), (1, false), (2, false), (3, false), (4, false), (5, false), (6, false), (7, false), (8, false), (9, false), (10, false), (11, false), (12, false), (13, false), (14, false), (16, false), (17, false), (18, false), (19, false), (20, false), (21, false), (15, true), (22, false), (23, false), (24, false), (25, true), (26, false), (27, false)] (by kernel_rfl) (by kernel_rfl) rfl (fun _ _ d _ _ h => by cases d <;> exact h) ?_
              simp only [inOrder, List.filterMap_cons, List.filterMap_nil, List.getElem?_toArray, List.getElem?_cons_zero, List.getElem?_cons_succ, Option.map_some]
              repeat (first
                | (refine wpS_move rfl ?_; simp only [Act.eval, Act.put, Array.getD_eq_getD_getElem?, List.getElem?_toArray, List.getElem?_cons_zero, List.getElem?_cons_succ, Option.getD_some, List.setIfInBounds_toArray, List.set_cons_zero, List.set_cons_succ])
                | (refine wpS_assign rfl ?_; simp only [Act.eval, Act.put, Array.getD_eq_getD_getElem?, List.getElem?_toArray, List.getElem?_cons_zero, List.getElem?_cons_succ, Option.getD_some, List.setIfInBounds_toArray, List.set_cons_zero, List.set_cons_succ])
                | (refine wpS_read (v := ?_) rfl ?_ ?_; rotate_left; (focus (intro w' hG; have q0 := fx w' hG; go_simp; try (with_reducible rfl))); simp only [Act.put, List.setIfInBounds_toArray, List.set_cons_zero, List.set_cons_succ])
                | (refine wpS_skip rfl ?_; simp only [Act.put, List.setIfInBounds_toArray, List.set_cons_zero, List.set_cons_succ]))
              refine wpS_call (f := ?_) (args := ?_) (by rfl) ?_ ?_
              rotate_left 2; focus (go_simp; constructor <;> with_reducible rfl)
              refine (hf).mono ?_
              rintro e w5 ⟨rfl, rfl⟩
              refine ⟨_, rfl, Grow.refl _, ?_⟩
              simp only [Act.put, List.setIfInBounds_toArray, List.set_cons_zero, List.set_cons_succ]
              repeat (first
                | (refine wpS_move rfl ?_; simp only [Act.eval, Act.put, Array.getD_eq_getD_getElem?, List.getElem?_toArray, List.getElem?_cons_zero, List.getElem?_cons_succ, Option.getD_some, List.setIfInBounds_toArray, List.set_cons_zero, List.set_cons_succ])
                | (refine wpS_assign rfl ?_; simp only [Act.eval, Act.put, Array.getD_eq_getD_getElem?, List.getElem?_toArray, List.getElem?_cons_zero, List.getElem?_cons_succ, Option.getD_some, List.setIfInBounds_toArray, List.set_cons_zero, List.set_cons_succ])
                | (refine wpS_read (v := ?_) rfl ?_ ?_; rotate_left; (focus (intro w' hG; have q0 := fx w' hG; go_simp; try (with_reducible rfl))); simp only [Act.put, List.setIfInBounds_toArray, List.set_cons_zero, List.set_cons_succ])
                | (refine wpS_skip rfl ?_; simp only [Act.put, List.setIfInBounds_toArray, List.set_cons_zero, List.set_cons_succ]))
              refine wpS_call (f := ?_) (args := ?_) (by rfl) ?_ ?_
              rotate_left 2; focus (go_simp; constructor <;> with_reducible rfl)
              refine (lives_any wr.drew).mono ?_
              rintro e w6 ⟨rfl, g6⟩
              refine ⟨_, rfl, g6, ?_⟩
              simp only [Act.put, List.setIfInBounds_toArray, List.set_cons_zero, List.set_cons_succ]
              repeat (first
                | (refine wpS_move rfl ?_; simp only [Act.eval, Act.put, Array.getD_eq_getD_getElem?, List.getElem?_toArray, List.getElem?_cons_zero, List.getElem?_cons_succ, Option.getD_some, List.setIfInBounds_toArray, List.set_cons_zero, List.set_cons_succ])
                | (refine wpS_assign rfl ?_; simp only [Act.eval, Act.put, Array.getD_eq_getD_getElem?, List.getElem?_toArray, List.getElem?_cons_zero, List.getElem?_cons_succ, Option.getD_some, List.setIfInBounds_toArray, List.set_cons_zero, List.set_cons_succ])
                | (refine wpS_read (v := ?_) rfl ?_ ?_; rotate_left; (focus (intro w' hG; skip; go_simp; try (with_reducible rfl))); simp only [Act.put, List.setIfInBounds_toArray, List.set_cons_zero, List.set_cons_succ])
                | (refine wpS_skip rfl ?_; simp only [Act.put, List.setIfInBounds_toArray, List.set_cons_zero, List.set_cons_succ]))
              refine wpS_nil ?_
              go_wp2
              go_ret
              exact ⟨rfl, (HW.out.trans gd).trans g6⟩
            · subst hMC
              have e1 : ((100 - 100 : Nat) : Int) = 0 := by omega
              rw [e1] at F
              clear e1
              have gd : Grow wr wr.drew := (Grow.refl wr).drew
              have fx : ∀ w', Grow wr.drew w' → w'.cell? ⟨b, 3, none⟩ = some (.int .i64 0) := fun w' g' => ((F.grow gd).grow g').five.1.2.2.2.1
              have hf := free_any wr.drew b _ _ _ _ _ _ (F.grow gd)
              rw [show decide ((0 : Int) ≤ 0) = true from rfl] at hf
              have HW : Hid (Grow w wr) := g
              clear F g
              go_wp2
              have z1 := eq_true (show (100 : Int) < (N : Int) by omega)
              refine wp_region_sched (by kernel_rfl) [(0, false), (1, false), (2, false), (3, false), (4, false), (5, false), (6, false), (7, false), (8, false), (9, false), (10, false), (11, false), (12, false), (13, false), (14, false), (16, false), (17, false), (18, false), (19, false), (20, false), (21, false), (15, true), (22, false), (23, false), (24, false), (25, true), (26, false), (27, false)] (by kernel_rfl) (by kernel_rfl) rfl (fun _ _ d _ _ h => by cases d <;> exact h) ?_
              simp only [inOrder, List.filterMap_cons, List.filterMap_nil, List.getElem?_toArray, List.getElem?_cons_zero, List.getElem?_cons_succ, Option.map_some]
              repeat (first
                | (refine wpS_move rfl ?_; simp only [Act.eval, Act.put, Array.getD_eq_getD_getElem?, List.getElem?_toArray, List.getElem?_cons_zero, List.getElem?_cons_succ, Option.getD_some, List.setIfInBounds_toArray, List.set_cons_zero, List.set_cons_succ])
                | (refine wpS_assign rfl ?_; simp only [Act.eval, Act.put, Array.getD_eq_getD_getElem?, List.getElem?_toArray, List.getElem?_cons_zero, List.getElem?_cons_succ, Option.getD_some, List.setIfInBounds_toArray, List.set_cons_zero, List.set_cons_succ])
                | (refine wpS_read (v := ?_) rfl ?_ ?_; rotate_left; (focus (intro w' hG; have q0 := fx w' hG; go_simp; try (with_reducible rfl))); simp only [Act.put, List.setIfInBounds_toArray, List.set_cons_zero, List.set_cons_succ])
                | (refine wpS_skip rfl ?_; simp only [Act.put, List.setIfInBounds_toArray, List.set_cons_zero, List.set_cons_succ]))
              refine wpS_call (f := ?_) (args := ?_) (by rfl) ?_ ?_
              rotate_left 2; focus (go_simp; constructor <;> with_reducible rfl)
              refine (hf).mono ?_
              rintro e w5 ⟨rfl, rfl⟩
              refine ⟨_, rfl, Grow.refl _, ?_⟩
              simp only [Act.put, List.setIfInBounds_toArray, List.set_cons_zero, List.set_cons_succ]
              repeat (first
                | (refine wpS_move rfl ?_; simp only [Act.eval, Act.put, Array.getD_eq_getD_getElem?, List.getElem?_toArray, List.getElem?_cons_zero, List.getElem?_cons_succ, Option.getD_some, List.setIfInBounds_toArray, List.set_cons_zero, List.set_cons_succ])
                | (refine wpS_assign rfl ?_; simp only [Act.eval, Act.put, Array.getD_eq_getD_getElem?, List.getElem?_toArray, List.getElem?_cons_zero, List.getElem?_cons_succ, Option.getD_some, List.setIfInBounds_toArray, List.set_cons_zero, List.set_cons_succ])
                | (refine wpS_read (v := ?_) rfl ?_ ?_; rotate_left; (focus (intro w' hG; have q0 := fx w' hG; go_simp; try (with_reducible rfl))); simp only [Act.put, List.setIfInBounds_toArray, List.set_cons_zero, List.set_cons_succ])
                | (refine wpS_skip rfl ?_; simp only [Act.put, List.setIfInBounds_toArray, List.set_cons_zero, List.set_cons_succ]))
              refine wpS_call (f := ?_) (args := ?_) (by rfl) ?_ ?_
              rotate_left 2; focus (go_simp; constructor <;> with_reducible rfl)
              refine (lives_any wr.drew).mono ?_
              rintro e w6 ⟨rfl, g6⟩
              refine ⟨_, rfl, g6, ?_⟩
              simp only [Act.put, List.setIfInBounds_toArray, List.set_cons_zero, List.set_cons_succ]
              repeat (first
                | (refine wpS_move rfl ?_; simp only [Act.eval, Act.put, Array.getD_eq_getD_getElem?, List.getElem?_toArray, List.getElem?_cons_zero, List.getElem?_cons_succ, Option.getD_some, List.setIfInBounds_toArray, List.set_cons_zero, List.set_cons_succ])
                | (refine wpS_assign rfl ?_; simp only [Act.eval, Act.put, Array.getD_eq_getD_getElem?, List.getElem?_toArray, List.getElem?_cons_zero, List.getElem?_cons_succ, Option.getD_some, List.setIfInBounds_toArray, List.set_cons_zero, List.set_cons_succ])
                | (refine wpS_read (v := ?_) rfl ?_ ?_; rotate_left; (focus (intro w' hG; skip; go_simp; try (with_reducible rfl))); simp only [Act.put, List.setIfInBounds_toArray, List.set_cons_zero, List.set_cons_succ])
                | (refine wpS_skip rfl ?_; simp only [Act.put, List.setIfInBounds_toArray, List.set_cons_zero, List.set_cons_succ]))
              refine wpS_nil ?_
              go_wp2
              go_ret
              exact ⟨rfl, (HW.out.trans gd).trans g6⟩
            · have e1 : ((100 - M : Nat) : Int) = 0 := by omega
              rw [e1] at F
              have hMN : (100 : Int) < (M : Int) := by omega
              clear e1 hMC
              have gd : Grow wr wr.drew := (Grow.refl wr).drew
              have fx : ∀ w', Grow wr.drew w' → w'.cell? ⟨b, 3, none⟩ = some (.int .i64 0) := fun w' g' => ((F.grow gd).grow g').five.1.2.2.2.1
              have hf := free_any wr.drew b _ _ _ _ _ _ (F.grow gd)
              rw [show decide ((0 : Int) ≤ 0) = true from rfl] at hf
              have HW : Hid (Grow w wr) := g
              clear F g
              go_wp2
              have z1 := eq_true (show (100 : Int) < (N : Int) by omega)
              have z2 : IntKind.i64.wrap ((100 : Int) - (M : Int)) = (100 : Int) - (M : Int) := by rw [IntKind.wrap_i64]; omega
              have z3 := eq_true (show (100 : Int) - (M : Int) < 0 by omega)
              refine wp_region_sched (by kernel_rfl) [(0, false), (1, false), (2, false), (3, false), (4, false), (5, false), (6, false), (7, false), (8, false), (9, false), (10, false), (11, false), (12, false), (13, false), (14, false), (16, false), (17, false), (18, false), (19, false), (20, false), (21, false), (15, true), (22, false), (23, false), (24, false), (25, true), (26, false), (27, false)] (by kernel_rfl) (by kernel_rfl) rfl (fun _ _ d _ _ h => by cases d <;> exact h) ?_
              simp only [inOrder, List.filterMap_cons, List.filterMap_nil, List.getElem?_toArray, List.getElem?_cons_zero, List.getElem?_cons_succ, Option.map_some]
              repeat (first
                | (refine wpS_move rfl ?_; simp only [Act.eval, Act.put, Array.getD_eq_getD_getElem?, List.getElem?_toArray, List.getElem?_cons_zero, List.getElem?_cons_succ, Option.getD_some, List.setIfInBounds_toArray, List.set_cons_zero, List.set_cons_succ])
                | (refine wpS_assign rfl ?_; simp only [Act.eval, Act.put, Array.getD_eq_getD_getElem?, List.getElem?_toArray, List.getElem?_cons_zero, List.getElem?_cons_succ, Option.getD_some, List.setIfInBounds_toArray, List.set_cons_zero, List.set_cons_succ])
                | (refine wpS_read (v := ?_) rfl ?_ ?_; rotate_left; (focus (intro w' hG; have q0 := fx w' hG; go_simp; try (with_reducible rfl))); simp only [Act.put, List.setIfInBounds_toArray, List.set_cons_zero, List.set_cons_succ])
                | (refine wpS_skip rfl ?_; simp only [Act.put, List.setIfInBounds_toArray, List.set_cons_zero, List.set_cons_succ]))
              refine wpS_call (f := ?_) (args := ?_) (by rfl) ?_ ?_
              rotate_left 2; focus (go_simp; constructor <;> with_reducible rfl)
              refine (hf).mono ?_
              rintro e w5 ⟨rfl, rfl⟩
              refine ⟨_, rfl, Grow.refl _, ?_⟩
              simp only [Act.put, List.setIfInBounds_toArray, List.set_cons_zero, List.set_cons_succ]
              repeat (first
                | (refine wpS_move rfl ?_; simp only [Act.eval, Act.put, Array.getD_eq_getD_getElem?, List.getElem?_toArray, List.getElem?_cons_zero, List.getElem?_cons_succ, Option.getD_some, List.setIfInBounds_toArray, List.set_cons_zero, List.set_cons_succ])
                | (refine wpS_assign rfl ?_; simp only [Act.eval, Act.put, Array.getD_eq_getD_getElem?, List.getElem?_toArray, List.getElem?_cons_zero, List.getElem?_cons_succ, Option.getD_some, List.setIfInBounds_toArray, List.set_cons_zero, List.set_cons_succ])
                | (refine wpS_read (v := ?_) rfl ?_ ?_; rotate_left; (focus (intro w' hG; have q0 := fx w' hG; go_simp; try (with_reducible rfl))); simp only [Act.put, List.setIfInBounds_toArray, List.set_cons_zero, List.set_cons_succ])
                | (refine wpS_skip rfl ?_; simp only [Act.put, List.setIfInBounds_toArray, List.set_cons_zero, List.set_cons_succ]))
              refine wpS_call (f := ?_) (args := ?_) (by rfl) ?_ ?_
              rotate_left 2; focus (go_simp; constructor <;> with_reducible rfl)
              refine (lives_any wr.drew).mono ?_
              rintro e w6 ⟨rfl, g6⟩
              refine ⟨_, rfl, g6, ?_⟩
              simp only [Act.put, List.setIfInBounds_toArray, List.set_cons_zero, List.set_cons_succ]
              repeat (first
                | (refine wpS_move rfl ?_; simp only [Act.eval, Act.put, Array.getD_eq_getD_getElem?, List.getElem?_toArray, List.getElem?_cons_zero, List.getElem?_cons_succ, Option.getD_some, List.setIfInBounds_toArray, List.set_cons_zero, List.set_cons_succ])
                | (refine wpS_assign rfl ?_; simp only [Act.eval, Act.put, Array.getD_eq_getD_getElem?, List.getElem?_toArray, List.getElem?_cons_zero, List.getElem?_cons_succ, Option.getD_some, List.setIfInBounds_toArray, List.set_cons_zero, List.set_cons_succ])
                | (refine wpS_read (v := ?_) rfl ?_ ?_; rotate_left; (focus (intro w' hG; skip; go_simp; try (with_reducible rfl))); simp only [Act.put, List.setIfInBounds_toArray, List.set_cons_zero, List.set_cons_succ])
                | (refine wpS_skip rfl ?_; simp only [Act.put, List.setIfInBounds_toArray, List.set_cons_zero, List.set_cons_succ]))
              refine wpS_nil ?_
              go_wp2
              go_ret
              exact ⟨rfl, (HW.out.trans gd).trans g6⟩
end Go.Proofs.Ytcmehefaceaioaa
