/-
  The walk of the law ExtentCovers. Conditions: the theorem's own.
-/
import Derived.Test.YtfjfbcgjocpmoaaExtOwn
import Derived.Test.YtfjfbcgjocpmoaaCfgFree
namespace Go.Proofs.Ytfjfbcgjocpmoaa
open Go.RowKit
set_option linter.unusedVariables false
set_option linter.unusedSimpArgs false

set_option maxHeartbeats 8000000 in
theorem extentCovers_walk {p : Nat → Prop} (fr dp se : Int) (v : Value) (ps : List Pt) (w : World) (h : RdP p w v ps) (hok : ∀ x ∈ ps, x.Ok) (hdp : W64 dp) (hse : W64 se) :
    Calls Try.prog 7 #[.agg #[.int .i64 fr, .int .i64 dp, .int .i64 se, v]] w fun e w' => e = .returned (.bool true) ∧ Below w.heap.size w w' := by
  have HG : Hid (Grow w (w.alloc (.cells #[.int .i64 fr, .int .i64 dp, .int .i64 se, v] 24))) := (Grow.refl w).alloc _
  have hgood := fun w' (g : Grow w w') => good_any fr dp se v ps w' (RdS.grow h g) hok hdp hse
  obtain ⟨a, cp, rfl, h1, h2, -⟩ := h
  clear hok hdp hse
  go_enter Try.func7, Try.ntmps7
  go_wp2_with fail
  refine (hgood _ HG.out).mono ?_
  rintro e w2 ⟨fr', dp', se', v', ps', rfl, hG, hR, g2⟩
  obtain ⟨N, rfl⟩ : ∃ N : Nat, se' = N := ⟨se'.toNat, by have := hG.bounds; omega⟩
  have HR : Hid (GoodC fr' dp' N ps' ∧ RdP (fun i => (w.alloc (.cells #[.int .i64 fr, .int .i64 dp, .int .i64 se, .slice a ps.length cp] 24)).heap.size ≤ i) w2 v' ps' ∧ Grow w w2) := ⟨hG, hR, HG.out.trans g2⟩
  have hN : 2 ≤ N ∧ N ≤ 42 := by have := hG.bounds; omega
  have hL : 1 ≤ ps'.length ∧ ps'.length ≤ 4 := by have := hG.bounds; omega
  obtain ⟨a', c', rfl, _, _, -⟩ := hR
  clear hG g2 hgood HG
  have X0 : Hid (VarAt (w2.alloc (.cells #[.int .i64 fr', .int .i64 dp', .int .i64 (N : Int), .slice a' ps'.length c'] 24)) w2.heap.size [.int .i64 fr', .int .i64 dp', .int .i64 (N : Int), .slice a' ps'.length c'] ∧ Grow w2 (w2.alloc (.cells #[.int .i64 fr', .int .i64 dp', .int .i64 (N : Int), .slice a' ps'.length c'] 24))) := ⟨VarAt.new w2 [.int .i64 fr', .int .i64 dp', .int .i64 (N : Int), .slice a' ps'.length c'] _, (Grow.refl w2).alloc _⟩
  go_wp2
  generalize w2.alloc (.cells #[.int .i64 fr', .int .i64 dp', .int .i64 (N : Int), .slice a' ps'.length c'] 24) = w3 at X0 ⊢
  generalize w2.heap.size = b3 at X0 ⊢
  have HV : Hid (RdP (fun i => (w.alloc (.cells #[.int .i64 fr, .int .i64 dp, .int .i64 se, .slice a ps.length cp] 24)).heap.size ≤ i) w3 (.slice a' ps'.length c') ps' ∧ GoodC fr' dp' N ps' ∧ InB ps' ∧ Grow w w3 ∧ VarAt w3 b3 [.int .i64 fr', .int .i64 dp', .int .i64 (N : Int), .slice a' ps'.length c']) := ⟨RdS.grow HR.out.2.1 X0.out.2, HR.out.1, HR.out.1.inb, HR.out.2.2.trans X0.out.2, X0.out.1⟩
  clear X0 HR
  go_loopg [4, 5] N (fun m ov sv wr => ∃ (s n : Nat), m = N - s ∧ s ≤ N ∧ n ≤ s ∧ ov = .int .i64 n ∧ sv = .int .i64 s ∧ Hid (VarAt wr b3 [.int .i64 fr', .int .i64 dp', .int .i64 (N : Int), .slice a' ps'.length c'] ∧ Grow w3 wr ∧ n = cntOwn ps' s))
  case atStart => exact ⟨0, 0, by omega, by omega, by omega, rfl, rfl, HV.out.2.2.2.2, Grow.refl _, rfl⟩
  case round =>
    obtain ⟨s, n, hk, hsN, hns, rfl, rfl, Y⟩ := hrel
    obtain ⟨⟨m0, m1, m2, m3⟩, -⟩ := Y.out.1.four
    by_cases hst : s < N
    · have hle : (s : Int) < (N : Int) := by omega
      have HK : Hid (s < N ∧ gk = N - s ∧ n ≤ s) := ⟨hst, hk, hns⟩
      have hw1 : IntKind.i64.wrap ((s : Int) + 1) = (s : Int) + 1 := by rw [IntKind.wrap_i64]; omega
      have hw2 : IntKind.i64.wrap ((n : Int) + 1) = (n : Int) + 1 := by rw [IntKind.wrap_i64]; omega
      have how := owner_any fr' dp' N s _ ps' wr (RdS.grow HV.out.1 Y.out.2.1) HV.out.2.2.1
      have HC : Hid (cntOwn ps' (s + 1) = cntOwn ps' s + (if (ownS ps' (s : Int)).is = true then 1 else 0)) := cntOwn_next ps' s
      generalize ownS ps' (s : Int) = o at how HC
      obtain ⟨ot, og, ok, ois⟩ := o
      clear hk hst hsN hns
      cases ois with
      | true =>
        have HC2 : Hid (n + 1 = cntOwn ps' (s + 1)) := by rw [HC.out, ← Y.out.2.2]; exact rfl
        go_wp2_with fail
        refine how.mono ?_
        rintro e w4 ⟨rfl, g4⟩
        have W : Hid (VarAt w4 b3 [.int .i64 fr', .int .i64 dp', .int .i64 (N : Int), .slice a' ps'.length c'] ∧ Grow w3 w4) := ⟨Y.out.1.grow g4, Y.out.2.1.trans g4⟩
        clear g4 how m0 m1 m2 m3
        go_wp2
        go_roundg (N - (s + 1))
        case measure => have := HK.out; omega
        case rel => exact ⟨s + 1, n + 1, rfl, HK.out.1, by have := HK.out; omega, by go_num, by go_num, W.out.1, W.out.2, HC2.out⟩
      | false =>
        have HC2 : Hid (n = cntOwn ps' (s + 1)) := by rw [HC.out, ← Y.out.2.2]; exact rfl
        go_wp2_with fail
        refine how.mono ?_
        rintro e w4 ⟨rfl, g4⟩
        have W : Hid (VarAt w4 b3 [.int .i64 fr', .int .i64 dp', .int .i64 (N : Int), .slice a' ps'.length c'] ∧ Grow w3 w4) := ⟨Y.out.1.grow g4, Y.out.2.1.trans g4⟩
        clear g4 how m0 m1 m2 m3
        go_wp2
        go_roundg (N - (s + 1))
        case measure => have := HK.out; omega
        case rel => exact ⟨s + 1, n, rfl, HK.out.1, by have := HK.out; omega, rfl, by go_num, W.out.1, W.out.2, HC2.out⟩
    · have hle : ¬ (s : Int) < (N : Int) := by omega
      obtain rfl : s = N := by omega
      have hfr := fun w' (g : Grow w3 w') => rfree_any fr' dp' s _ ps' w' (RdS.grow HV.out.1 g) HV.out.2.1
      have hgs := HV.out.2.1.owned
      rw [Int.toNat_natCast, ← Y.out.2.2] at hgs
      obtain ⟨F, hF⟩ : ∃ F, F = (s : Int) - gsum ps' := ⟨_, rfl⟩
      rw [← hF] at hfr
      have hw1 : IntKind.i64.wrap ((s : Int) - F) = (n : Int) := by rw [IntKind.wrap_i64, hF]; omega
      have kx : ∀ w', Grow wr.drew w' → VarAt w' b3 [.int .i64 fr', .int .i64 dp', .int .i64 (s : Int), .slice a' ps'.length c'] := fun w' h => Y.out.1.grow ((Grow.refl wr).drew.trans h)
      clear hk hsN hns hst hgs hF
      go_wp2
      clear m0 m1 m2 m3
      refine wp_region_sched (by kernel_rfl) [(0, false), (1, false), (2, false), (3, false), (4, true), (5, false), (6, false), (7, false), (8, true), (9, false), (10, false)] (by kernel_rfl) (by kernel_rfl) rfl (fun _ _ d _ _ h => by cases d <;> exact h) ?_
      simp only [inOrder, List.filterMap_cons, List.filterMap_nil, List.getElem?_toArray, List.getElem?_cons_zero, List.getElem?_cons_succ, Option.map_some]
      repeat (first
        | (refine wpS_move rfl ?_; simp only [Act.eval, Act.put, Array.getD_eq_getD_getElem?, List.getElem?_toArray, List.getElem?_cons_zero, List.getElem?_cons_succ, Option.getD_some, List.setIfInBounds_toArray, List.set_cons_zero, List.set_cons_succ])
        | (refine wpS_assign rfl ?_; simp only [Act.eval, Act.put, Array.getD_eq_getD_getElem?, List.getElem?_toArray, List.getElem?_cons_zero, List.getElem?_cons_succ, Option.getD_some, List.setIfInBounds_toArray, List.set_cons_zero, List.set_cons_succ])
        | (refine wpS_read (v := ?_) rfl ?_ ?_; rotate_left; (focus (intro w' hG; obtain ⟨⟨k0, k1, k2, k3⟩, -⟩ := (kx w' hG).four; go_simp; try (with_reducible rfl))); simp only [Act.put, List.setIfInBounds_toArray, List.set_cons_zero, List.set_cons_succ])
        | (refine wpS_skip rfl ?_; simp only [Act.put, List.setIfInBounds_toArray, List.set_cons_zero, List.set_cons_succ]))
      refine wpS_call (f := ?_) (args := ?_) (by rfl) ?_ ?_
      rotate_left 2; focus (go_simp; constructor <;> with_reducible rfl)
      refine (hfr wr.drew (Y.out.2.1.trans (Grow.refl wr).drew)).mono ?_
      rintro e w4 ⟨rfl, g4⟩
      refine ⟨_, rfl, g4, ?_⟩
      simp only [Act.put, List.setIfInBounds_toArray, List.set_cons_zero, List.set_cons_succ]
      repeat (first
        | (refine wpS_move rfl ?_; simp only [Act.eval, Act.put, Array.getD_eq_getD_getElem?, List.getElem?_toArray, List.getElem?_cons_zero, List.getElem?_cons_succ, Option.getD_some, List.setIfInBounds_toArray, List.set_cons_zero, List.set_cons_succ])
        | (refine wpS_assign rfl ?_; simp only [Act.eval, Act.put, Array.getD_eq_getD_getElem?, List.getElem?_toArray, List.getElem?_cons_zero, List.getElem?_cons_succ, Option.getD_some, List.setIfInBounds_toArray, List.set_cons_zero, List.set_cons_succ])
        | (refine wpS_read (v := ?_) rfl ?_ ?_; rotate_left; (focus (intro w' hG; skip; go_simp; try (with_reducible rfl))); simp only [Act.put, List.setIfInBounds_toArray, List.set_cons_zero, List.set_cons_succ])
        | (refine wpS_skip rfl ?_; simp only [Act.put, List.setIfInBounds_toArray, List.set_cons_zero, List.set_cons_succ]))
      refine wpS_call (f := ?_) (args := ?_) (by rfl) ?_ ?_
      rotate_left 2; focus (go_simp; constructor <;> with_reducible rfl)
      refine (lives_any w4).mono ?_
      rintro e w5 ⟨rfl, g5⟩
      refine ⟨_, rfl, g5, ?_⟩
      simp only [Act.put, List.setIfInBounds_toArray, List.set_cons_zero, List.set_cons_succ]
      repeat (first
        | (refine wpS_move rfl ?_; simp only [Act.eval, Act.put, Array.getD_eq_getD_getElem?, List.getElem?_toArray, List.getElem?_cons_zero, List.getElem?_cons_succ, Option.getD_some, List.setIfInBounds_toArray, List.set_cons_zero, List.set_cons_succ])
        | (refine wpS_assign rfl ?_; simp only [Act.eval, Act.put, Array.getD_eq_getD_getElem?, List.getElem?_toArray, List.getElem?_cons_zero, List.getElem?_cons_succ, Option.getD_some, List.setIfInBounds_toArray, List.set_cons_zero, List.set_cons_succ])
        | (refine wpS_read (v := ?_) rfl ?_ ?_; rotate_left; (focus (intro w' hG; skip; go_simp; try (with_reducible rfl))); simp only [Act.put, List.setIfInBounds_toArray, List.set_cons_zero, List.set_cons_succ])
        | (refine wpS_skip rfl ?_; simp only [Act.put, List.setIfInBounds_toArray, List.set_cons_zero, List.set_cons_succ]))
      refine wpS_nil ?_
      go_wp2
      go_ret
      exact ⟨rfl, (((HV.out.2.2.2.1.trans Y.out.2.1).trans (Grow.refl wr).drew).trans g4).trans g5⟩
end Go.Proofs.Ytfjfbcgjocpmoaa
