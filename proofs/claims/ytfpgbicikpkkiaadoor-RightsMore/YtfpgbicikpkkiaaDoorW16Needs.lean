/-
  The walks of RightsNeeds and RightsMore. Conditions: each theorem's own.
-/
import Derived.Test.YtfpgbicikpkkiaaDoorRigL
namespace Go.Proofs.YtfpgbicikpkkiaaDoor
open Go.RowKit
set_option linter.unusedVariables false
set_option linter.unusedSimpArgs false

theorem lit_three (w : World) (t : TypeId) (x y z : Int) : RdV (Value.int .i64) 0 (fun i => i = w.heap.size) (w.alloc (.cells #[.int .i64 x, .int .i64 y, .int .i64 z] t)) (.slice (some ⟨w.heap.size, 0, none⟩) 3 3) [x, y, z] :=
  ⟨_, 3, rfl, Nat.le_refl _, by decide, fun i hi => ⟨w.heap.size, 0, rfl, rfl, by
    rw [Nat.zero_add]
    refine (World.cell?_alloc_new w _ _ i).trans ?_
    rcases (show i = 0 ∨ i = 1 ∨ i = 2 by simp at hi; omega) with rfl | rfl | rfl <;> rfl⟩⟩

set_option maxHeartbeats 2000000 in
theorem rightsNeeds_walk (n : Int) (w : World) (hw : WT w) (hn : (Lit.int .i64 n).wf = true) : Calls Tryd.prog 5 #[.int .i64 n] w fun e w' => e = .returned (.bool true) ∧ Grow w w' := by
  have har := around_any n 11 w hn (by omega) (by omega)
  generalize around n 11 = r at har
  have hrd := lit_three w 3 n r (-1)
  have hg : Grow w (w.alloc (.cells #[.int .i64 n, .int .i64 r, .int .i64 (-1)] 3)) := (Grow.refl w).alloc _
  have HW : Hid (WT w) := hw
  clear hn hw
  go_enter Tryd.func5, Tryd.ntmps5
  go_wp2_with fail
  refine har.mono ?_
  rintro e w1 ⟨rfl, rfl⟩
  clear har
  go_wp2
  generalize w.alloc (.cells #[.int .i64 n, .int .i64 r, .int .i64 (-1)] 3) = W1 at *
  have HR : Hid (RdV (Value.int .i64) 0 (fun i => i = w.heap.size) W1 (.slice (some ⟨w.heap.size, 0, none⟩) 3 3) [n, r, -1] ∧ Grow w W1) := ⟨hrd, hg⟩
  clear hrd hg
  go_loopg [4] 3 (fun k i wr => ∃ j : Nat, k = 3 - j ∧ j ≤ 3 ∧ i = .int .i64 j ∧ Hid (Grow W1 wr))
  case atStart => exact ⟨0, rfl, Nat.zero_le _, rfl, Grow.refl _⟩
  case round =>
    obtain ⟨j, hk, hj, rfl, HG⟩ := hrel
    by_cases hlt : j < 3
    · have hlt' : (j : Int) < 3 := by omega
      have HJ : Hid (j < 3 ∧ gk = 3 - j) := ⟨hlt, hk⟩
      obtain ⟨bb, oo, e1, -, hc⟩ := (HR.out.1.grow HG.out).addr (by simp)
      injection e1 with e1
      injection e1 with e1 e2
      subst e1 e2
      have f1 := hc j hlt
      rw [Nat.zero_add] at f1
      generalize ([n, r, -1] : List Int).getD j 0 = y at f1
      have h1 := needs_any y wr
      have h2 := rneeds_any y wr
      clear hc hk hj hlt
      by_cases hz : ndS y = 0
      · rw [hz, decide_eq_false (Nat.lt_irrefl 0)] at h1
        rw [hz] at h2
        clear hz
        go_wp2_with fail
        refine h1.mono ?_
        rintro e w1 ⟨rfl, rfl⟩
        go_wp2_with fail
        refine h2.mono ?_
        rintro e w2 ⟨rfl, g2⟩
        go_wp2
        go_roundg (3 - (j + 1))
        case measure => have := HJ.out; omega
        case rel => exact ⟨j + 1, rfl, HJ.out.1, by go_num, HG.out.trans g2⟩
      · have hp : 0 < ndS y := by omega
        rw [decide_eq_true hp] at h1
        generalize ndS y = q at h1 h2 hp
        have hq : 0 < (q : Int) := by omega
        clear hz
        go_wp2_with fail
        refine h1.mono ?_
        rintro e w1 ⟨rfl, rfl⟩
        go_wp2_with fail
        refine h2.mono ?_
        rintro e w2 ⟨rfl, g2⟩
        go_wp2
        go_roundg (3 - (j + 1))
        case measure => have := HJ.out; omega
        case rel => exact ⟨j + 1, rfl, HJ.out.1, by go_num, HG.out.trans g2⟩
    · obtain rfl : 3 = j := by omega
      have hG : Hid (Grow w wr) := HR.out.2.trans HG.out
      have hl := lives_any wr (HW.out.grow hG.out)
      clear HR hlt hj hk
      go_wp2_with fail
      refine hl.mono ?_
      rintro e w2 ⟨rfl, g2⟩
      go_wp2
      go_ret
      exact ⟨rfl, hG.out.trans g2⟩

set_option maxHeartbeats 2000000 in
theorem rightsMore_walk (a b op : Int) (w : World) (hw : WT w) (ha : (Lit.int .i64 a).wf = true) (hb : (Lit.int .i64 b).wf = true) (ho : (Lit.int .i64 op).wf = true) :
    Calls Tryd.prog 7 #[.int .i64 a, .int .i64 b, .int .i64 op] w fun e w' => e = .returned (.bool true) ∧ Grow w w' := by
  have h1 := fun u => around_any a 16 u ha (by omega) (by omega)
  have h2 := fun u => around_any b 16 u hb (by omega) (by omega)
  have h3 := fun u => around_any op 9 u ho (by omega) (by omega)
  have b1 := around_bd a 16 (by omega)
  have b2 := around_bd b 16 (by omega)
  generalize around a 16 = x0 at h1 b1
  generalize around b 16 = y0 at h2 b2
  generalize around op 9 = q at h3
  obtain ⟨x, rfl⟩ := Int.eq_ofNat_of_zero_le b1.1
  obtain ⟨y, rfl⟩ := Int.eq_ofNat_of_zero_le b2.1
  have hx : x < 16 := by omega
  have hy : y < 16 := by omega
  have h4 := of_any _ _ _ _ (of_lit2 w 23 x y) (by
    intro z hz
    simp only [List.mem_cons, List.not_mem_nil, or_false] at hz
    rcases hz with rfl | rfl <;> assumption)
  have eo : orL [x, y] = x ||| y := by simp [orL]
  rw [eo] at h4
  have g1 : Grow w (w.alloc (.cells #[.int .i64 x, .int .i64 y] 23)) := (Grow.refl w).alloc _
  have hz := or_lt16 hx hy
  have h5 := fun u => needs_any q u
  have hn := ndS_lt q
  generalize ndS q = n at h5 hn
  have k1 := fun u => has_any (x ||| y) x u hz hx
  rw [has_or x hx y hy] at k1
  have k2 := fun u => has_any x n u hx hn
  have k3 := fun u => has_any (x ||| y) n u hz hn
  have k4 : ∀ u, Calls Tryd.prog 13 #[.int .i64 15, .int .i64 ((x ||| y : Nat) : Int)] u fun e w' => e = .returned (.bool (hasB 15 (x ||| y))) ∧ u = w' := fun u => has_any 15 (x ||| y) u (by omega) hz
  rw [has_15 _ hz] at k4
  have HM : Hid (hasB x n = true → hasB (x ||| y) n = true) := has_more x hx y hy n hn
  have HW : Hid (WT w ∧ Grow w (w.alloc (.cells #[.int .i64 x, .int .i64 y] 23))) := ⟨hw, g1⟩
  generalize x ||| y = z at *
  generalize decide (0 < n) = dn at h5
  clear ha hb ho b1 b2 hx hy hz hn hw g1 eo
  go_enter Tryd.func7, Tryd.ntmps7
  go_wp2_with fail
  refine (h1 w).mono ?_
  rintro e w1 ⟨rfl, rfl⟩
  go_wp2_with fail
  refine (h2 w).mono ?_
  rintro e w1 ⟨rfl, rfl⟩
  clear h1 h2
  go_wp2_with fail
  refine h4.mono ?_
  rintro e w1 ⟨rfl, rfl⟩
  clear h4
  generalize w.alloc (.cells #[.int .i64 x, .int .i64 y] 23) = W1 at *
  go_wp2_with fail
  refine (h3 W1).mono ?_
  rintro e w1 ⟨rfl, rfl⟩
  go_wp2_with fail
  refine (h5 W1).mono ?_
  rintro e w1 ⟨rfl, rfl⟩
  go_wp2_with fail
  refine (k1 W1).mono ?_
  rintro e w1 ⟨rfl, rfl⟩
  clear h3 h5 k1
  go_wp2_with fail
  refine (k2 W1).mono ?_
  rintro e w1 ⟨rfl, rfl⟩
  clear k2
  cases hb : hasB x n
  · go_wp2_with fail
    refine (all_any W1).mono ?_
    rintro e w2 ⟨rfl, g2⟩
    have G2 : Hid (Grow w w2) := HW.out.2.trans g2
    go_wp2_with fail
    refine (k4 w2).mono ?_
    rintro e w3 ⟨rfl, rfl⟩
    go_wp2_with fail
    refine (lives_any w2 (HW.out.1.grow G2.out)).mono ?_
    rintro e w3 ⟨rfl, g3⟩
    go_wp2
    go_ret
    exact ⟨rfl, G2.out.trans g3⟩
  · have hz := HM.out hb
    rw [hz] at k3
    clear hz
    go_wp2_with fail
    refine (k3 W1).mono ?_
    rintro e w1 ⟨rfl, rfl⟩
    go_wp2_with fail
    refine (all_any W1).mono ?_
    rintro e w2 ⟨rfl, g2⟩
    have G2 : Hid (Grow w w2) := HW.out.2.trans g2
    go_wp2_with fail
    refine (k4 w2).mono ?_
    rintro e w3 ⟨rfl, rfl⟩
    go_wp2_with fail
    refine (lives_any w2 (HW.out.1.grow G2.out)).mono ?_
    rintro e w3 ⟨rfl, g3⟩
    go_wp2
    go_ret
    exact ⟨rfl, G2.out.trans g3⟩
end Go.Proofs.YtfpgbicikpkkiaaDoor
