/-
  The walk of the law of steps. Conditions: each theorem's own.
-/
import Derived.Test.YtpmmlocigaehnaaDoorPlnL
namespace Go.Proofs.YtpmmlocigaehnaaDoor
open Go.RowKit
set_option linter.unusedVariables false
set_option linter.unusedSimpArgs false

/-- s[:q] of integers -/
theorem slice_toI {B : Nat} {w : World} {a : Option Addr} {n c : Nat} {zs : List Int} (h : Rd .i64 B w (.slice a n c) zs) (q : Nat) (hq : q ≤ zs.length) (m : Int) (hm : m = (q : Int)) :
    ∀ u, (Instr.slice 22 (.slice a n c) none (some (.int .i64 m)) none).run Tryd.prog u = .ok (.slice a q c) u := fun u => by
  subst hm
  have hcap := Rd.caps h
  have h0 : (0 : Int) ≤ (q : Int) := by omega
  have h1 : (q : Int) ≤ (c : Int) := by omega
  have h2 := run_slice_h (P := Tryd.prog) u 22 a n c (by kernel_rfl) .i64 (q : Int) h0 h1
  rw [h2]
  clear h2 h hcap hq
  cases a with
  | none => go_simp
  | some a =>
    by_cases hc : c = 0
    · go_simp
    · go_simp

theorem take_min (z : List Int) (m : Nat) : z.take (z.take m).length = z.take m := by
  rw [List.length_take]
  by_cases h : m ≤ z.length
  · rw [Nat.min_eq_left h]
  · rw [Nat.min_eq_right (by omega), List.take_length, List.take_of_length_le (by omega)]
/-- the first m of a row -/
theorem first_few {B : Nat} {w : World} {a : Option Addr} {n c : Nat} {z : List Int} (hz : Rd .i64 B w (.slice a n c) z) (m : Nat) (mi : Int) (hmi : mi = (m : Int)) : Rd .i64 B w (.slice a (z.take m).length c) (z.take m) ∧ (z.take m).length ≤ m ∧
    ∀ u, (Instr.slice 22 (.slice a n c) none (some (.int .i64 (min (n : Int) mi))) none).run Tryd.prog u = .ok (.slice a (z.take m).length c) u := by
  subst hmi
  obtain ⟨hn, hnc, hcm⟩ := hz.caps
  have hl : (z.take m).length ≤ z.length := by rw [List.length_take]; omega
  have := hz.take (z.take m).length hl
  rw [take_min] at this
  exact ⟨this, List.length_take_le _ _, slice_toI hz _ hl _ (by rw [List.length_take]; omega)⟩

set_option maxHeartbeats 8000000 in
theorem planSteps_walk (p old : Int) (d : Bool) (a : Option Addr) (n c : Nat) (z : List Int) (W : World) (hT : Tab W) (wp : (Lit.int .i64 p).wf = true) (wo : (Lit.int .i64 old).wf = true) (hz : Rd .i64 W.heap.size W (.slice a n c) z) :
    Calls Tryd.prog 3 #[.int .i64 p, .int .i64 old, .bool d, .slice a n c] W fun e w' => e = .returned (.bool true) ∧ Grow W w' := by
  obtain ⟨hr, hK6, hs⟩ := first_few hz 6 6 rfl
  generalize z.take 6 = K at hr hK6 hs
  have HR := hid (And.intro hr hK6)
  have k1 := hid (fun u : World => loads_any p u)
  have k2 := hid (fun u : World => rpages_any 1 (some ⟨u.heap.size, 0, none⟩) 1 [p] (u.alloc (.cells #[.int .i64 p] 3)) (rd_one u p 3) (by rw [World.size_alloc]; exact Nat.le_refl _) (by simp))
  have k3 := hid (fun (u : World) (g : Grow W u) => stores_any a c K u (grow_rd HR.out.1 g (Nat.le_refl _)) g.size (by have := HR.out.2; omega))
  have k4 := hid (fun (u : World) (g : Grow W u) => rpages_any 2 a c K u (grow_rd HR.out.1 g (Nat.le_refl _)) g.size (by have := HR.out.2; omega))
  have k5 := hid (fun u : World => fetch_any p d old u)
  have k6 := hid (fun u : World => rfetch_any p d old u)
  have k7 := hid (fun (u : World) (g : Grow W u) => flush_any a c K u (grow_rd HR.out.1 g (Nat.le_refl _)) g.size (by have := HR.out.2; omega))
  have k8 := hid (fun (u : World) (g : Grow W u) => rflush_any a c K u (grow_rd HR.out.1 g (Nat.le_refl _)) g.size (by have := HR.out.2; omega))
  have k9 := hid (fun (u : World) (g : Grow W u) => lives_any u (hT.grow g))
  clear hz hr hK6 hT wp wo
  generalize K.length = q at hs k3 k4 k7 k8
  go_enter Tryd.func3, Tryd.ntmps3
  go_wp2_with fail
  clear hs
  refine (k1.out W).mono ?_
  rintro e w1 ⟨v1, rfl, o1, g1⟩
  have H1 := hid (And.intro o1 g1)
  clear o1 g1
  go_wp2_with fail
  refine (k2.out w1).mono ?_
  rintro e w2 ⟨v2, rfl, o2, g2⟩
  have H2 := hid (And.intro (And.intro (H1.out.1.grow (((Grow.refl w1).alloc _).trans g2)).rd (pgsL_one 1 p ▸ o2.rd)) (H1.out.2.trans (((Grow.refl w1).alloc _).trans g2)))
  clear o2 g2 H1
  go_wp2_with fail
  refine (same_any v1 v2 (pgL 1 p) w2 H2.out.1.1 H2.out.1.2).mono ?_
  rintro e w3 ⟨rfl, g3⟩
  have HG := hid (H2.out.2.trans g3)
  clear g3 H2
  go_wp2_with fail
  refine (k3.out w3 HG.out).mono ?_
  rintro e w4 ⟨v3, rfl, o4, g4⟩
  have H4 := hid (And.intro o4 (HG.out.trans g4))
  clear o4 g4 HG
  go_wp2_with fail
  refine (k4.out w4 H4.out.2).mono ?_
  rintro e w5 ⟨v4, rfl, o5, g5⟩
  have H5 := hid (And.intro (And.intro (H4.out.1.grow g5).rd o5.rd) (H4.out.2.trans g5))
  clear o5 g5 H4
  go_wp2_with fail
  refine (same_any v3 v4 (pgsL 2 K) w5 H5.out.1.1 H5.out.1.2).mono ?_
  rintro e w6 ⟨rfl, g6⟩
  have HG := hid (H5.out.2.trans g6)
  clear g6 H5
  go_wp2_with fail
  refine (k5.out w6).mono ?_
  rintro e w7 ⟨v5, rfl, o7, g7⟩
  have H7 := hid (And.intro o7 (HG.out.trans g7))
  clear o7 g7 HG
  go_wp2_with fail
  refine (k6.out w7).mono ?_
  rintro e w8 ⟨v6, rfl, o8, g8⟩
  have H8 := hid (And.intro (And.intro (H7.out.1.grow g8).rd o8.rd) (H7.out.2.trans g8))
  clear o8 g8 H7
  go_wp2_with fail
  refine (same_any v5 v6 (feL p d old) w8 H8.out.1.1 H8.out.1.2).mono ?_
  rintro e w9 ⟨rfl, g9⟩
  have HG := hid (H8.out.2.trans g9)
  clear g9 H8
  go_wp2_with fail
  refine (k7.out w9 HG.out).mono ?_
  rintro e w10 ⟨v7, rfl, o10, g10⟩
  have H10 := hid (And.intro o10 (HG.out.trans g10))
  clear o10 g10 HG
  go_wp2_with fail
  refine (k8.out w10 H10.out.2).mono ?_
  rintro e w11 ⟨v8, rfl, o11, g11⟩
  have H11 := hid (And.intro (And.intro (H10.out.1.grow g11).rd o11.rd) (H10.out.2.trans g11))
  clear o11 g11 H10
  go_wp2_with fail
  refine (same_any v7 v8 (flL K) w11 H11.out.1.1 H11.out.1.2).mono ?_
  rintro e w12 ⟨rfl, g12⟩
  have HG := hid (H11.out.2.trans g12)
  clear g12 H11
  go_wp2_with fail
  refine (k9.out w12 HG.out).mono ?_
  rintro e w13 ⟨rfl, g13⟩
  have HF := hid (HG.out.trans g13)
  clear g13 HG
  go_wp2
  go_ret
  exact ⟨rfl, HF.out⟩
end Go.Proofs.YtpmmlocigaehnaaDoor
