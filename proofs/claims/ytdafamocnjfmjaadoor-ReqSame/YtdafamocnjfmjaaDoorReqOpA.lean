/-
  The walk of operations: what each names, told by closures that stand in an array. Conditions: each theorem's own.
-/
import Derived.Test.YtdafamocnjfmjaaDoorReqOps
namespace Go.Proofs.YtdafamocnjfmjaaDoor
open Go.RowKit
set_option linter.unusedVariables false
set_option linter.unusedSimpArgs false

set_option maxRecDepth 8000 in
set_option maxHeartbeats 4000000 in
theorem operations_any (w : World) : Calls Tryd.prog 26 #[] w fun e w' => ∃ b1 b2 b3 b4 b5 b6 b7 b8, e = .returned (.agg #[.nilFunc, clo b1, clo b2, clo b3, clo b4, clo b5, clo b6, clo b7, clo b8]) ∧ (NamesAt (fun i => w.heap.size < i) w' b1 (nsOf 1) ∧ NamesAt (fun i => w.heap.size < i) w' b2 (nsOf 2) ∧ NamesAt (fun i => w.heap.size < i) w' b3 (nsOf 3) ∧ NamesAt (fun i => w.heap.size < i) w' b4 (nsOf 4) ∧ NamesAt (fun i => w.heap.size < i) w' b5 (nsOf 5) ∧ NamesAt (fun i => w.heap.size < i) w' b6 (nsOf 6) ∧ NamesAt (fun i => w.heap.size < i) w' b7 (nsOf 7) ∧ NamesAt (fun i => w.heap.size < i) w' b8 (nsOf 8)) ∧ Grow w w' := by
  have HX : Hid (VarAt (w.alloc (.cells #[.nilFunc, .nilFunc, .nilFunc, .nilFunc, .nilFunc, .nilFunc, .nilFunc, .nilFunc, .nilFunc] 52)) w.heap.size [.nilFunc, .nilFunc, .nilFunc, .nilFunc, .nilFunc, .nilFunc, .nilFunc, .nilFunc, .nilFunc] ∧ Grow w (w.alloc (.cells #[.nilFunc, .nilFunc, .nilFunc, .nilFunc, .nilFunc, .nilFunc, .nilFunc, .nilFunc, .nilFunc] 52))) := ⟨VarAt.new w _ _, (Grow.refl w).alloc _⟩
  go_enter Tryd.func26, Tryd.ntmps26
  go_wp2_with fail
  refine (naming_any _ (fun i => w.heap.size < i) _ _ (lit1 (w.alloc (.cells #[.nilFunc, .nilFunc, .nilFunc, .nilFunc, .nilFunc, .nilFunc, .nilFunc, .nilFunc, .nilFunc] 52)) 55 0 _ (fun i => w.heap.size < i) (by simp) (by show w.heap.size < _; simp; try omega)) (by show w.heap.size < _; simp; try omega)).mono ?_
  rintro e w1 ⟨rfl, n1, g1⟩
  have gg1 : Grow (w.alloc (.cells #[.nilFunc, .nilFunc, .nilFunc, .nilFunc, .nilFunc, .nilFunc, .nilFunc, .nilFunc, .nilFunc] 52)) w1 := ((Grow.refl _).alloc _).trans g1
  generalize (World.alloc (w.alloc (.cells #[.nilFunc, .nilFunc, .nilFunc, .nilFunc, .nilFunc, .nilFunc, .nilFunc, .nilFunc, .nilFunc] 52)) (.cells #[.int .i64 0] 55)).heap.size = b1 at n1 ⊢
  have HN1 : Hid (NamesAt (fun i => w.heap.size < i) w1 b1 (nsOf 1)) := n1
  have HV1 : Hid (VarAt w1 w.heap.size [.nilFunc, .nilFunc, .nilFunc, .nilFunc, .nilFunc, .nilFunc, .nilFunc, .nilFunc, .nilFunc] ∧ Grow w w1) := ⟨(HX.out).1.grow gg1, (HX.out).2.trans gg1⟩
  clear n1 g1 gg1
  have HB1 : w.heap.size < w1.heap.size := HV1.out.1.lt
  go_wp2_with fail
  refine (naming_any _ (fun i => w.heap.size < i) _ _ (lit3 w1 55 0 1 2 _ (fun i => w.heap.size < i) (by simp) (show w.heap.size < w1.heap.size from by have := HB1; omega)) (by show w.heap.size < _; have := HB1; simp; try omega)).mono ?_
  rintro e w2 ⟨rfl, n2, g2⟩
  have gg2 : Grow w1 w2 := ((Grow.refl _).alloc _).trans g2
  generalize (World.alloc w1 (.cells #[.int .i64 0, .int .i64 1, .int .i64 2] 55)).heap.size = b2 at n2 ⊢
  have HN2 : Hid (NamesAt (fun i => w.heap.size < i) w2 b1 (nsOf 1) ∧ NamesAt (fun i => w.heap.size < i) w2 b2 (nsOf 2)) := ⟨(HN1.out).grow gg2, n2⟩
  clear HN1
  have HV2 : Hid (VarAt w2 w.heap.size [.nilFunc, .nilFunc, .nilFunc, .nilFunc, .nilFunc, .nilFunc, .nilFunc, .nilFunc, .nilFunc] ∧ Grow w w2) := ⟨(HV1.out).1.grow gg2, (HV1.out).2.trans gg2⟩
  clear n2 g2 gg2 HV1
  have HB2 : w.heap.size < w2.heap.size := HV2.out.1.lt
  go_wp2_with fail
  refine (naming_any _ (fun i => w.heap.size < i) _ _ (lit3 w2 55 0 1 3 _ (fun i => w.heap.size < i) (by simp) (show w.heap.size < w2.heap.size from by have := HB2; omega)) (by show w.heap.size < _; have := HB2; simp; try omega)).mono ?_
  rintro e w3 ⟨rfl, n3, g3⟩
  have gg3 : Grow w2 w3 := ((Grow.refl _).alloc _).trans g3
  generalize (World.alloc w2 (.cells #[.int .i64 0, .int .i64 1, .int .i64 3] 55)).heap.size = b3 at n3 ⊢
  have HN3 : Hid (NamesAt (fun i => w.heap.size < i) w3 b1 (nsOf 1) ∧ NamesAt (fun i => w.heap.size < i) w3 b2 (nsOf 2) ∧ NamesAt (fun i => w.heap.size < i) w3 b3 (nsOf 3)) := ⟨(HN2.out.1).grow gg3, (HN2.out.2).grow gg3, n3⟩
  clear HN2
  have HV3 : Hid (VarAt w3 w.heap.size [.nilFunc, .nilFunc, .nilFunc, .nilFunc, .nilFunc, .nilFunc, .nilFunc, .nilFunc, .nilFunc] ∧ Grow w w3) := ⟨(HV2.out).1.grow gg3, (HV2.out).2.trans gg3⟩
  clear n3 g3 gg3 HV2
  have HB3 : w.heap.size < w3.heap.size := HV3.out.1.lt
  go_wp2_with fail
  refine (naming_any _ (fun i => w.heap.size < i) _ _ (lit1 w3 55 0 _ (fun i => w.heap.size < i) (by simp) (show w.heap.size < w3.heap.size from by have := HB3; omega)) (by show w.heap.size < _; have := HB3; simp; try omega)).mono ?_
  rintro e w4 ⟨rfl, n4, g4⟩
  have gg4 : Grow w3 w4 := ((Grow.refl _).alloc _).trans g4
  generalize (World.alloc w3 (.cells #[.int .i64 0] 55)).heap.size = b4 at n4 ⊢
  have HN4 : Hid (NamesAt (fun i => w.heap.size < i) w4 b1 (nsOf 1) ∧ NamesAt (fun i => w.heap.size < i) w4 b2 (nsOf 2) ∧ NamesAt (fun i => w.heap.size < i) w4 b3 (nsOf 3) ∧ NamesAt (fun i => w.heap.size < i) w4 b4 (nsOf 4)) := ⟨(HN3.out.1).grow gg4, (HN3.out.2.1).grow gg4, (HN3.out.2.2).grow gg4, n4⟩
  clear HN3
  have HV4 : Hid (VarAt w4 w.heap.size [.nilFunc, .nilFunc, .nilFunc, .nilFunc, .nilFunc, .nilFunc, .nilFunc, .nilFunc, .nilFunc] ∧ Grow w w4) := ⟨(HV3.out).1.grow gg4, (HV3.out).2.trans gg4⟩
  clear n4 g4 gg4 HV3
  have HB4 : w.heap.size < w4.heap.size := HV4.out.1.lt
  go_wp2_with fail
  refine (naming_any _ (fun i => w.heap.size < i) _ _ (lit1 w4 55 0 _ (fun i => w.heap.size < i) (by simp) (show w.heap.size < w4.heap.size from by have := HB4; omega)) (by show w.heap.size < _; have := HB4; simp; try omega)).mono ?_
  rintro e w5 ⟨rfl, n5, g5⟩
  have gg5 : Grow w4 w5 := ((Grow.refl _).alloc _).trans g5
  generalize (World.alloc w4 (.cells #[.int .i64 0] 55)).heap.size = b5 at n5 ⊢
  have HN5 : Hid (NamesAt (fun i => w.heap.size < i) w5 b1 (nsOf 1) ∧ NamesAt (fun i => w.heap.size < i) w5 b2 (nsOf 2) ∧ NamesAt (fun i => w.heap.size < i) w5 b3 (nsOf 3) ∧ NamesAt (fun i => w.heap.size < i) w5 b4 (nsOf 4) ∧ NamesAt (fun i => w.heap.size < i) w5 b5 (nsOf 5)) := ⟨(HN4.out.1).grow gg5, (HN4.out.2.1).grow gg5, (HN4.out.2.2.1).grow gg5, (HN4.out.2.2.2).grow gg5, n5⟩
  clear HN4
  have HV5 : Hid (VarAt w5 w.heap.size [.nilFunc, .nilFunc, .nilFunc, .nilFunc, .nilFunc, .nilFunc, .nilFunc, .nilFunc, .nilFunc] ∧ Grow w w5) := ⟨(HV4.out).1.grow gg5, (HV4.out).2.trans gg5⟩
  clear n5 g5 gg5 HV4
  have HB5 : w.heap.size < w5.heap.size := HV5.out.1.lt
  go_wp2_with fail
  refine (naming_any _ (fun i => w.heap.size < i) _ _ (RdV.nil _ _ _ _ none 0 (by decide)) (by show w.heap.size < _; have := HB5; simp; try omega)).mono ?_
  rintro e w6 ⟨rfl, n6, g6⟩
  have gg6 : Grow w5 w6 := g6
  generalize (World.heap w5).size = b6 at n6 ⊢
  have HN6 : Hid (NamesAt (fun i => w.heap.size < i) w6 b1 (nsOf 1) ∧ NamesAt (fun i => w.heap.size < i) w6 b2 (nsOf 2) ∧ NamesAt (fun i => w.heap.size < i) w6 b3 (nsOf 3) ∧ NamesAt (fun i => w.heap.size < i) w6 b4 (nsOf 4) ∧ NamesAt (fun i => w.heap.size < i) w6 b5 (nsOf 5) ∧ NamesAt (fun i => w.heap.size < i) w6 b6 (nsOf 6)) := ⟨(HN5.out.1).grow gg6, (HN5.out.2.1).grow gg6, (HN5.out.2.2.1).grow gg6, (HN5.out.2.2.2.1).grow gg6, (HN5.out.2.2.2.2).grow gg6, n6⟩
  clear HN5
  have HV6 : Hid (VarAt w6 w.heap.size [.nilFunc, .nilFunc, .nilFunc, .nilFunc, .nilFunc, .nilFunc, .nilFunc, .nilFunc, .nilFunc] ∧ Grow w w6) := ⟨(HV5.out).1.grow gg6, (HV5.out).2.trans gg6⟩
  clear n6 g6 gg6 HV5
  have HB6 : w.heap.size < w6.heap.size := HV6.out.1.lt
  go_wp2_with fail
  refine (naming_any _ (fun i => w.heap.size < i) _ _ (lit1 w6 55 0 _ (fun i => w.heap.size < i) (by simp) (show w.heap.size < w6.heap.size from by have := HB6; omega)) (by show w.heap.size < _; have := HB6; simp; try omega)).mono ?_
  rintro e w7 ⟨rfl, n7, g7⟩
  have gg7 : Grow w6 w7 := ((Grow.refl _).alloc _).trans g7
  generalize (World.alloc w6 (.cells #[.int .i64 0] 55)).heap.size = b7 at n7 ⊢
  have HN7 : Hid (NamesAt (fun i => w.heap.size < i) w7 b1 (nsOf 1) ∧ NamesAt (fun i => w.heap.size < i) w7 b2 (nsOf 2) ∧ NamesAt (fun i => w.heap.size < i) w7 b3 (nsOf 3) ∧ NamesAt (fun i => w.heap.size < i) w7 b4 (nsOf 4) ∧ NamesAt (fun i => w.heap.size < i) w7 b5 (nsOf 5) ∧ NamesAt (fun i => w.heap.size < i) w7 b6 (nsOf 6) ∧ NamesAt (fun i => w.heap.size < i) w7 b7 (nsOf 7)) := ⟨(HN6.out.1).grow gg7, (HN6.out.2.1).grow gg7, (HN6.out.2.2.1).grow gg7, (HN6.out.2.2.2.1).grow gg7, (HN6.out.2.2.2.2.1).grow gg7, (HN6.out.2.2.2.2.2).grow gg7, n7⟩
  clear HN6
  have HV7 : Hid (VarAt w7 w.heap.size [.nilFunc, .nilFunc, .nilFunc, .nilFunc, .nilFunc, .nilFunc, .nilFunc, .nilFunc, .nilFunc] ∧ Grow w w7) := ⟨(HV6.out).1.grow gg7, (HV6.out).2.trans gg7⟩
  clear n7 g7 gg7 HV6
  have HB7 : w.heap.size < w7.heap.size := HV7.out.1.lt
  go_wp2_with fail
  refine (naming_any _ (fun i => w.heap.size < i) _ _ (RdV.nil _ _ _ _ none 0 (by decide)) (by show w.heap.size < _; have := HB7; simp; try omega)).mono ?_
  rintro e w8 ⟨rfl, n8, g8⟩
  have gg8 : Grow w7 w8 := g8
  generalize (World.heap w7).size = b8 at n8 ⊢
  have HN8 : Hid (NamesAt (fun i => w.heap.size < i) w8 b1 (nsOf 1) ∧ NamesAt (fun i => w.heap.size < i) w8 b2 (nsOf 2) ∧ NamesAt (fun i => w.heap.size < i) w8 b3 (nsOf 3) ∧ NamesAt (fun i => w.heap.size < i) w8 b4 (nsOf 4) ∧ NamesAt (fun i => w.heap.size < i) w8 b5 (nsOf 5) ∧ NamesAt (fun i => w.heap.size < i) w8 b6 (nsOf 6) ∧ NamesAt (fun i => w.heap.size < i) w8 b7 (nsOf 7) ∧ NamesAt (fun i => w.heap.size < i) w8 b8 (nsOf 8)) := ⟨(HN7.out.1).grow gg8, (HN7.out.2.1).grow gg8, (HN7.out.2.2.1).grow gg8, (HN7.out.2.2.2.1).grow gg8, (HN7.out.2.2.2.2.1).grow gg8, (HN7.out.2.2.2.2.2.1).grow gg8, (HN7.out.2.2.2.2.2.2).grow gg8, n8⟩
  clear HN7
  have HV8 : Hid (VarAt w8 w.heap.size [.nilFunc, .nilFunc, .nilFunc, .nilFunc, .nilFunc, .nilFunc, .nilFunc, .nilFunc, .nilFunc] ∧ Grow w w8) := ⟨(HV7.out).1.grow gg8, (HV7.out).2.trans gg8⟩
  clear n8 g8 gg8 HV7
  have HB8 : w.heap.size < w8.heap.size := HV8.out.1.lt
  obtain ⟨⟨c0, c1, c2, c3, c4, c5, c6, c7, c8⟩, cf⟩ := HV8.out.1.nine
  have f0 := cf 0 (by omega)
  have f1 := cf 1 (by omega)
  have f2 := cf 2 (by omega)
  have f3 := cf 3 (by omega)
  have f4 := cf 4 (by omega)
  have f5 := cf 5 (by omega)
  have f6 := cf 6 (by omega)
  have f7 := cf 7 (by omega)
  have f8 := cf 8 (by omega)
  clear cf
  go_wp2
  clear c0 c1 c2 c3 c4 c5 c6 c7 c8 f0 f1 f2 f3 f4 f5 f6 f7 f8

  have hU := upd_nine w8 w.heap.size .nilFunc (clo b1) (clo b2) (clo b3) (clo b4) (clo b5) (clo b6) (clo b7) (clo b8)
  refine bodyPost_ret_by (results_cell rfl _ _ _ _ rfl (load_A9 w.heap.size b1 b2 b3 b4 b5 b6 b7 b8 _ (HV8.out.1.set9 _ _ _ _ _ _ _ _ _))) rfl ⟨b1, b2, b3, b4, b5, b6, b7, b8, rfl, ?_, UpdS.new HV8.out.2 hU (fun i hi => by omega)⟩
  obtain ⟨m1, m2, m3, m4, m5, m6, m7, m8⟩ := HN8.out
  have hd : ∀ i, w.heap.size < i → ¬ i = w.heap.size := fun i h1 h2 => by omega
  exact ⟨m1.upd hU hd, m2.upd hU hd, m3.upd hU hd, m4.upd hU hd, m5.upd hU hd, m6.upd hU hd, m7.upd hU hd, m8.upd hU hd⟩
end Go.Proofs.YtdafamocnjfmjaaDoor
