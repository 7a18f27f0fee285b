/-
  The walk of Read. Conditions: the theorem's own.
-/
import Derived.Test.YtdafamocnjfmjaaDoorReqRd
import Derived.Test.YtdafamocnjfmjaaDoorReqGd
import Derived.Deep.CutRange
namespace Go.Proofs.YtdafamocnjfmjaaDoor
open Go.RowKit
set_option linter.unusedVariables false
set_option linter.unusedSimpArgs false

set_option maxRecDepth 8000 in
set_option maxHeartbeats 8000000 in
theorem readq_any (w : World) (v : Value) (ys : List Int) (B : Nat) (h : Rd .u8 B w v ys) (hby : Byte ys) (hl : ys.length ≤ 1000000) :
    Calls Tryd.prog 19 #[v] w fun e w' => ∃ u, e = .returned (.tuple #[.agg #[.int .i64 (rdN ys 0), .int .i64 (rdN ys 1)], .agg #[.int .i64 (rdN ys 2), .int .i64 (rdN ys 3), .int .i64 (rdN ys 4), .int .i64 (rdN ys 5), u], .int .i64 (rdE ys)]) ∧ Rd .u8 w'.heap.size w' u (rdZ ys) ∧ Grow w w' := by
  have HV : Hid (VarAt ((w.alloc (.cells #[.int .i64 0, .int .i64 0] 37)).alloc (.cells #[.int .i64 0, .int .i64 0, .int .i64 0, .int .i64 0, .slice none 0 0] 24)) w.heap.size [.int .i64 0, .int .i64 0] ∧ VarAt ((w.alloc (.cells #[.int .i64 0, .int .i64 0] 37)).alloc (.cells #[.int .i64 0, .int .i64 0, .int .i64 0, .int .i64 0, .slice none 0 0] 24)) (w.heap.size + 1) [.int .i64 0, .int .i64 0, .int .i64 0, .int .i64 0, .slice none 0 0] ∧ Grow w ((w.alloc (.cells #[.int .i64 0, .int .i64 0] 37)).alloc (.cells #[.int .i64 0, .int .i64 0, .int .i64 0, .int .i64 0, .slice none 0 0] 24)) ∧ w.heap.size + 2 = ((w.alloc (.cells #[.int .i64 0, .int .i64 0] 37)).alloc (.cells #[.int .i64 0, .int .i64 0, .int .i64 0, .int .i64 0, .slice none 0 0] 24)).heap.size) :=
    ⟨(VarAt.new w _ _).old _, VarAt.new2 w _ _ _, ((Grow.refl w).alloc _).alloc _, by simp⟩
  have hrd := read_any v ys _ _ ((Rd.size h).below HV.out.2.2.1) hl
  obtain ⟨i6, bad6, hs6⟩ := sync_zk hby hl 6
  obtain ⟨i7, bad7, -, hBY, -⟩ := bytes_both hs6 hby hl
  have HBY : Hid (∀ (w : World) (b : Nat) (p : Nat → Prop), RdrAt w b p (zk ys 6) (ek ys 6) → Calls Tryd.prog 34 #[.pointer (some ⟨b, 0, none⟩), .int .i64 32] w fun en w' => ∃ v, en = .returned v ∧ Own .u8 w.heap.size w' v (bq (zk ys 6)).1 ∧ RdrAt w' b p (bq (zk ys 6)).2.1 (bq (zk ys 6)).2.2 ∧ Upd b w w') := hBY
  have HI : Hid (∀ (k : Nat) (w : World) (b : Nat) (p : Nat → Prop), RdrAt w b p (zk ys k) (ek ys k) → Calls Tryd.prog 33 #[.pointer (some ⟨b, 0, none⟩)] w fun e w' => e = .returned (.int .i64 (nk ys k)) ∧ RdrAt w' b p (zk ys (k + 1)) (ek ys (k + 1)) ∧ Upd b w w') := fun k w b p hr => intR_any b (zk ys k) (ek ys k) w hr (byte_zk hby k)
  have HEN : Hid (∀ (w : World) (b : Nat) (p : Nat → Prop), RdrAt w b p (bq (zk ys 6)).2.1 (bq (zk ys 6)).2.2 → Calls Tryd.prog 35 #[.pointer (some ⟨b, 0, none⟩)] w fun e w' => e = .returned (.int .i64 (rdE ys)) ∧ w = w') := fun w b p hr => endR_any b _ _ w hr
  have HE2 := rdE_02 ys
  have HN : Hid ((rdE ys = 0 → (∀ k, rdN ys k = nk ys k) ∧ rdZ ys = (bq (zk ys 6)).1) ∧ (rdE ys = 2 → (∀ k, rdN ys k = 0) ∧ rdZ ys = [])) :=
    ⟨fun h => ⟨fun k => if_pos h, if_pos h⟩, fun h => ⟨fun k => if_neg (by omega), if_neg (by omega)⟩⟩
  have HM : Hid ((rdE ys = 0 → rdN ys 0 = nk ys 0 ∧ rdN ys 1 = nk ys 1 ∧ rdN ys 2 = nk ys 2 ∧ rdN ys 3 = nk ys 3 ∧ rdN ys 4 = nk ys 4 ∧ rdN ys 5 = nk ys 5 ∧ rdZ ys = (bq (zk ys 6)).1) ∧ (rdE ys = 2 → rdN ys 0 = 0 ∧ rdN ys 1 = 0 ∧ rdN ys 2 = 0 ∧ rdN ys 3 = 0 ∧ rdN ys 4 = 0 ∧ rdN ys 5 = 0 ∧ rdZ ys = [])) :=
    ⟨fun h => have q := HN.out.1 h; ⟨q.1 0, q.1 1, q.1 2, q.1 3, q.1 4, q.1 5, q.2⟩, fun h => have q := HN.out.2 h; ⟨q.1 0, q.1 1, q.1 2, q.1 3, q.1 4, q.1 5, q.2⟩⟩
  clear hs6 hBY h HN
  generalize rdE ys = er at *
  generalize rdN ys 0 = r0 at *
  generalize rdN ys 1 = r1 at *
  generalize rdN ys 2 = r2 at *
  generalize rdN ys 3 = r3 at *
  generalize rdN ys 4 = r4 at *
  generalize rdN ys 5 = r5 at *
  generalize rdZ ys = rz at *
  go_enter Tryd.func19, Tryd.ntmps19
  go_wp2_with fail
  refine hrd.mono ?_
  rintro e w1 ⟨b, rfl, hr1, g1, hbb⟩
  obtain ⟨p, hp⟩ : ∃ p : Nat → Prop, p = fun k => ((w.alloc (.cells #[.int .i64 0, .int .i64 0] 37)).alloc (.cells #[.int .i64 0, .int .i64 0, .int .i64 0, .int .i64 0, .slice none 0 0] 24)).heap.size ≤ k ∧ k < b := ⟨_, rfl⟩
  rw [← hp] at hr1
  have HP : Hid (∀ i, p i → w.heap.size + 2 ≤ i ∧ i < b) := fun i hi => by rw [hp] at hi; have := HV.out.2.2.2; omega
  have HX1 : Hid (RdrAt w1 b p (zk ys 0) (ek ys 0) ∧ VarAt w1 w.heap.size [.int .i64 0, .int .i64 0] ∧ VarAt w1 (w.heap.size + 1) [.int .i64 0, .int .i64 0, .int .i64 0, .int .i64 0, .slice none 0 0] ∧ Grow w w1 ∧ w.heap.size + 2 ≤ b) := ⟨hr1, HV.out.1.grow g1, HV.out.2.1.grow g1, HV.out.2.2.1.trans g1, by have := HV.out.2.2.2; omega⟩
  clear hrd hr1 g1 hbb hp HV
  go_wp2_with fail
  refine (HI.out 0 _ b p HX1.out.1).mono ?_
  rintro e w2 ⟨rfl, hr, hu⟩
  have HX2 : Hid (RdrAt w2 b p (zk ys 1) (ek ys 1) ∧ VarAt w2 w.heap.size [.int .i64 0, .int .i64 0] ∧ VarAt w2 (w.heap.size + 1) [.int .i64 0, .int .i64 0, .int .i64 0, .int .i64 0, .slice none 0 0] ∧ Grow w w2 ∧ w.heap.size + 2 ≤ b) := ⟨hr, HX1.out.2.1.upd hu (by have := HX1.out.2.2.2.2; omega), HX1.out.2.2.1.upd hu (by have := HX1.out.2.2.2.2; omega), UpdS.new HX1.out.2.2.2.1 hu (fun i hi => by have := HX1.out.2.2.2.2; omega), HX1.out.2.2.2.2⟩
  clear hr hu HX1
  go_wp2_with fail
  refine (HI.out 1 _ b p HX2.out.1).mono ?_
  rintro e w3 ⟨rfl, hr, hu⟩
  have HX3 : Hid (RdrAt w3 b p (zk ys 2) (ek ys 2) ∧ VarAt w3 w.heap.size [.int .i64 0, .int .i64 0] ∧ VarAt w3 (w.heap.size + 1) [.int .i64 0, .int .i64 0, .int .i64 0, .int .i64 0, .slice none 0 0] ∧ Grow w w3 ∧ w.heap.size + 2 ≤ b) := ⟨hr, HX2.out.2.1.upd hu (by have := HX2.out.2.2.2.2; omega), HX2.out.2.2.1.upd hu (by have := HX2.out.2.2.2.2; omega), UpdS.new HX2.out.2.2.2.1 hu (fun i hi => by have := HX2.out.2.2.2.2; omega), HX2.out.2.2.2.2⟩
  clear hr hu HX2
  go_upto_region 3 with fail
  have hC := VarAt.new w3 [.int .i64 (nk ys 0), .int .i64 (nk ys 1)] 37
  have gC : Grow w3 (w3.alloc (.cells #[.int .i64 (nk ys 0), .int .i64 (nk ys 1)] 37)) := (Grow.refl _).alloc _
  refine wp_gen (fun W => (RdrAt W b p (zk ys 2) (ek ys 2) ∧ VarAt W w.heap.size [.int .i64 0, .int .i64 0] ∧ VarAt W (w.heap.size + 1) [.int .i64 0, .int .i64 0, .int .i64 0, .int .i64 0, .slice none 0 0] ∧ Grow w W ∧ w.heap.size + 2 ≤ b) ∧ VarAt W w3.heap.size [.int .i64 (nk ys 0), .int .i64 (nk ys 1)] ∧ b < w3.heap.size) ⟨⟨HX3.out.1.grow gC, HX3.out.2.1.grow gC, HX3.out.2.2.1.grow gC, HX3.out.2.2.2.1.trans gC, HX3.out.2.2.2.2⟩, hC, HX3.out.1.lt⟩ ?_
  intro w4 hX
  have HC4 : Hid (VarAt w4 w3.heap.size [.int .i64 (nk ys 0), .int .i64 (nk ys 1)] ∧ b < w3.heap.size) := hX.2
  have HX4 : Hid (RdrAt w4 b p (zk ys 2) (ek ys 2) ∧ VarAt w4 w.heap.size [.int .i64 0, .int .i64 0] ∧ VarAt w4 (w.heap.size + 1) [.int .i64 0, .int .i64 0, .int .i64 0, .int .i64 0, .slice none 0 0] ∧ Grow w w4 ∧ w.heap.size + 2 ≤ b) := hX.1
  clear hX hC gC HX3
  generalize w3.heap.size = bc at *
  go_wp2_with fail
  refine (HI.out 2 _ b p HX4.out.1).mono ?_
  rintro e w5 ⟨rfl, hr, hu⟩
  have HX5 : Hid (RdrAt w5 b p (zk ys 3) (ek ys 3) ∧ VarAt w5 w.heap.size [.int .i64 0, .int .i64 0] ∧ VarAt w5 (w.heap.size + 1) [.int .i64 0, .int .i64 0, .int .i64 0, .int .i64 0, .slice none 0 0] ∧ Grow w w5 ∧ w.heap.size + 2 ≤ b) := ⟨hr, HX4.out.2.1.upd hu (by have := HX4.out.2.2.2.2; omega), HX4.out.2.2.1.upd hu (by have := HX4.out.2.2.2.2; omega), UpdS.new HX4.out.2.2.2.1 hu (fun i hi => by have := HX4.out.2.2.2.2; omega), HX4.out.2.2.2.2⟩
  have HC5 : Hid (VarAt w5 bc [.int .i64 (nk ys 0), .int .i64 (nk ys 1)] ∧ b < bc) := ⟨HC4.out.1.upd hu (by have := HC4.out.2; omega), HC4.out.2⟩
  clear hr hu HX4 HC4
  go_wp2_with fail
  refine (HI.out 3 _ b p HX5.out.1).mono ?_
  rintro e w6 ⟨rfl, hr, hu⟩
  have HX6 : Hid (RdrAt w6 b p (zk ys 4) (ek ys 4) ∧ VarAt w6 w.heap.size [.int .i64 0, .int .i64 0] ∧ VarAt w6 (w.heap.size + 1) [.int .i64 0, .int .i64 0, .int .i64 0, .int .i64 0, .slice none 0 0] ∧ Grow w w6 ∧ w.heap.size + 2 ≤ b) := ⟨hr, HX5.out.2.1.upd hu (by have := HX5.out.2.2.2.2; omega), HX5.out.2.2.1.upd hu (by have := HX5.out.2.2.2.2; omega), UpdS.new HX5.out.2.2.2.1 hu (fun i hi => by have := HX5.out.2.2.2.2; omega), HX5.out.2.2.2.2⟩
  have HC6 : Hid (VarAt w6 bc [.int .i64 (nk ys 0), .int .i64 (nk ys 1)] ∧ b < bc) := ⟨HC5.out.1.upd hu (by have := HC5.out.2; omega), HC5.out.2⟩
  clear hr hu HX5 HC5
  go_wp2_with fail
  refine (HI.out 4 _ b p HX6.out.1).mono ?_
  rintro e w7 ⟨rfl, hr, hu⟩
  have HX7 : Hid (RdrAt w7 b p (zk ys 5) (ek ys 5) ∧ VarAt w7 w.heap.size [.int .i64 0, .int .i64 0] ∧ VarAt w7 (w.heap.size + 1) [.int .i64 0, .int .i64 0, .int .i64 0, .int .i64 0, .slice none 0 0] ∧ Grow w w7 ∧ w.heap.size + 2 ≤ b) := ⟨hr, HX6.out.2.1.upd hu (by have := HX6.out.2.2.2.2; omega), HX6.out.2.2.1.upd hu (by have := HX6.out.2.2.2.2; omega), UpdS.new HX6.out.2.2.2.1 hu (fun i hi => by have := HX6.out.2.2.2.2; omega), HX6.out.2.2.2.2⟩
  have HC7 : Hid (VarAt w7 bc [.int .i64 (nk ys 0), .int .i64 (nk ys 1)] ∧ b < bc) := ⟨HC6.out.1.upd hu (by have := HC6.out.2; omega), HC6.out.2⟩
  clear hr hu HX6 HC6
  go_wp2_with fail
  refine (HI.out 5 _ b p HX7.out.1).mono ?_
  rintro e w8 ⟨rfl, hr, hu⟩
  have HX8 : Hid (RdrAt w8 b p (zk ys 6) (ek ys 6) ∧ VarAt w8 w.heap.size [.int .i64 0, .int .i64 0] ∧ VarAt w8 (w.heap.size + 1) [.int .i64 0, .int .i64 0, .int .i64 0, .int .i64 0, .slice none 0 0] ∧ Grow w w8 ∧ w.heap.size + 2 ≤ b) := ⟨hr, HX7.out.2.1.upd hu (by have := HX7.out.2.2.2.2; omega), HX7.out.2.2.1.upd hu (by have := HX7.out.2.2.2.2; omega), UpdS.new HX7.out.2.2.2.1 hu (fun i hi => by have := HX7.out.2.2.2.2; omega), HX7.out.2.2.2.2⟩
  have HC8 : Hid (VarAt w8 bc [.int .i64 (nk ys 0), .int .i64 (nk ys 1)] ∧ b < bc) := ⟨HC7.out.1.upd hu (by have := HC7.out.2; omega), HC7.out.2⟩
  clear hr hu HX7 HC7
  go_wp2_with fail
  refine (HBY.out _ b p HX8.out.1).mono ?_
  rintro e w9 ⟨vd, rfl, ho, hr, hu⟩
  have HX9 : Hid (RdrAt w9 b p (bq (zk ys 6)).2.1 (bq (zk ys 6)).2.2 ∧ VarAt w9 w.heap.size [.int .i64 0, .int .i64 0] ∧ VarAt w9 (w.heap.size + 1) [.int .i64 0, .int .i64 0, .int .i64 0, .int .i64 0, .slice none 0 0] ∧ Grow w w9 ∧ w.heap.size + 2 ≤ b) := ⟨hr, HX8.out.2.1.upd hu (by have := HX8.out.2.2.2.2; omega), HX8.out.2.2.1.upd hu (by have := HX8.out.2.2.2.2; omega), UpdS.new HX8.out.2.2.2.1 hu (fun i hi => by have := HX8.out.2.2.2.2; omega), HX8.out.2.2.2.2⟩
  have HC9 : Hid (VarAt w9 bc [.int .i64 (nk ys 0), .int .i64 (nk ys 1)] ∧ b < bc) := ⟨HC8.out.1.upd hu (by have := HC8.out.2; omega), HC8.out.2⟩
  have HO9 : Hid (Own .u8 (w.heap.size + 2) w9 vd (bq (zk ys 6)).1) := ho.base (by have := HX8.out.1.lt; have := HX8.out.2.2.2.2; omega)
  obtain ⟨ad, cd, rfl⟩ := ho.shape
  clear hr hu ho HX8 HC8
  generalize (bq (zk ys 6)).1 = zd at *
  generalize nk ys 0 = x0 at *
  generalize nk ys 1 = x1 at *
  generalize nk ys 2 = x2 at *
  generalize nk ys 3 = x3 at *
  generalize nk ys 4 = x4 at *
  generalize nk ys 5 = x5 at *
  go_upto_region 4 with fail
  have hC := VarAt.new w9 [.int .i64 x2, .int .i64 x3, .int .i64 x4, .int .i64 x5, .slice ad zd.length cd] 24
  have gC : Grow w9 (w9.alloc (.cells #[.int .i64 x2, .int .i64 x3, .int .i64 x4, .int .i64 x5, .slice ad zd.length cd] 24)) := (Grow.refl _).alloc _
  refine wp_gen (fun W => (RdrAt W b p (bq (zk ys 6)).2.1 (bq (zk ys 6)).2.2 ∧ VarAt W w.heap.size [.int .i64 0, .int .i64 0] ∧ VarAt W (w.heap.size + 1) [.int .i64 0, .int .i64 0, .int .i64 0, .int .i64 0, .slice none 0 0] ∧ Grow w W ∧ w.heap.size + 2 ≤ b) ∧ VarAt W bc [.int .i64 x0, .int .i64 x1] ∧ VarAt W w9.heap.size [.int .i64 x2, .int .i64 x3, .int .i64 x4, .int .i64 x5, .slice ad zd.length cd] ∧ Own .u8 (w.heap.size + 2) W (.slice ad zd.length cd) zd ∧ b < bc ∧ bc < w9.heap.size) ⟨⟨HX9.out.1.grow gC, HX9.out.2.1.grow gC, HX9.out.2.2.1.grow gC, HX9.out.2.2.2.1.trans gC, HX9.out.2.2.2.2⟩, HC9.out.1.grow gC, hC, Own.upd (S := fun _ => False) HO9.out gC.s (fun i f => f.elim), HC9.out.2, HC9.out.1.lt⟩ ?_
  intro w10 hX
  have HY : Hid (VarAt w10 bc [.int .i64 x0, .int .i64 x1] ∧ VarAt w10 w9.heap.size [.int .i64 x2, .int .i64 x3, .int .i64 x4, .int .i64 x5, .slice ad zd.length cd] ∧ Own .u8 (w.heap.size + 2) w10 (.slice ad zd.length cd) zd ∧ b < bc ∧ bc < w9.heap.size) := hX.2
  have HX10 : Hid (RdrAt w10 b p (bq (zk ys 6)).2.1 (bq (zk ys 6)).2.2 ∧ VarAt w10 w.heap.size [.int .i64 0, .int .i64 0] ∧ VarAt w10 (w.heap.size + 1) [.int .i64 0, .int .i64 0, .int .i64 0, .int .i64 0, .slice none 0 0] ∧ Grow w w10 ∧ w.heap.size + 2 ≤ b) := hX.1
  clear hX hC gC HX9 HO9 HC9
  generalize w9.heap.size = bd at *
  obtain ⟨⟨c0, c1⟩, -⟩ := HY.out.1.two
  obtain ⟨⟨d0, d1, d2, d3, d4⟩, -⟩ := HY.out.2.1.five
  obtain ⟨⟨k0, k1⟩, f0, f1⟩ := HX10.out.2.1.two
  obtain ⟨⟨e0, e1, e2, e3, e4⟩, m0, m1, m2, m3, m4⟩ := HX10.out.2.2.1.five
  go_wp2_with fail
  refine (HEN.out _ b p HX10.out.1).mono ?_
  rintro e wz ⟨rfl, rfl⟩
  have HB : Hid (w.heap.size + 2 ≤ bc ∧ w.heap.size + 2 ≤ bd) := ⟨by have := HY.out.2.2.2; have := HX10.out.2.2.2.2; omega, by have := HY.out.2.2.2; have := HX10.out.2.2.2.2; omega⟩
  have HS : Hid (∀ (y0 y1 : Int) (o p f l : Int) (vv : Value), VarAt (((((((w10.setCell ⟨w.heap.size, 0, none⟩ (.int .i64 y0)).setCell ⟨w.heap.size, 1, none⟩ (.int .i64 y1)).setCell ⟨w.heap.size + 1, 0, none⟩ (.int .i64 o)).setCell ⟨w.heap.size + 1, 1, none⟩ (.int .i64 p)).setCell ⟨w.heap.size + 1, 2, none⟩ (.int .i64 f)).setCell ⟨w.heap.size + 1, 3, none⟩ (.int .i64 l)).setCell ⟨w.heap.size + 1, 4, none⟩ vv) w.heap.size [.int .i64 y0, .int .i64 y1] ∧
    VarAt (((((((w10.setCell ⟨w.heap.size, 0, none⟩ (.int .i64 y0)).setCell ⟨w.heap.size, 1, none⟩ (.int .i64 y1)).setCell ⟨w.heap.size + 1, 0, none⟩ (.int .i64 o)).setCell ⟨w.heap.size + 1, 1, none⟩ (.int .i64 p)).setCell ⟨w.heap.size + 1, 2, none⟩ (.int .i64 f)).setCell ⟨w.heap.size + 1, 3, none⟩ (.int .i64 l)).setCell ⟨w.heap.size + 1, 4, none⟩ vv) (w.heap.size + 1) [.int .i64 o, .int .i64 p, .int .i64 f, .int .i64 l, vv] ∧
    UpdS (fun i => w.heap.size ≤ i ∧ i < w.heap.size + 2) w10 (((((((w10.setCell ⟨w.heap.size, 0, none⟩ (.int .i64 y0)).setCell ⟨w.heap.size, 1, none⟩ (.int .i64 y1)).setCell ⟨w.heap.size + 1, 0, none⟩ (.int .i64 o)).setCell ⟨w.heap.size + 1, 1, none⟩ (.int .i64 p)).setCell ⟨w.heap.size + 1, 2, none⟩ (.int .i64 f)).setCell ⟨w.heap.size + 1, 3, none⟩ (.int .i64 l)).setCell ⟨w.heap.size + 1, 4, none⟩ vv)) := fun y0 y1 o p f l vv =>
    have u1 := upd_pair w10 w.heap.size (.int .i64 y0) (.int .i64 y1)
    have u2 := upd_five ((w10.setCell ⟨w.heap.size, 0, none⟩ (.int .i64 y0)).setCell ⟨w.heap.size, 1, none⟩ (.int .i64 y1)) (w.heap.size + 1) (.int .i64 o) (.int .i64 p) (.int .i64 f) (.int .i64 l) vv
    ⟨(HX10.out.2.1.set2 _ _).upd u2 (by omega), (HX10.out.2.2.1.upd u1 (by omega)).set5 _ _ _ _ _, (u1.mono (fun i hi => by omega)).trans (u2.mono (fun i hi => by omega))⟩
  rcases HE2 with he | he
  · subst he
    obtain ⟨rfl, rfl, rfl, rfl, rfl, rfl, rfl⟩ := HM.out.1 rfl
    have fx : ∀ w', UpdS (fun i => i = w.heap.size ∨ i = w.heap.size + 1) w10.drew w' → (w'.cell? ⟨bc, 0, none⟩ = some (.int .i64 r0) ∧ w'.cell? ⟨bc, 1, none⟩ = some (.int .i64 r1)) ∧ w'.cell? ⟨bd, 0, none⟩ = some (.int .i64 r2) ∧ w'.cell? ⟨bd, 1, none⟩ = some (.int .i64 r3) ∧ w'.cell? ⟨bd, 2, none⟩ = some (.int .i64 r4) ∧ w'.cell? ⟨bd, 3, none⟩ = some (.int .i64 r5) ∧ w'.cell? ⟨bd, 4, none⟩ = some (.slice ad rz.length cd) := fun w' hu =>
      ⟨(VarAt.upd (VarAt.grow HY.out.1 (Grow.refl _).drew) hu (by have := HB.out; omega)).two.1, (VarAt.upd (VarAt.grow HY.out.2.1 (Grow.refl _).drew) hu (by have := HB.out; omega)).five.1⟩
    clear c0 c1 d0 d1 d2 d3 d4 k0 k1 f0 f1 e0 e1 e2 e3 e4 m0 m1 m2 m3 m4 HS HM HI HBY HEN
    go_wp2
    refine wp_region_schedG (UpdS (fun i => i = w.heap.size ∨ i = w.heap.size + 1)) (UpdS.refl _) (fun _ _ _ => UpdS.trans) (by kernel_rfl) [(0, false), (1, false), (2, true), (3, true), (4, false)] (by kernel_rfl) (by kernel_rfl) rfl (fun _ _ d _ _ h => by cases d <;> exact h) ?_
    simp only [inOrder, List.filterMap_cons, List.filterMap_nil, List.getElem?_toArray, List.getElem?_cons_zero, List.getElem?_cons_succ, Option.map_some]
    repeat (first
      | (refine wpS_move rfl ?_; simp only [Act.eval, Act.put, Array.getD_eq_getD_getElem?, List.getElem?_toArray, List.getElem?_cons_zero, List.getElem?_cons_succ, Option.getD_some, List.setIfInBounds_toArray, List.set_cons_zero, List.set_cons_succ])
      | (refine wpS_assign rfl ?_; simp only [Act.eval, Act.put, Array.getD_eq_getD_getElem?, List.getElem?_toArray, List.getElem?_cons_zero, List.getElem?_cons_succ, Option.getD_some, List.setIfInBounds_toArray, List.set_cons_zero, List.set_cons_succ])
      | (refine wpS_read (v := ?_) rfl ?_ ?_; rotate_left; (focus (intro w' hG; obtain ⟨⟨c0, c1⟩, d0, d1, d2, d3, d4⟩ := fx w' hG; go_simp; try (with_reducible rfl))); simp only [Act.put, List.setIfInBounds_toArray, List.set_cons_zero, List.set_cons_succ])
      | (refine wpS_skip rfl ?_; simp only [Act.put, List.setIfInBounds_toArray, List.set_cons_zero, List.set_cons_succ]))
    have HXd : Hid (VarAt w10.drew w.heap.size [.int .i64 0, .int .i64 0] ∧ VarAt w10.drew (w.heap.size + 1) [.int .i64 0, .int .i64 0, .int .i64 0, .int .i64 0, .slice none 0 0] ∧ Grow w w10.drew ∧ Own .u8 (w.heap.size + 2) w10.drew (.slice ad rz.length cd) rz) := ⟨HX10.out.2.1.grow (Grow.refl _).drew, HX10.out.2.2.1.grow (Grow.refl _).drew, HX10.out.2.2.2.1.trans (Grow.refl _).drew, Own.upd (S := fun _ => False) HY.out.2.2.1 (Grow.refl _).drew.s (fun i f => f.elim)⟩
    clear fx HX10 HY
    generalize w10.drew = wd at *
    obtain ⟨⟨k0, k1⟩, f0, f1⟩ := HXd.out.1.two
    obtain ⟨⟨e0, e1, e2, e3, e4⟩, m0, m1, m2, m3, m4⟩ := HXd.out.2.1.five
    refine wpS_store (w' := (wd.setCell ⟨w.heap.size, 0, none⟩ (.int .i64 r0)).setCell ⟨w.heap.size, 1, none⟩ (.int .i64 r1)) (by rfl) (by go_simp) ((upd_pair wd w.heap.size _ _).mono (fun i hi => .inl hi)) ?_
    simp only [Act.put, List.setIfInBounds_toArray, List.set_cons_zero, List.set_cons_succ]
    refine wpS_store (w' := ((((((wd.setCell ⟨w.heap.size, 0, none⟩ (.int .i64 r0)).setCell ⟨w.heap.size, 1, none⟩ (.int .i64 r1)).setCell ⟨w.heap.size + 1, 0, none⟩ (.int .i64 r2)).setCell ⟨w.heap.size + 1, 1, none⟩ (.int .i64 r3)).setCell ⟨w.heap.size + 1, 2, none⟩ (.int .i64 r4)).setCell ⟨w.heap.size + 1, 3, none⟩ (.int .i64 r5)).setCell ⟨w.heap.size + 1, 4, none⟩ (.slice ad rz.length cd)) (by rfl) (by go_simp) ((upd_five _ (w.heap.size + 1) _ _ _ _ _).mono (fun i hi => .inr hi)) ?_
    simp only [Act.put, List.setIfInBounds_toArray, List.set_cons_zero, List.set_cons_succ]
    repeat (first
      | (refine wpS_move rfl ?_; simp only [Act.eval, Act.put, Array.getD_eq_getD_getElem?, List.getElem?_toArray, List.getElem?_cons_zero, List.getElem?_cons_succ, Option.getD_some, List.setIfInBounds_toArray, List.set_cons_zero, List.set_cons_succ])
      | (refine wpS_assign rfl ?_; simp only [Act.eval, Act.put, Array.getD_eq_getD_getElem?, List.getElem?_toArray, List.getElem?_cons_zero, List.getElem?_cons_succ, Option.getD_some, List.setIfInBounds_toArray, List.set_cons_zero, List.set_cons_succ])
      | (refine wpS_read (v := ?_) rfl ?_ ?_; rotate_left; (focus (intro w' hG; skip; go_simp; try (with_reducible rfl))); simp only [Act.put, List.setIfInBounds_toArray, List.set_cons_zero, List.set_cons_succ])
      | (refine wpS_skip rfl ?_; simp only [Act.put, List.setIfInBounds_toArray, List.set_cons_zero, List.set_cons_succ]))
    refine wpS_nil ?_
    have u1 := upd_pair wd w.heap.size (.int .i64 r0) (.int .i64 r1)
    have u2 := upd_five ((wd.setCell ⟨w.heap.size, 0, none⟩ (.int .i64 r0)).setCell ⟨w.heap.size, 1, none⟩ (.int .i64 r1)) (w.heap.size + 1) (.int .i64 r2) (.int .i64 r3) (.int .i64 r4) (.int .i64 r5) (.slice ad rz.length cd)
    have u3 := (u1.mono (S' := fun i => w.heap.size ≤ i ∧ i < w.heap.size + 2) (fun i hi => by omega)).trans (u2.mono (fun i hi => by omega))
    have HF : Hid (VarAt (((((((wd.setCell ⟨w.heap.size, 0, none⟩ (.int .i64 r0)).setCell ⟨w.heap.size, 1, none⟩ (.int .i64 r1)).setCell ⟨w.heap.size + 1, 0, none⟩ (.int .i64 r2)).setCell ⟨w.heap.size + 1, 1, none⟩ (.int .i64 r3)).setCell ⟨w.heap.size + 1, 2, none⟩ (.int .i64 r4)).setCell ⟨w.heap.size + 1, 3, none⟩ (.int .i64 r5)).setCell ⟨w.heap.size + 1, 4, none⟩ (.slice ad rz.length cd)) w.heap.size [.int .i64 r0, .int .i64 r1] ∧
      VarAt (((((((wd.setCell ⟨w.heap.size, 0, none⟩ (.int .i64 r0)).setCell ⟨w.heap.size, 1, none⟩ (.int .i64 r1)).setCell ⟨w.heap.size + 1, 0, none⟩ (.int .i64 r2)).setCell ⟨w.heap.size + 1, 1, none⟩ (.int .i64 r3)).setCell ⟨w.heap.size + 1, 2, none⟩ (.int .i64 r4)).setCell ⟨w.heap.size + 1, 3, none⟩ (.int .i64 r5)).setCell ⟨w.heap.size + 1, 4, none⟩ (.slice ad rz.length cd)) (w.heap.size + 1) [.int .i64 r2, .int .i64 r3, .int .i64 r4, .int .i64 r5, .slice ad rz.length cd] ∧
      Rd .u8 (((((((wd.setCell ⟨w.heap.size, 0, none⟩ (.int .i64 r0)).setCell ⟨w.heap.size, 1, none⟩ (.int .i64 r1)).setCell ⟨w.heap.size + 1, 0, none⟩ (.int .i64 r2)).setCell ⟨w.heap.size + 1, 1, none⟩ (.int .i64 r3)).setCell ⟨w.heap.size + 1, 2, none⟩ (.int .i64 r4)).setCell ⟨w.heap.size + 1, 3, none⟩ (.int .i64 r5)).setCell ⟨w.heap.size + 1, 4, none⟩ (.slice ad rz.length cd)).heap.size (((((((wd.setCell ⟨w.heap.size, 0, none⟩ (.int .i64 r0)).setCell ⟨w.heap.size, 1, none⟩ (.int .i64 r1)).setCell ⟨w.heap.size + 1, 0, none⟩ (.int .i64 r2)).setCell ⟨w.heap.size + 1, 1, none⟩ (.int .i64 r3)).setCell ⟨w.heap.size + 1, 2, none⟩ (.int .i64 r4)).setCell ⟨w.heap.size + 1, 3, none⟩ (.int .i64 r5)).setCell ⟨w.heap.size + 1, 4, none⟩ (.slice ad rz.length cd)) (.slice ad rz.length cd) rz ∧
      Grow w (((((((wd.setCell ⟨w.heap.size, 0, none⟩ (.int .i64 r0)).setCell ⟨w.heap.size, 1, none⟩ (.int .i64 r1)).setCell ⟨w.heap.size + 1, 0, none⟩ (.int .i64 r2)).setCell ⟨w.heap.size + 1, 1, none⟩ (.int .i64 r3)).setCell ⟨w.heap.size + 1, 2, none⟩ (.int .i64 r4)).setCell ⟨w.heap.size + 1, 3, none⟩ (.int .i64 r5)).setCell ⟨w.heap.size + 1, 4, none⟩ (.slice ad rz.length cd))) :=
      ⟨(HXd.out.1.set2 _ _).upd u2 (by omega), (HXd.out.2.1.upd u1 (by omega)).set5 _ _ _ _ _, (Own.upd HXd.out.2.2.2 u3 (fun i hi => hi.2)).rd, UpdS.new HXd.out.2.2.1 u3 (fun i hi => hi.1)⟩
    clear u1 u2 u3 HXd k0 k1 f0 f1 e0 e1 e2 e3 e4 m0 m1 m2 m3 m4
    generalize (((((((wd.setCell ⟨w.heap.size, 0, none⟩ (.int .i64 r0)).setCell ⟨w.heap.size, 1, none⟩ (.int .i64 r1)).setCell ⟨w.heap.size + 1, 0, none⟩ (.int .i64 r2)).setCell ⟨w.heap.size + 1, 1, none⟩ (.int .i64 r3)).setCell ⟨w.heap.size + 1, 2, none⟩ (.int .i64 r4)).setCell ⟨w.heap.size + 1, 3, none⟩ (.int .i64 r5)).setCell ⟨w.heap.size + 1, 4, none⟩ (.slice ad rz.length cd)) = we at *
    go_wp2
    exact bodyPost_ret_by (results_cct rfl _ _ _ _ _ _ rfl rfl (load_Cp w.heap.size r0 r1 _ HF.out.1) (load_Rq (w.heap.size + 1) r2 r3 r4 r5 (.slice ad rz.length cd) _ HF.out.2.1 rfl)) rfl ⟨_, rfl, HF.out.2.2.1, HF.out.2.2.2⟩
  · subst he
    obtain ⟨rfl, rfl, rfl, rfl, rfl, rfl, rfl⟩ := HM.out.2 rfl
    obtain ⟨s1, s2, s3⟩ := HS.out 0 0 0 0 0 0 (.slice none 0 0)
    have HF := hid (And.intro s1 (And.intro s2 (UpdS.new HX10.out.2.2.2.1 s3 (fun i hi => hi.1))))
    clear HS HM HI HBY HEN HX10 HY s1 s2 s3 c0 c1 d0 d1 d2 d3 d4
    go_wp2
    exact bodyPost_ret_by (results_cct rfl _ _ _ _ _ _ rfl rfl (load_Cp w.heap.size 0 0 _ HF.out.1) (load_Rq (w.heap.size + 1) 0 0 0 0 (.slice none 0 0) _ HF.out.2.1 rfl)) rfl ⟨_, rfl, Rd.nil _ _ _ _ _ (Nat.zero_le _), HF.out.2.2⟩
end Go.Proofs.YtdafamocnjfmjaaDoor
