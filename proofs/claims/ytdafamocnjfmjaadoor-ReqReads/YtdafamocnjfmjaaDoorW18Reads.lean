/-
  The walk of ReqReads. Conditions: the theorem's own.
-/
import Derived.Test.YtdafamocnjfmjaaDoorW18Round
import Derived.Test.YtdafamocnjfmjaaDoorReqRdD
import Derived.Test.YtdafamocnjfmjaaDoorReqBs
namespace Go.Proofs.YtdafamocnjfmjaaDoor
open Go.RowKit
set_option linter.unusedVariables false
set_option linter.unusedSimpArgs false

theorem RdB.grow {w u : World} {v : Value} {z : List Int} (h : Rd .u8 w.heap.size w v z) (g : Grow w u) : Rd .u8 u.heap.size u v z := Rd.mono (h.below g) g.size
theorem RdB.sl {B : Nat} {w : World} {v : Value} {zs : List Int} (h : Rd .u8 B w v zs) : ∃ a c, v = .slice a zs.length c := by
  obtain ⟨a, c, rfl, _⟩ := h
  exact ⟨a, c, rfl⟩

set_option maxRecDepth 16000 in
set_option maxHeartbeats 16000000 in
theorem reqReads_walk (v0 : Value) (z0 : List Int) (s g : Int) (x : Rq) (a : Option Addr) (n c : Nat) (at_ y : Int) (w : World) (hw : WT w) (h0 : Rd .u8 w.heap.size w v0 z0) (hz0 : Oct z0) (hr : Rd .u8 w.heap.size w (.slice a n c) x.z) (hxz : Oct x.z) (hat : (Lit.int .i64 at_).wf = true) (hy : (Lit.int .u8 y).wf = true) :
    Calls Tryd.prog 6 #[v0, .agg #[.int .i64 s, .int .i64 g], .agg #[.int .i64 x.o, .int .i64 x.p, .int .i64 x.f, .int .i64 x.l, .slice a n c], .int .i64 at_, .int .u8 y] w fun e w' => e = .returned (.bool true) ∧ Grow w w' := by
  obtain ⟨i0, hi, hz0', hz1, hz2⟩ := info_parts Tryd.info5
  have H0 : Hid (VarAt ((w.alloc (.cells #[.int .i64 s, .int .i64 g] 37)).alloc (.cells #[.int .i64 x.o, .int .i64 x.p, .int .i64 x.f, .int .i64 x.l, .slice a n c] 24)) w.heap.size [.int .i64 s, .int .i64 g] ∧ VarAt ((w.alloc (.cells #[.int .i64 s, .int .i64 g] 37)).alloc (.cells #[.int .i64 x.o, .int .i64 x.p, .int .i64 x.f, .int .i64 x.l, .slice a n c] 24)) (w.heap.size + 1) [.int .i64 x.o, .int .i64 x.p, .int .i64 x.f, .int .i64 x.l, .slice a n c] ∧ Grow w ((w.alloc (.cells #[.int .i64 s, .int .i64 g] 37)).alloc (.cells #[.int .i64 x.o, .int .i64 x.p, .int .i64 x.f, .int .i64 x.l, .slice a n c] 24))) := ⟨(VarAt.new w _ _).old _, VarAt.new2 w _ _ _, ((Grow.refl w).alloc _).alloc _⟩
  have HFE : Hid (∀ u, Grow w u → Calls Tryd.prog 10 #[.agg #[.int .i64 x.o, .int .i64 x.p, .int .i64 x.f, .int .i64 x.l, .slice a n c]] u fun e w' => ∃ v, e = .returned (.agg #[.int .i64 x.o, .int .i64 x.p, .int .i64 x.f, .int .i64 x.l, v]) ∧ Own .u8 u.heap.size w' v (x.z.take 34) ∧ Grow u w') := fun u gu => rfew_any u x.o x.p x.f x.l a n c x.z w.heap.size (hr.below gu)
  have hzl : (x.z.take 34).length ≤ 34 := by rw [List.length_take]; omega
  have hzo : Oct (x.z.take 34) := hxz.take 34
  generalize x.z.take 34 = z at *
  have HRQ : Hid (∀ u v, Rd .u8 u.heap.size u v z → Calls Tryd.prog 20 #[.agg #[.int .i64 s, .int .i64 g], .agg #[.int .i64 x.o, .int .i64 x.p, .int .i64 x.f, .int .i64 x.l, v]] u fun e w' => ∃ v, e = .returned v ∧ Own .u8 u.heap.size w' v (rqB s g x.o x.p x.f x.l z) ∧ Grow u w') := fun u v h => by
    obtain ⟨a', c', rfl⟩ := RdB.sl h
    exact rreq_any u s g x.o x.p x.f x.l a' z.length c' z _ h (by omega)
  have hbl := rqB_length s g x.o x.p x.f x.l z
  have hbb := rqB_byte s g x.o x.p x.f x.l hzo
  generalize rqB s g x.o x.p x.f x.l z = bs at *
  have hyb := bounds_u8 hy
  have hbd := around_bd at_ (bs.length : Int) (by omega)
  obtain ⟨K, hK⟩ := Int.eq_ofNat_of_zero_le hbd.1
  have HAR : Hid (∀ u, Calls Tryd.prog 8 #[.int .i64 at_, .int .i64 (bs.length : Int)] u fun e w' => e = .returned (.int .i64 (K : Int)) ∧ u = w') := fun u => by
    have h := around_any at_ (bs.length : Int) u hat (by omega) (by omega)
    rw [hK] at h
    exact h
  have HB : Hid (bs.length ≤ 90 ∧ 56 ≤ bs.length ∧ K < bs.length ∧ Byte bs ∧ 0 ≤ y ∧ y < 256 ∧ Oct z0) := ⟨by omega, by omega, by omega, hbb, hyb.1, by omega, hz0⟩
  have HWT := hid hw
  have HV0 : Hid (∀ u, Grow w u → Rd .u8 u.heap.size u v0 z0) := fun u gu => RdB.grow h0 gu
  obtain ⟨a0, c0', rfl⟩ := RdB.sl h0
  have HLV : Hid (∀ u, WT u → Calls Tryd.prog 14 #[] u fun e w' => e = .returned (.bool true) ∧ Grow u w') := fun u hu => lives_any u hu
  clear hzl hzo hbl hbb hyb hbd hK hw h0 hz0 hr hxz hat hy
  obtain ⟨o, p, f, l, zx⟩ := x
  dsimp only at *
  go_enter Tryd.func6, Tryd.ntmps6
  go_wp2
  refine wp_region_sched (by kernel_rfl) [(0, false), (1, false), (2, true), (3, true), (4, false)] (by kernel_rfl) (by kernel_rfl) rfl (fun _ _ d _ _ h => by cases d <;> exact h) ?_
  simp only [inOrder, List.filterMap_cons, List.filterMap_nil, List.getElem?_toArray, List.getElem?_cons_zero, List.getElem?_cons_succ, Option.map_some]
  repeat (first
    | (refine wpS_move rfl ?_; simp only [Act.eval, Act.put, Array.getD_eq_getD_getElem?, List.getElem?_toArray, List.getElem?_cons_zero, List.getElem?_cons_succ, Option.getD_some, List.setIfInBounds_toArray, List.set_cons_zero, List.set_cons_succ])
    | (refine wpS_assign rfl ?_; simp only [Act.eval, Act.put, Array.getD_eq_getD_getElem?, List.getElem?_toArray, List.getElem?_cons_zero, List.getElem?_cons_succ, Option.getD_some, List.setIfInBounds_toArray, List.set_cons_zero, List.set_cons_succ])
    | (refine wpS_read (v := ?_) rfl ?_ ?_; rotate_left; (focus (intro w' hG; obtain ⟨b0, b1⟩ := late2 H0.out.1 (.inr hG); obtain ⟨c0, c1, c2, c3, c4⟩ := late5 H0.out.2.1 (.inr hG); go_simp; try (with_reducible rfl))); simp only [Act.put, List.setIfInBounds_toArray, List.set_cons_zero, List.set_cons_succ])
    | (refine wpS_skip rfl ?_; simp only [Act.put, List.setIfInBounds_toArray, List.set_cons_zero, List.set_cons_succ]))
  have g1 : Grow w ((w.alloc (.cells #[.int .i64 s, .int .i64 g] 37)).alloc (.cells #[.int .i64 o, .int .i64 p, .int .i64 f, .int .i64 l, .slice a n c] 24)).drew := H0.out.2.2.trans (Grow.refl _).drew
  refine wpS_call (f := ?_) (args := ?_) (by rfl) ?_ ?_
  rotate_left 2; focus (go_simp; constructor <;> with_reducible rfl)
  refine (HFE.out _ g1).mono ?_
  rintro e w1 ⟨v1, rfl, ho1, g2⟩
  refine ⟨_, rfl, g2, ?_⟩
  simp only [Act.put, List.setIfInBounds_toArray, List.set_cons_zero, List.set_cons_succ]
  refine wpS_call (f := ?_) (args := ?_) (by rfl) ?_ ?_
  rotate_left 2; focus (go_simp; constructor <;> with_reducible rfl)
  refine (HRQ.out w1 v1 ho1.rd).mono ?_
  rintro e w2 ⟨v2, rfl, ho2, g3⟩
  refine ⟨_, rfl, g3, ?_⟩
  simp only [Act.put, List.setIfInBounds_toArray, List.set_cons_zero, List.set_cons_succ]
  obtain ⟨a2, c2, rfl⟩ := ho2.shape
  have H2 : Hid (Rd .u8 w2.heap.size w2 (.slice a2 bs.length c2) bs ∧ Grow w w2) := ⟨ho2.rd, (g1.trans g2).trans g3⟩
  clear ho1 ho2 g1 g2 g3 H0 HFE HRQ
  repeat (first
    | (refine wpS_move rfl ?_; simp only [Act.eval, Act.put, Array.getD_eq_getD_getElem?, List.getElem?_toArray, List.getElem?_cons_zero, List.getElem?_cons_succ, Option.getD_some, List.setIfInBounds_toArray, List.set_cons_zero, List.set_cons_succ])
    | (refine wpS_assign rfl ?_; simp only [Act.eval, Act.put, Array.getD_eq_getD_getElem?, List.getElem?_toArray, List.getElem?_cons_zero, List.getElem?_cons_succ, Option.getD_some, List.setIfInBounds_toArray, List.set_cons_zero, List.set_cons_succ])
    | (refine wpS_read (v := ?_) rfl ?_ ?_; rotate_left; (focus (intro w' hG; go_simp; try (with_reducible rfl))); simp only [Act.put, List.setIfInBounds_toArray, List.set_cons_zero, List.set_cons_succ])
    | (refine wpS_skip rfl ?_; simp only [Act.put, List.setIfInBounds_toArray, List.set_cons_zero, List.set_cons_succ]))
  refine wpS_nil ?_
  go_wp2_with fail
  refine (HAR.out _).mono ?_
  rintro e w3 ⟨rfl, rfl⟩
  clear HAR
  have hfe := fewB_any (.slice a2 bs.length c2) bs 200 200 _ w2 rfl H2.out.1 (by omega)
  rw [List.take_of_length_le (by have := HB.out.1; omega)] at hfe
  have HFEW : Hid (∀ u, Rd .u8 u.heap.size u (.slice a2 bs.length c2) bs → Calls Tryd.prog 17 #[.slice a2 bs.length c2, .int .i64 200] u fun e w' => ∃ v', e = .returned v' ∧ Own .u8 u.heap.size w' v' bs ∧ Below u.heap.size u w') := fun u hu => by
    have h := fewB_any (.slice a2 bs.length c2) bs 200 200 _ u rfl hu (by omega)
    rw [List.take_of_length_le (by have := HB.out.1; omega)] at h
    exact h
  go_wp2_with fail
  refine hfe.mono ?_
  rintro e w3 ⟨v3, rfl, ho3, g3⟩
  have H3 : Hid (Rd .u8 w2.heap.size w3 (.slice a2 bs.length c2) bs ∧ Grow w w3 ∧ w2.heap.size ≤ w3.heap.size) := ⟨H2.out.1.below g3, H2.out.2.trans g3, g3.size⟩
  obtain ⟨gt, ot, ct, rfl, hgt, hct, hcm, hcell, hfro, hset⟩ := Own.row ho3 HB.out.2.2.1
  have HO : Hid (∀ y, Own .u8 w2.heap.size (w3.setCell ⟨gt, ot + K, none⟩ (.int .u8 y)) (.slice (some ⟨gt, ot, none⟩) bs.length ct) (bs.set K y)) := hset
  have hKi : (K : Int) < (bs.length : Int) := by have := HB.out.2.2.1; omega
  have hu := upd_one w3 gt (ot + K) (.int .u8 y)
  have HU := hid hu
  have HGT := hid hgt
  generalize bs.getD K 0 = y0 at hcell
  clear hfe ho3 g3 hset hu hct hcm hgt
  go_upto_region 5 with fail
  refine wp_gen (fun u => Rd .u8 u.heap.size u (.slice a2 bs.length c2) bs ∧ Grow w u ∧ Rd .u8 u.heap.size u (.slice (some ⟨gt, ot, none⟩) bs.length ct) (bs.set K y)) ⟨Rd.mono (H3.out.1.below (HU.out.below H3.out.2.2 (fun i hi => by have := HGT.out; omega))) (Nat.le_trans H3.out.2.2 HU.out.size), UpdS.new H3.out.2.1 HU.out (fun i hi => by have := HGT.out; have := H2.out.2.size; omega), (HO.out y).rd⟩ ?_
  intro w4 h4
  have H4 := hid h4
  clear h4 hcell hfro HU HO H3 H2 HGT
  go_wp2_with fail
  refine (HFEW.out _ H4.out.1).mono ?_
  rintro e w5 ⟨v5, rfl, ho5, g5⟩
  have H5 : Hid (Rd .u8 w5.heap.size w5 (.slice a2 bs.length c2) bs ∧ Grow w w5 ∧ Rd .u8 w5.heap.size w5 (.slice (some ⟨gt, ot, none⟩) bs.length ct) (bs.set K y) ∧ Grow w4 w5) := ⟨RdB.grow H4.out.1 g5, H4.out.2.1.trans g5, RdB.grow H4.out.2.2 g5, g5⟩
  have hO := ho5
  have hl90 := HB.out.1
  have hBz : w4.heap.size ≤ w5.heap.size := g5.size
  clear ho5 g5
  go_wp2_with (at_builtin; refine wpList_app rfl (.tmp 36) (.tmp 38) 22 22 rfl i0 (.int .u8 0) 1 Tryd.underlying22 hi hz0' hz1 hz2 rfl rfl rfl (hO.alloc _) (Src.one (w := w5) Tryd.underlying22 .u8 y 5) (by simp only [maxLen, List.length_singleton]; omega) (by simp only [List.length_singleton]; omega) (by simp; omega) ?_)
  intro v6 w6 ho6 hb6
  have g56 : Grow w4 w6 := UpdS.new (H5.out.2.2.2.alloc _) (below_s hb6) (fun i hi => by omega)
  have H6 : Hid (Rd .u8 w6.heap.size w6 (.slice a2 bs.length c2) bs ∧ Grow w w6 ∧ Rd .u8 w6.heap.size w6 (.slice (some ⟨gt, ot, none⟩) bs.length ct) (bs.set K y) ∧ Rd .u8 w6.heap.size w6 v6 (bs ++ [y])) := ⟨RdB.grow H4.out.1 g56, H4.out.2.1.trans g56, RdB.grow H4.out.2.2 g56, ho6.rd⟩
  obtain ⟨a6, c6, rfl⟩ := ho6.shape
  generalize (bs ++ [y]).length = n6 at *
  clear hO hl90 hBz ho6 hb6 g56 H5 H4 HFEW
  have hsl := (slice_toB H6.out.1 K (by have := HB.out.2.2.1; omega)).1
  have HTK := hid (slice_toB H6.out.1 K (by have := HB.out.2.2.1; omega)).2
  go_wp2_with fail
  refine wp_region_sched (by kernel_rfl) [(0, false), (2, false), (3, false), (4, false), (5, false), (6, false), (7, false), (1, true), (8, true), (9, false)] (by kernel_rfl) (by kernel_rfl) rfl (fun _ _ d _ _ h => by cases d <;> exact h) ?_
  simp only [inOrder, List.filterMap_cons, List.filterMap_nil, List.getElem?_toArray, List.getElem?_cons_zero, List.getElem?_cons_succ, Option.map_some]
  repeat (first
    | (refine wpS_move rfl ?_; simp only [Act.eval, Act.put, Array.getD_eq_getD_getElem?, List.getElem?_toArray, List.getElem?_cons_zero, List.getElem?_cons_succ, Option.getD_some, List.setIfInBounds_toArray, List.set_cons_zero, List.set_cons_succ])
    | (refine wpS_assign rfl ?_; simp only [Act.eval, Act.put, Array.getD_eq_getD_getElem?, List.getElem?_toArray, List.getElem?_cons_zero, List.getElem?_cons_succ, Option.getD_some, List.setIfInBounds_toArray, List.set_cons_zero, List.set_cons_succ])
    | (refine wpS_read (v := ?_) rfl ?_ ?_; rotate_left; (focus (intro w' hG; have q9 := hsl w'; go_simp; try (with_reducible rfl))); simp only [Act.put, List.setIfInBounds_toArray, List.set_cons_zero, List.set_cons_succ])
    | (refine wpS_skip rfl ?_; simp only [Act.put, List.setIfInBounds_toArray, List.set_cons_zero, List.set_cons_succ]))
  have gd : Grow w6 w6.drew := (Grow.refl _).drew
  refine wpS_call (f := ?_) (args := ?_) (by rfl) ?_ ?_
  rotate_left 2; focus (go_simp; constructor <;> with_reducible rfl)
  refine (fewB_any (.slice a0 z0.length c0') z0 100 100 _ _ rfl (HV0.out _ (H6.out.2.1.trans gd)) (by omega)).mono ?_
  rintro e w7 ⟨v7, rfl, ho7, g7⟩
  refine ⟨_, rfl, g7, ?_⟩
  simp only [Act.put, List.setIfInBounds_toArray, List.set_cons_zero, List.set_cons_succ]
  obtain ⟨a7, c7, rfl⟩ := ho7.shape
  generalize (z0.take 100).length = n7 at *
  have g67 : Grow w6 w7 := gd.trans g7
  have HL : Hid (∀ v ∈ ([⟨a7, n7, c7⟩, ⟨a2, bs.length, c2⟩, ⟨some ⟨gt, ot, none⟩, bs.length, ct⟩, ⟨a2, K, c2⟩, ⟨a6, n6, c6⟩] : List Sv), ∃ z, Rd .u8 w7.heap.size w7 v.v z ∧ Byte z ∧ z.length ≤ 100) := fun v hv => by
    obtain ⟨hb1, hb2, hb3, hb4, hb5, hb6, hb7⟩ := HB.out
    rcases List.mem_cons.1 hv with rfl | hv
    · exact ⟨z0.take 100, ho7.rd, hb7.take 100, by rw [List.length_take]; omega⟩
    rcases List.mem_cons.1 hv with rfl | hv
    · exact ⟨bs, RdB.grow H6.out.1 g67, hb4, by omega⟩
    rcases List.mem_cons.1 hv with rfl | hv
    · exact ⟨bs.set K y, RdB.grow H6.out.2.2.1 g67, Oct.set hb4 K hb5 hb6, by rw [List.length_set]; omega⟩
    rcases List.mem_cons.1 hv with rfl | hv
    · exact ⟨bs.take K, RdB.grow HTK.out g67, hb4.take K, by rw [List.length_take]; omega⟩
    rcases List.mem_cons.1 hv with rfl | hv
    · exact ⟨bs ++ [y], RdB.grow H6.out.2.2.2 g67, Oct.append hb4 (fun q hq => by rcases List.mem_singleton.1 hq with rfl; exact ⟨hb5, hb6⟩), by rw [List.length_append, List.length_singleton]; omega⟩
    · cases hv
  refine wpS_act (by rfl) (exec_bs5 ⟨a7, n7, c7⟩ ⟨a2, bs.length, c2⟩ ⟨some ⟨gt, ot, none⟩, bs.length, ct⟩ ⟨a2, K, c2⟩ ⟨a6, n6, c6⟩ rfl rfl rfl rfl rfl rfl) ((Grow.refl _).alloc _) ?_
  simp only [Act.put, List.setIfInBounds_toArray, List.set_cons_zero, List.set_cons_succ]
  have H8 : Hid (BsAt (w7.alloc (.cells (([⟨a7, n7, c7⟩, ⟨a2, bs.length, c2⟩, ⟨some ⟨gt, ot, none⟩, bs.length, ct⟩, ⟨a2, K, c2⟩, ⟨a6, n6, c6⟩] : List Sv).map Sv.v).toArray 22)) w7.heap.size ([⟨a7, n7, c7⟩, ⟨a2, bs.length, c2⟩, ⟨some ⟨gt, ot, none⟩, bs.length, ct⟩, ⟨a2, K, c2⟩, ⟨a6, n6, c6⟩] : List Sv) 100 ∧ Grow w (w7.alloc (.cells (([⟨a7, n7, c7⟩, ⟨a2, bs.length, c2⟩, ⟨some ⟨gt, ot, none⟩, bs.length, ct⟩, ⟨a2, K, c2⟩, ⟨a6, n6, c6⟩] : List Sv).map Sv.v).toArray 22))) := ⟨bs_new w7 _ 100 (by show 5 ≤ 1000; omega) HL.out, (H6.out.2.1.trans g67).alloc _⟩
  generalize hW8 : (w7.alloc (.cells (([⟨a7, n7, c7⟩, ⟨a2, bs.length, c2⟩, ⟨some ⟨gt, ot, none⟩, bs.length, ct⟩, ⟨a2, K, c2⟩, ⟨a6, n6, c6⟩] : List Sv).map Sv.v).toArray 22)) = w8 at *
  clear hW8 hsl HTK ho7 g7 gd g67 HL HV0
  generalize w7.heap.size = g9 at *
  obtain ⟨L, hL⟩ : ∃ L : List Sv, L = ([⟨a7, n7, c7⟩, ⟨a2, bs.length, c2⟩, ⟨some ⟨gt, ot, none⟩, bs.length, ct⟩, ⟨a2, K, c2⟩, ⟨a6, n6, c6⟩] : List Sv) := ⟨_, rfl⟩
  rw [← hL] at H8
  have HLL : Hid (L.length = 5) := by rw [hL]; rfl
  clear hL H6
  repeat (first
    | (refine wpS_move rfl ?_; simp only [Act.eval, Act.put, Array.getD_eq_getD_getElem?, List.getElem?_toArray, List.getElem?_cons_zero, List.getElem?_cons_succ, Option.getD_some, List.setIfInBounds_toArray, List.set_cons_zero, List.set_cons_succ])
    | (refine wpS_assign rfl ?_; simp only [Act.eval, Act.put, Array.getD_eq_getD_getElem?, List.getElem?_toArray, List.getElem?_cons_zero, List.getElem?_cons_succ, Option.getD_some, List.setIfInBounds_toArray, List.set_cons_zero, List.set_cons_succ])
    | (refine wpS_read (v := ?_) rfl ?_ ?_; rotate_left; (focus (intro w' hG; go_simp; try (with_reducible rfl))); simp only [Act.put, List.setIfInBounds_toArray, List.set_cons_zero, List.set_cons_succ])
    | (refine wpS_skip rfl ?_; simp only [Act.put, List.setIfInBounds_toArray, List.set_cons_zero, List.set_cons_succ]))
  refine wpS_nil ?_
  go_wp2
  go_loopg [16, 17, 18, 19, 20] 5 (fun k i _ _ _ _ wr => ∃ j : Nat, k = 5 - j ∧ j ≤ 5 ∧ i = .int .i64 j ∧ Hid (BsAt wr g9 L 100 ∧ Grow w wr))
  case atStart => exact ⟨0, rfl, Nat.zero_le _, rfl, H8.out⟩
  case round =>
    obtain ⟨j, hk, hj, rfl, HJ⟩ := hrel
    clear H8
    by_cases hlt : j < 5
    · have hlt' : (j : Int) < 5 := by omega
      obtain ⟨x1, z1, hrd, hby, hln, fx⟩ := HJ.out.1.at (j := j) (by rw [HLL.out]; exact hlt)
      have hrp := fun u gu => readq_any u (.slice x1.a x1.n x1.c) z1 _ (hrd.below gu) hby (by omega)
      have hrr := fun u gu => rreadq_any u (.slice x1.a x1.n x1.c) z1 _ (hrd.below gu) hby (by omega)
      have hoz := oct_rdZ hby
      have HK : Hid (j < 5 ∧ gk = 5 - j) := ⟨hlt, hk⟩
      have HF := hid fx
      generalize rdN z1 0 = n0 at *
      generalize rdN z1 1 = n1 at *
      generalize rdN z1 2 = n2 at *
      generalize rdN z1 3 = n3 at *
      generalize rdN z1 4 = n4 at *
      generalize rdN z1 5 = n5 at *
      generalize rdE z1 = E at *
      generalize rdZ z1 = zz at *
      obtain ⟨xa, xn, xc⟩ := x1
      dsimp only at *
      have HRP : Hid (∀ u, Grow wr u → Calls Tryd.prog 19 #[.slice xa xn xc] u fun e w' => ∃ v, e = .returned (.tuple #[.agg #[.int .i64 n0, .int .i64 n1], .agg #[.int .i64 n2, .int .i64 n3, .int .i64 n4, .int .i64 n5, v], .int .i64 E]) ∧ Rd .u8 w'.heap.size w' v zz ∧ Grow u w') := hrp
      have HRR : Hid (∀ u, Grow wr u → Calls Tryd.prog 22 #[.slice xa xn xc] u fun e w' => ∃ v, e = .returned (.agg #[.int .i64 n0, .int .i64 n1, .int .i64 n2, .int .i64 n3, .int .i64 n4, .int .i64 n5, v, .int .i64 E]) ∧ Rd .u8 w'.heap.size w' v zz ∧ Grow u w') := hrr
      have HOZ := hid hoz
      have c0 := fx wr (Grow.refl _)
      clear hk hlt hrp hrr hoz hrd hby hln fx
      go_wp2_with fail
      refine (HRP.out _ (Grow.refl _)).mono ?_
      rintro e w7 ⟨u1, rfl, hu1, g7⟩
      obtain ⟨ua, uc, rfl⟩ := RdB.sl hu1
      have H7 : Hid (Rd .u8 w7.heap.size w7 (.slice ua zz.length uc) zz ∧ Grow wr w7) := ⟨hu1, g7⟩
      clear hu1 g7 c0 HRP
      go_upto_region 11 with fail
      have g78 : ∀ o1 o2, Grow w7 ((World.alloc w7 o1).alloc o2) := fun o1 o2 => ((Grow.refl w7).alloc o1).alloc o2
      refine wp_gen (fun u => VarAt u w7.heap.size [.int .i64 n0, .int .i64 n1] ∧ VarAt u (w7.heap.size + 1) [.int .i64 n2, .int .i64 n3, .int .i64 n4, .int .i64 n5, .slice ua zz.length uc] ∧ Rd .u8 u.heap.size u (.slice ua zz.length uc) zz ∧ Grow wr u) ⟨(VarAt.new w7 _ _).old _, VarAt.new2 w7 _ _ _, RdB.grow H7.out.1 (g78 _ _), H7.out.2.trans (g78 _ _)⟩ ?_
      intro w8 h8
      have H8 := hid h8
      have c0 := HF.out w8 h8.2.2.2
      clear h8 g78 H7
      generalize w7.heap.size = g7 at *
      go_wp2_with fail
      refine (HRR.out _ H8.out.2.2.2).mono ?_
      rintro e w9 ⟨u2, rfl, hu2, g89⟩
      obtain ⟨ub, ud, rfl⟩ := RdB.sl hu2
      have H9 : Hid (VarAt w9 g7 [.int .i64 n0, .int .i64 n1] ∧ VarAt w9 (g7 + 1) [.int .i64 n2, .int .i64 n3, .int .i64 n4, .int .i64 n5, .slice ua zz.length uc] ∧ Rd .u8 w9.heap.size w9 (.slice ua zz.length uc) zz ∧ Grow wr w9 ∧ Rd .u8 w9.heap.size w9 (.slice ub zz.length ud) zz) := ⟨H8.out.1.grow g89, H8.out.2.1.grow g89, RdB.grow H8.out.2.2.1 g89, H8.out.2.2.2.trans g89, hu2⟩
      clear hu2 g89 c0 H8 HRR
      go_upto_region 12 with fail
      have g9a : ∀ o1, Grow w9 (World.alloc w9 o1) := fun o1 => (Grow.refl w9).alloc o1
      refine wp_gen (fun u => VarAt u g7 [.int .i64 n0, .int .i64 n1] ∧ VarAt u (g7 + 1) [.int .i64 n2, .int .i64 n3, .int .i64 n4, .int .i64 n5, .slice ua zz.length uc] ∧ VarAt u w9.heap.size [.int .i64 n0, .int .i64 n1, .int .i64 n2, .int .i64 n3, .int .i64 n4, .int .i64 n5, .slice ub zz.length ud, .int .i64 E] ∧ Rd .u8 u.heap.size u (.slice ua zz.length uc) zz ∧ Rd .u8 u.heap.size u (.slice ub zz.length ud) zz ∧ Grow wr u) ⟨H9.out.1.grow (g9a _), H9.out.2.1.grow (g9a _), VarAt.new w9 _ _, RdB.grow H9.out.2.2.1 (g9a _), RdB.grow H9.out.2.2.2.2 (g9a _), H9.out.2.2.2.1.trans (g9a _)⟩ ?_
      intro wa ha
      have HA := hid ha
      clear ha g9a H9
      generalize w9.heap.size = g11 at *
      obtain ⟨⟨b0, b1⟩, -⟩ := HA.out.1.two
      obtain ⟨⟨c0, c1, c2', c3, c4⟩, -⟩ := HA.out.2.1.five
      obtain ⟨⟨d0, d1, d2, d3, d4, d5, d6, d7⟩, -⟩ := HA.out.2.2.1.eight
      have hsm := rsame_any wa n2 n3 n4 n5 n2 n3 n4 n5 ua ub zz.length zz.length uc ud zz zz _ _ HA.out.2.2.2.1 HA.out.2.2.2.2.1 HOZ.out HOZ.out
      rw [smE_self] at hsm
      go_wp2_with fail
      refine hsm.mono ?_
      rintro e wb ⟨rfl, gb⟩
      have HE : Hid (BsAt wb g9 L 100 ∧ Grow w wb) := ⟨HJ.out.1.grow (HA.out.2.2.2.2.2.trans gb), HJ.out.2.trans (HA.out.2.2.2.2.2.trans gb)⟩
      clear hsm gb HA HJ HF b0 b1 c0 c1 c2' c3 c4 d0 d1 d2 d3 d4 d5 d6 d7
      go_wp2
      go_roundg (5 - (j + 1))
      case measure => have := HK.out; omega
      case rel => exact ⟨j + 1, rfl, HK.out.1, by go_num, HE⟩
    · obtain rfl : j = 5 := by omega
      clear hlt hj hk
      go_wp2_with fail
      refine (HLV.out _ (HWT.out.grow HJ.out.2)).mono ?_
      rintro e w8 ⟨rfl, g8⟩
      go_wp2
      go_ret
      exact ⟨rfl, HJ.out.2.trans g8⟩
end Go.Proofs.YtdafamocnjfmjaaDoor
