/-
  The walk of the document's Turn. Conditions: the theorem's own.
-/
import Derived.Test.YtpkoiogdkaklfaaDevDoc2
namespace Go.Proofs.Ytpkoiogdkaklfaa
open Go.RowKit
set_option linter.unusedVariables false
set_option linter.unusedSimpArgs false

set_option maxRecDepth 8000 in
set_option maxHeartbeats 2000000 in
theorem qturn_any (p : Nat → Prop) (lv tv hv : Value) (las lat : List (List Int)) (hd : List Int) (w : World) (h : DocV p w lv tv hv las lat hd) (ok : DevOk las lat hd) (k pl y : Int) (hk : (Lit.int .i64 k).wf = true) (hpl : (Lit.int .i64 pl).wf = true) (hy : 0 ≤ y ∧ y < 256) (hp : ∀ i, w.heap.size ≤ i → p i) :
    Calls Try.prog 37 #[.agg #[lv, tv, hv], .int .i64 k, .int .i64 pl, .int .u8 y] w fun e w' => ∃ lv', e = .returned (.tuple #[.agg #[lv', tv, hv], .int .i64 (turnE las k pl)]) ∧ DocV p w' lv' tv hv (turnL las k pl y) lat hd ∧ Grow w w' := by
  have H : Hid (DocV p w lv tv hv las lat hd) := h
  obtain ⟨a, c, rfl, hc1, hc2⟩ := h.1.shape
  obtain ⟨a2, c2, rfl, hd1, hd2⟩ := h.2.1.shape
  obtain ⟨a3, c3, rfl⟩ := h.2.2.shape
  have bk := bounds_i64 hk
  have bp := bounds_i64 hpl
  have hlb := ok.2.2.2.2.2
  unfold maxLen at hc2 hd2
  by_cases hin : (0 ≤ k ∧ k < las.length) ∧ 0 ≤ pl ∧ pl < 20
  · obtain ⟨i, rfl⟩ := Int.eq_ofNat_of_zero_le hin.1.1
    obtain ⟨j, rfl⟩ := Int.eq_ofNat_of_zero_le hin.2.1
    have g1 : ¬ (i : Int) < 0 := by omega
    have g2 : ¬ (las.length : Int) ≤ (i : Int) := by omega
    have g3 : ¬ (j : Int) < 0 := by omega
    have g4 : ¬ 19 < (j : Int) := by omega
    have g5 : (j : Int) < 20 := by omega
    have hi : i < las.length := by omega
    have E : Hid (turnE las i j = 0 ∧ turnL las i j y = las.set i (turned (las.getD i []) j y)) := by
      have e : turnE las i j = 0 := if_pos hin
      exact ⟨e, by unfold turnL; rw [if_pos e]; rfl⟩
    rw [E.out.1, E.out.2]
    have HQ : Hid (DocV (fun i => p i ∧ i ≠ w.heap.size ∧ i ≠ w.heap.size + 1) w (.slice a las.length c) (.slice a2 lat.length c2) (.slice a3 hd.length c3) las lat hd) := H.out.mono (fun i hi h => ⟨h, by omega, by omega⟩)
    have hq : ∀ i, w.heap.size + 2 ≤ i → (p i ∧ i ≠ w.heap.size ∧ i ≠ w.heap.size + 1) := fun i hi => ⟨hp i (by omega), by omega, by omega⟩
    have hZ := ok.2.1 i hi
    have HV : Hid (VarAt ((w.alloc (.cells #[.slice a las.length c, .slice a2 lat.length c2, .slice a3 hd.length c3] 31)).alloc (.cells #[.slice none 0 0, .slice none 0 0, .slice none 0 0] 31)) w.heap.size [.slice a las.length c, .slice a2 lat.length c2, .slice a3 hd.length c3] ∧ VarAt ((w.alloc (.cells #[.slice a las.length c, .slice a2 lat.length c2, .slice a3 hd.length c3] 31)).alloc (.cells #[.slice none 0 0, .slice none 0 0, .slice none 0 0] 31)) (w.heap.size + 1) [.slice none 0 0, .slice none 0 0, .slice none 0 0] ∧ Grow w ((w.alloc (.cells #[.slice a las.length c, .slice a2 lat.length c2, .slice a3 hd.length c3] 31)).alloc (.cells #[.slice none 0 0, .slice none 0 0, .slice none 0 0] 31))) :=
      ⟨(VarAt.new w [.slice a las.length c, .slice a2 lat.length c2, .slice a3 hd.length c3] 31).old _, VarAt.new2 w _ _ _, ((Grow.refl w).alloc _).alloc _⟩
    obtain ⟨b1, o1, ai, ci, rfl, hb1, hcell, hr⟩ := h.1.at hi
    have hg0 : ∀ x z, Grow w ((w.alloc x).alloc z) := fun x z => ((Grow.refl w).alloc _).alloc _
    have hcell' : ∀ x z, ((w.alloc x).alloc z).cell? ⟨b1, o1 + i, none⟩ = some (.slice ai 20 ci) := fun x z => by rw [Below.cell (p := ⟨b1, o1 + i, none⟩) (hg0 x z) hb1, ← hZ.1]; exact hcell
    have hfw := fun x z => fewB_any _ _ 20 20 _ _ rfl (hr.grow (hg0 x z)).i (by omega)
    rw [hZ.1] at hfw
    have HTl : Hid (List.take 20 (las.getD i []) = las.getD i []) := List.take_of_length_le (by omega)
    have HTd : Hid (turned (las.getD i []) j y = (las.getD i []).set j (bits .xor .u8 ((las.getD i []).getD j 0) y)) := rfl
    have HZ2 : Hid ((turned (las.getD i []) j y).length = 20 ∧ Oct (turned (las.getD i []) j y)) := turned_ok hZ j hy
    have HZL : Hid ((las.getD i []).length = 20) := hZ.1
    have HI : Hid (i < las.length ∧ las.length ≤ 1024 ∧ j < 20) := ⟨hi, hlb, by omega⟩
    generalize turned (las.getD i []) j y = Y at HZ2 HTd
    generalize las.getD i [] = Z at hfw HTd HZL HTl
    clear h ok hin E hcell hr hZ hi
    go_enter Try.func37, Try.ntmps37
    go_wp2_with fail
    refine (hfw _ _).mono ?_
    rintro e w1 ⟨v1, rfl, ho1, hb1'⟩
    rw [HTl.out] at ho1
    generalize ((w.alloc (.cells #[.slice (some ⟨b1, o1, none⟩) las.length c, .slice a2 lat.length c2, .slice a3 hd.length c3] 31)).alloc (.cells #[.slice none 0 0, .slice none 0 0, .slice none 0 0] 31)) = w0 at HV ho1 hb1'
    have hs0 : w.heap.size + 2 ≤ w0.heap.size := HV.out.2.1.lt
    obtain ⟨g, o, n, hv, hgb, hgl, hnc, hcm, hcl, hfz, hset⟩ := ho1.v.row (j := j) (by rw [HZL.out]; exact HI.out.2.2)
    rw [HZL.out] at hv hnc
    subst hv
    have hO := hset (bits .xor .u8 (Z.getD j 0) y)
    rw [← HTd.out] at hO
    obtain ⟨x, hx⟩ : ∃ x, bits .xor .u8 (Z.getD j 0) y = x := ⟨_, rfl⟩
    rw [hx] at hO
    have hgw : w.heap.size + 2 ≤ g := by have : w0.heap.size ≤ g := hgb; omega
    have hgg : Grow w0 (w1.setCell ⟨g, o + j, none⟩ (.int .u8 x)) := UpdS.new (Grow.refl w0) ((Grow.s hb1').trans (UpdS.setCell (fun i => w0.heap.size ≤ i) ⟨g, o + j, none⟩ _ _ hgb)) (fun i hi => hi)
    have HM : Hid (Grow w0 (w1.setCell ⟨g, o + j, none⟩ (.int .u8 x)) ∧ OwnV (Value.int .u8) 0 (fun i => w.heap.size + 2 ≤ i) (w1.setCell ⟨g, o + j, none⟩ (.int .u8 x)) (.slice (some ⟨g, o, none⟩) 20 n) Y) := ⟨hgg, hO.mono (fun i _ hi => by have : w0.heap.size ≤ i := hi; omega)⟩
    generalize Z.getD j 0 = z0 at hcl hx
    have hcm' : n ≤ 9223372036854775807 := hcm
    obtain ⟨w2, hw2⟩ : ∃ w2, w1.setCell ⟨g, o + j, none⟩ (.int .u8 x) = w2 := ⟨_, rfl⟩
    rw [hw2] at HM
    have HM' := HM
    obtain ⟨⟨x0, x1, x2⟩, f0, f1, f2⟩ := (HV.out.1.grow HM.out.1).three
    have g02 : Grow w w2 := HV.out.2.2.trans HM.out.1
    have hwt := qwith_any (fun i => p i ∧ i ≠ w.heap.size ∧ i ≠ w.heap.size + 1) (.slice (some ⟨b1, o1, none⟩) las.length c) (.slice (some ⟨g, o, none⟩) 20 n) las Y i w2 (HQ.out.1.grow g02) (HM.out.2.rd.mono (fun j _ hj => hq j hj)) HI.out.1 HI.out.2.1 (fun j hj => hq j (by have := HM.out.1.size; omega))
    clear hset hO hcm ho1 hb1' hgg hgw hfw hcell'
    go_wp2_with fail
    refine hwt.mono ?_
    rintro e w3 ⟨v3, rfl, hr3, g3⟩
    obtain ⟨a4, c4, rfl, -⟩ := hr3.shape
    have g23 : Grow w0 w3 := HM.out.1.trans g3
    obtain ⟨⟨x0', x1', x2'⟩, f0', f1', f2'⟩ := (HV.out.1.grow g23).three
    have HV3 : Hid (VarAt (w3.setCell ⟨w.heap.size, 0, none⟩ (.slice a4 (las.set i Y).length c4)) w.heap.size [.slice a4 (las.set i Y).length c4, .slice a2 lat.length c2, .slice a3 hd.length c3] ∧ VarAt (w3.setCell ⟨w.heap.size, 0, none⟩ (.slice a4 (las.set i Y).length c4)) (w.heap.size + 1) [.slice none 0 0, .slice none 0 0, .slice none 0 0] ∧ Grow w (w3.setCell ⟨w.heap.size, 0, none⟩ (.slice a4 (las.set i Y).length c4)) ∧ DocV (fun i => p i ∧ i ≠ w.heap.size ∧ i ≠ w.heap.size + 1) (w3.setCell ⟨w.heap.size, 0, none⟩ (.slice a4 (las.set i Y).length c4)) (.slice a4 (las.set i Y).length c4) (.slice a2 lat.length c2) (.slice a3 hd.length c3) (las.set i Y) lat hd) := by
      have hu := upd_one w3 w.heap.size 0 (.slice a4 (las.set i Y).length c4)
      have hD : DocV (fun i => p i ∧ i ≠ w.heap.size ∧ i ≠ w.heap.size + 1) w3 (.slice a4 (las.set i Y).length c4) (.slice a2 lat.length c2) (.slice a3 hd.length c3) (las.set i Y) lat hd := ⟨hr3, (HQ.out.2.1.grow g02).grow g3, (HQ.out.2.2.grow g02).grow g3⟩
      exact ⟨(HV.out.1.grow g23).set 0 _, (HV.out.2.1.grow g23).upd hu (by omega), UpdS.new (g02.trans g3) hu (fun i hi => by omega), hD.upd hu (fun i _ hi e => hi.2.1 e)⟩
    generalize (las.set i Y).length = L4 at HV3 ⊢
    obtain ⟨w4, hw4⟩ : ∃ w4, w3.setCell ⟨w.heap.size, 0, none⟩ (.slice a4 L4 c4) = w4 := ⟨_, rfl⟩
    rw [hw4] at HV3
    have HV4 : Hid (VarAt ((((w4).setCell ⟨w.heap.size + 1, 0, none⟩ (.slice a4 L4 c4)).setCell ⟨w.heap.size + 1, 1, none⟩ (.slice a2 lat.length c2)).setCell ⟨w.heap.size + 1, 2, none⟩ (.slice a3 hd.length c3)) (w.heap.size + 1) [.slice a4 L4 c4, .slice a2 lat.length c2, .slice a3 hd.length c3] ∧ Grow w ((((w4).setCell ⟨w.heap.size + 1, 0, none⟩ (.slice a4 L4 c4)).setCell ⟨w.heap.size + 1, 1, none⟩ (.slice a2 lat.length c2)).setCell ⟨w.heap.size + 1, 2, none⟩ (.slice a3 hd.length c3)) ∧ DocV p ((((w4).setCell ⟨w.heap.size + 1, 0, none⟩ (.slice a4 L4 c4)).setCell ⟨w.heap.size + 1, 1, none⟩ (.slice a2 lat.length c2)).setCell ⟨w.heap.size + 1, 2, none⟩ (.slice a3 hd.length c3)) (.slice a4 L4 c4) (.slice a2 lat.length c2) (.slice a3 hd.length c3) (las.set i Y) lat hd) := by
      have hu := upd_three w4 (w.heap.size + 1) (.slice a4 L4 c4) (.slice a2 lat.length c2) (.slice a3 hd.length c3)
      exact ⟨((HV3.out.2.1.set 0 _).set 1 _).set 2 _, UpdS.new HV3.out.2.2.1 hu (fun i hi => by omega), (HV3.out.2.2.2.upd hu (fun i _ hi e => hi.2.2 e)).mono (fun i _ hi => hi.1)⟩
    obtain ⟨⟨z0', z1', z2'⟩, -⟩ := HV3.out.1.three
    obtain ⟨⟨y0, y1, y2⟩, e0, e1, e2⟩ := HV3.out.2.1.three
    clear hr3 g3 g23 hwt
    go_wp2
    exact bodyPost_ret_by (results_cell_tmp rfl _ _ _ _ rfl (load_D _ _ _ _ _ HV4.out.1)) rfl ⟨_, rfl, HV4.out.2.2, HV4.out.2.1⟩
  · have E : Hid (turnE las k pl = 4 ∧ turnL las k pl y = las) := by
      have e : turnE las k pl = 4 := if_neg hin
      exact ⟨e, by unfold turnL; rw [e]; rfl⟩
    rw [E.out.1, E.out.2]
    clear h ok E
    by_cases h0 : k < 0
    · clear hin
      go_enter Try.func37, Try.ntmps37
      go_wp2
      have hv2 := VarAt.new2 w (.cells #[.slice a las.length c, .slice a2 lat.length c2, .slice a3 hd.length c3] 31) [.slice a las.length c, .slice a2 lat.length c2, .slice a3 hd.length c3] 31
      have hg : Grow w ((w.alloc (.cells #[.slice a las.length c, .slice a2 lat.length c2, .slice a3 hd.length c3] 31)).alloc (.cells #[.slice a las.length c, .slice a2 lat.length c2, .slice a3 hd.length c3] 31)) := ((Grow.refl w).alloc _).alloc _
      exact bodyPost_ret_by (results_cell_tmp rfl _ _ _ _ rfl (load_D _ _ _ _ _ hv2)) rfl ⟨_, rfl, H.out.grow hg, hg⟩
    · by_cases h1 : (las.length : Int) ≤ k
      · clear hin
        go_enter Try.func37, Try.ntmps37
        go_wp2
        have hv2 := VarAt.new2 w (.cells #[.slice a las.length c, .slice a2 lat.length c2, .slice a3 hd.length c3] 31) [.slice a las.length c, .slice a2 lat.length c2, .slice a3 hd.length c3] 31
        have hg : Grow w ((w.alloc (.cells #[.slice a las.length c, .slice a2 lat.length c2, .slice a3 hd.length c3] 31)).alloc (.cells #[.slice a las.length c, .slice a2 lat.length c2, .slice a3 hd.length c3] 31)) := ((Grow.refl w).alloc _).alloc _
        exact bodyPost_ret_by (results_cell_tmp rfl _ _ _ _ rfl (load_D _ _ _ _ _ hv2)) rfl ⟨_, rfl, H.out.grow hg, hg⟩
      · by_cases h2 : pl < 0
        · clear hin
          go_enter Try.func37, Try.ntmps37
          go_wp2
          have hv2 := VarAt.new2 w (.cells #[.slice a las.length c, .slice a2 lat.length c2, .slice a3 hd.length c3] 31) [.slice a las.length c, .slice a2 lat.length c2, .slice a3 hd.length c3] 31
          have hg : Grow w ((w.alloc (.cells #[.slice a las.length c, .slice a2 lat.length c2, .slice a3 hd.length c3] 31)).alloc (.cells #[.slice a las.length c, .slice a2 lat.length c2, .slice a3 hd.length c3] 31)) := ((Grow.refl w).alloc _).alloc _
          exact bodyPost_ret_by (results_cell_tmp rfl _ _ _ _ rfl (load_D _ _ _ _ _ hv2)) rfl ⟨_, rfl, H.out.grow hg, hg⟩
        · have h3 : 19 < pl := by omega
          clear hin
          go_enter Try.func37, Try.ntmps37
          go_wp2
          have hv2 := VarAt.new2 w (.cells #[.slice a las.length c, .slice a2 lat.length c2, .slice a3 hd.length c3] 31) [.slice a las.length c, .slice a2 lat.length c2, .slice a3 hd.length c3] 31
          have hg : Grow w ((w.alloc (.cells #[.slice a las.length c, .slice a2 lat.length c2, .slice a3 hd.length c3] 31)).alloc (.cells #[.slice a las.length c, .slice a2 lat.length c2, .slice a3 hd.length c3] 31)) := ((Grow.refl w).alloc _).alloc _
          exact bodyPost_ret_by (results_cell_tmp rfl _ _ _ _ rfl (load_D _ _ _ _ _ hv2)) rfl ⟨_, rfl, H.out.grow hg, hg⟩
end Go.Proofs.Ytpkoiogdkaklfaa
