/-
  The walks of the document's Write and Turn. Conditions: each theorem's own.
-/
import Derived.Test.YtpkoiogdkaklfaaDevDoc
import Derived.Test.YtpkoiogdkaklfaaDevTurn
import Derived.Test.YtpkoiogdkaklfaaVars
namespace Go.Proofs.Ytpkoiogdkaklfaa
open Go.RowKit
set_option linter.unusedVariables false
set_option linter.unusedSimpArgs false

theorem upd_three (w : World) (b : Nat) (x y z : Value) : UpdS (fun k => k = b) w (((w.setCell ⟨b, 0, none⟩ x).setCell ⟨b, 1, none⟩ y).setCell ⟨b, 2, none⟩ z) := ((upd_one w b 0 x).trans (upd_one _ b 1 y)).trans (upd_one _ b 2 z)

set_option maxHeartbeats 2000000 in
theorem qwrite_any (p : Nat → Prop) (lv tv hv : Value) (las lat : List (List Int)) (hd : List Int) (w : World) (h : DocV p w lv tv hv las lat hd) (ok : DevOk las lat hd) (k : Int) (hk : (Lit.int .i64 k).wf = true) (v : Value) (zs : List Int) (B : Nat) (hz : Rd .u8 B w v zs) (ho : Oct zs) (hp : ∀ i, w.heap.size ≤ i → p i) :
    Calls Try.prog 38 #[.agg #[lv, tv, hv], .int .i64 k, v] w fun e w' => ∃ tv', e = .returned (.tuple #[.agg #[lv, tv', hv], .int .i64 (writeE las k zs.length)]) ∧ DocV p w' lv tv' hv las (writeL las lat k zs) hd ∧ Grow w w' := by
  have H : Hid (DocV p w lv tv hv las lat hd) := h
  obtain ⟨a, c, rfl, hc1, hc2⟩ := h.1.shape
  obtain ⟨a2, c2, rfl, hd1, hd2⟩ := h.2.1.shape
  obtain ⟨a3, c3, rfl⟩ := h.2.2.shape
  have bk := bounds_i64 hk
  have hlb := ok.2.2.2.2.2
  have hll := ok.1
  have hlm := hz.len
  have hz' := hz
  obtain ⟨av, cv, rfl, -⟩ := hz
  unfold maxLen at hc2 hd2 hlm
  by_cases hin : 0 ≤ k ∧ k < las.length
  · obtain ⟨i, rfl⟩ := Int.eq_ofNat_of_zero_le hin.1
    have g1 : ¬ (i : Int) < 0 := by omega
    have g2 : ¬ (las.length : Int) ≤ (i : Int) := by omega
    by_cases h16 : zs.length = 16
    · have E : Hid (writeE las i zs.length = 0 ∧ writeL las lat i zs = lat.set i (zs ++ le 4 (chk 0 zs : Nat))) := by
        have e : writeE las i zs.length = 0 := by unfold writeE; rw [if_pos hin, if_pos h16]
        exact ⟨e, by unfold writeL; rw [if_pos e]; rfl⟩
      rw [E.out.1, E.out.2]
      have HI : Hid (i < lat.length ∧ lat.length ≤ 1024) := ⟨by omega, by omega⟩
      have HL : Hid (zs.length ≤ 1000000) := by show zs.length ≤ _; omega
      rw [h16] at hz' ⊢
      have hrp := fun w' (hg : Grow w w') => rput_any _ zs _ w' (Rd.below hz'.size hg) ho HL.out
      have HV : Hid (VarAt ((w.alloc (.cells #[.slice a las.length c, .slice a2 lat.length c2, .slice a3 hd.length c3] 31)).alloc (.cells #[.slice none 0 0, .slice none 0 0, .slice none 0 0] 31)) w.heap.size [.slice a las.length c, .slice a2 lat.length c2, .slice a3 hd.length c3] ∧ VarAt ((w.alloc (.cells #[.slice a las.length c, .slice a2 lat.length c2, .slice a3 hd.length c3] 31)).alloc (.cells #[.slice none 0 0, .slice none 0 0, .slice none 0 0] 31)) (w.heap.size + 1) [.slice none 0 0, .slice none 0 0, .slice none 0 0] ∧ Grow w ((w.alloc (.cells #[.slice a las.length c, .slice a2 lat.length c2, .slice a3 hd.length c3] 31)).alloc (.cells #[.slice none 0 0, .slice none 0 0, .slice none 0 0] 31))) :=
        ⟨(VarAt.new w [.slice a las.length c, .slice a2 lat.length c2, .slice a3 hd.length c3] 31).old _, VarAt.new2 w _ _ _, ((Grow.refl w).alloc _).alloc _⟩
      have HQ : Hid (DocV (fun i => p i ∧ i ≠ w.heap.size ∧ i ≠ w.heap.size + 1) w (.slice a las.length c) (.slice a2 lat.length c2) (.slice a3 hd.length c3) las lat hd) := H.out.mono (fun i hi h => ⟨h, by omega, by omega⟩)
      have hq : ∀ i, w.heap.size + 2 ≤ i → (p i ∧ i ≠ w.heap.size ∧ i ≠ w.heap.size + 1) := fun i hi => ⟨hp i (by omega), by omega, by omega⟩
      generalize zs ++ le 4 (chk 0 zs : Nat) = Z at hrp
      clear h ok hll hin E h16 hz' ho hlm
      go_enter Try.func38, Try.ntmps38
      go_wp2
      generalize ((w.alloc (.cells #[.slice a las.length c, .slice a2 lat.length c2, .slice a3 hd.length c3] 31)).alloc (.cells #[.slice none 0 0, .slice none 0 0, .slice none 0 0] 31)) = w0 at HV ⊢
      have hv0 : ∀ w', Grow w0.drew w' → w'.cell? ⟨w.heap.size, 1, none⟩ = some (.slice a2 lat.length c2) := fun w' g => ((HV.out.1.grow ((Grow.refl w0).drew.trans g)).three).1.2.1
      refine wp_region_last 7 (by kernel_rfl) [(0, false), (1, false), (2, false), (3, false), (4, true), (5, true), (6, false)] (by kernel_rfl) (by kernel_rfl) rfl (fun _ _ d _ _ h => by cases d <;> exact h) ?_
      simp only [inOrder, List.filterMap_cons, List.filterMap_nil, List.getElem?_toArray, List.getElem?_cons_zero, List.getElem?_cons_succ, Option.map_some]
      repeat (first
        | (refine wpS_move rfl ?_; simp only [Act.eval, Act.put, Array.getD_eq_getD_getElem?, List.getElem?_toArray, List.getElem?_cons_zero, List.getElem?_cons_succ, Option.getD_some, List.setIfInBounds_toArray, List.set_cons_zero, List.set_cons_succ])
        | (refine wpS_assign rfl ?_; simp only [Act.eval, Act.put, Array.getD_eq_getD_getElem?, List.getElem?_toArray, List.getElem?_cons_zero, List.getElem?_cons_succ, Option.getD_some, List.setIfInBounds_toArray, List.set_cons_zero, List.set_cons_succ])
        | (refine wpS_read (v := ?_) rfl ?_ ?_; rotate_left; (focus (intro w' hG; have q0 := hv0 w' hG; go_simp; try (with_reducible rfl))); simp only [Act.put, List.setIfInBounds_toArray, List.set_cons_zero, List.set_cons_succ])
        | (refine wpS_skip rfl ?_; simp only [Act.put, List.setIfInBounds_toArray, List.set_cons_zero, List.set_cons_succ]))
      refine wpS_call (f := ?_) (args := ?_) (by rfl) ?_ ?_
      rotate_left 2; focus (go_simp; constructor <;> with_reducible rfl)
      refine (hrp w0.drew (HV.out.2.2.trans (Grow.refl w0).drew)).mono ?_
      rintro e w1 ⟨v1, rfl, ho1, g1⟩
      refine ⟨v1, rfl, g1, ?_⟩
      simp only [Act.put, List.setIfInBounds_toArray, List.set_cons_zero, List.set_cons_succ]
      have g01 : Grow w w1 := (HV.out.2.2.trans (Grow.refl w0).drew).trans g1
      have hs0 : w.heap.size + 2 ≤ w0.drew.heap.size := HV.out.2.1.lt
      have HS1 : Hid (w.heap.size + 2 ≤ w1.heap.size) := Nat.le_trans hs0 g1.size
      have hwt := qwith_any (fun i => p i ∧ i ≠ w.heap.size ∧ i ≠ w.heap.size + 1) (.slice a2 lat.length c2) v1 lat Z i w1 (HQ.out.2.1.grow g01) (ho1.v.rd.mono (fun j _ hj => hq j (by omega))) HI.out.1 HI.out.2 (fun j hj => hq j (by have := HS1.out; omega))
      refine wpS_call (f := ?_) (args := ?_) (by rfl) ?_ ?_
      rotate_left 2; focus (go_simp; constructor <;> with_reducible rfl)
      refine (hwt).mono ?_
      rintro e w2 ⟨v2, rfl, hr2, g2⟩
      refine ⟨v2, rfl, g2, ?_⟩
      simp only [Act.put, List.setIfInBounds_toArray, List.set_cons_zero, List.set_cons_succ]
      repeat (first
        | (refine wpS_move rfl ?_; simp only [Act.eval, Act.put, Array.getD_eq_getD_getElem?, List.getElem?_toArray, List.getElem?_cons_zero, List.getElem?_cons_succ, Option.getD_some, List.setIfInBounds_toArray, List.set_cons_zero, List.set_cons_succ])
        | (refine wpS_assign rfl ?_; simp only [Act.eval, Act.put, Array.getD_eq_getD_getElem?, List.getElem?_toArray, List.getElem?_cons_zero, List.getElem?_cons_succ, Option.getD_some, List.setIfInBounds_toArray, List.set_cons_zero, List.set_cons_succ])
        | (refine wpS_read (v := ?_) rfl ?_ ?_; rotate_left; (focus (intro w' hG; skip; go_simp; try (with_reducible rfl))); simp only [Act.put, List.setIfInBounds_toArray, List.set_cons_zero, List.set_cons_succ])
        | (refine wpS_skip rfl ?_; simp only [Act.put, List.setIfInBounds_toArray, List.set_cons_zero, List.set_cons_succ]))
      refine wpS_nil ?_
      have g02 : Grow w0 w2 := ((Grow.refl w0).drew.trans g1).trans g2
      obtain ⟨⟨x0, x1, x2⟩, f0, f1, f2⟩ := (HV.out.1.grow g02).three
      have HV3 : Hid (VarAt (w2.setCell ⟨w.heap.size, 1, none⟩ v2) w.heap.size [.slice a las.length c, v2, .slice a3 hd.length c3] ∧ VarAt (w2.setCell ⟨w.heap.size, 1, none⟩ v2) (w.heap.size + 1) [.slice none 0 0, .slice none 0 0, .slice none 0 0] ∧ Grow w (w2.setCell ⟨w.heap.size, 1, none⟩ v2) ∧ DocV (fun i => p i ∧ i ≠ w.heap.size ∧ i ≠ w.heap.size + 1) (w2.setCell ⟨w.heap.size, 1, none⟩ v2) (.slice a las.length c) v2 (.slice a3 hd.length c3) las (lat.set i Z) hd) := by
        have hu := upd_one w2 w.heap.size 1 v2
        have hD : DocV (fun i => p i ∧ i ≠ w.heap.size ∧ i ≠ w.heap.size + 1) w2 (.slice a las.length c) v2 (.slice a3 hd.length c3) las (lat.set i Z) hd := ⟨(HQ.out.1.grow g01).grow g2, hr2, (HQ.out.2.2.grow g01).grow g2⟩
        exact ⟨(HV.out.1.grow g02).set 1 v2, (HV.out.2.1.grow g02).upd hu (by omega), UpdS.new (g01.trans g2) hu (fun i hi => by omega), hD.upd hu (fun i _ hi e => hi.2.1 e)⟩
      obtain ⟨a4, c4, rfl, -⟩ := hr2.shape
      refine last_store (w' := w2.setCell ⟨w.heap.size, 1, none⟩ (.slice a4 (lat.set i Z).length c4)) rfl rfl (by go_simp) ?_
      simp only [Act.put, List.setIfInBounds_toArray, List.set_cons_zero, List.set_cons_succ]
      clear x0 x1 x2 f0 f1 f2 hr2 g2 g1 g01 ho1 g02 hwt hrp hv0
      generalize w2.setCell ⟨w.heap.size, 1, none⟩ (.slice a4 (lat.set i Z).length c4) = w3 at HV3 ⊢
      obtain ⟨⟨x0, x1, x2⟩, -⟩ := HV3.out.1.three
      obtain ⟨⟨y0, y1, y2⟩, f0, f1, f2⟩ := HV3.out.2.1.three
      generalize (lat.set i Z).length = L4 at HV3 x0 x1 x2 ⊢
      have HV4 : Hid (VarAt (((w3.setCell ⟨w.heap.size + 1, 0, none⟩ (.slice a las.length c)).setCell ⟨w.heap.size + 1, 1, none⟩ (.slice a4 L4 c4)).setCell ⟨w.heap.size + 1, 2, none⟩ (.slice a3 hd.length c3)) (w.heap.size + 1) [.slice a las.length c, .slice a4 L4 c4, .slice a3 hd.length c3] ∧ Grow w (((w3.setCell ⟨w.heap.size + 1, 0, none⟩ (.slice a las.length c)).setCell ⟨w.heap.size + 1, 1, none⟩ (.slice a4 L4 c4)).setCell ⟨w.heap.size + 1, 2, none⟩ (.slice a3 hd.length c3)) ∧ DocV p (((w3.setCell ⟨w.heap.size + 1, 0, none⟩ (.slice a las.length c)).setCell ⟨w.heap.size + 1, 1, none⟩ (.slice a4 L4 c4)).setCell ⟨w.heap.size + 1, 2, none⟩ (.slice a3 hd.length c3)) (.slice a las.length c) (.slice a4 L4 c4) (.slice a3 hd.length c3) las (lat.set i Z) hd) := by
        have hu := upd_three w3 (w.heap.size + 1) (.slice a las.length c) (.slice a4 L4 c4) (.slice a3 hd.length c3)
        exact ⟨((HV3.out.2.1.set 0 _).set 1 _).set 2 _, UpdS.new HV3.out.2.2.1 hu (fun i hi => by omega), (HV3.out.2.2.2.upd hu (fun i _ hi e => hi.2.2 e)).mono (fun i _ hi => hi.1)⟩
      go_wp2
      exact bodyPost_ret_by (results_cell_tmp rfl _ _ _ _ rfl (load_D _ _ _ _ _ HV4.out.1)) rfl ⟨_, rfl, HV4.out.2.2, HV4.out.2.1⟩
    · have E : Hid (writeE las i zs.length = 2 ∧ writeL las lat i zs = lat) := by
        have e : writeE las i zs.length = 2 := by unfold writeE; rw [if_pos hin, if_neg h16]
        exact ⟨e, by unfold writeL; rw [e]; rfl⟩
      rw [E.out.1, E.out.2]
      have h16' : ¬ (zs.length : Int) = 16 := by omega
      clear h ok hll hin E h16 hz' ho
      go_enter Try.func38, Try.ntmps38
      go_wp2
      have hv2 := VarAt.new2 w (.cells #[.slice a las.length c, .slice a2 lat.length c2, .slice a3 hd.length c3] 31) [.slice a las.length c, .slice a2 lat.length c2, .slice a3 hd.length c3] 31
      have hg : Grow w ((w.alloc (.cells #[.slice a las.length c, .slice a2 lat.length c2, .slice a3 hd.length c3] 31)).alloc (.cells #[.slice a las.length c, .slice a2 lat.length c2, .slice a3 hd.length c3] 31)) := ((Grow.refl w).alloc _).alloc _
      exact bodyPost_ret_by (results_cell_tmp rfl _ _ _ _ rfl (load_D _ _ _ _ _ hv2)) rfl ⟨_, rfl, H.out.grow hg, hg⟩
  · have E : Hid (writeE las k zs.length = 4 ∧ writeL las lat k zs = lat) := by
      have e : writeE las k zs.length = 4 := by unfold writeE; rw [if_neg hin]
      exact ⟨e, by unfold writeL; rw [e]; rfl⟩
    rw [E.out.1, E.out.2]
    clear h ok hll E hz' ho
    by_cases h0 : k < 0
    · go_enter Try.func38, Try.ntmps38
      go_wp2
      have hv2 := VarAt.new2 w (.cells #[.slice a las.length c, .slice a2 lat.length c2, .slice a3 hd.length c3] 31) [.slice a las.length c, .slice a2 lat.length c2, .slice a3 hd.length c3] 31
      have hg : Grow w ((w.alloc (.cells #[.slice a las.length c, .slice a2 lat.length c2, .slice a3 hd.length c3] 31)).alloc (.cells #[.slice a las.length c, .slice a2 lat.length c2, .slice a3 hd.length c3] 31)) := ((Grow.refl w).alloc _).alloc _
      exact bodyPost_ret_by (results_cell_tmp rfl _ _ _ _ rfl (load_D _ _ _ _ _ hv2)) rfl ⟨_, rfl, H.out.grow hg, hg⟩
    · have h1 : (las.length : Int) ≤ k := by omega
      go_enter Try.func38, Try.ntmps38
      go_wp2
      have hv2 := VarAt.new2 w (.cells #[.slice a las.length c, .slice a2 lat.length c2, .slice a3 hd.length c3] 31) [.slice a las.length c, .slice a2 lat.length c2, .slice a3 hd.length c3] 31
      have hg : Grow w ((w.alloc (.cells #[.slice a las.length c, .slice a2 lat.length c2, .slice a3 hd.length c3] 31)).alloc (.cells #[.slice a las.length c, .slice a2 lat.length c2, .slice a3 hd.length c3] 31)) := ((Grow.refl w).alloc _).alloc _
      exact bodyPost_ret_by (results_cell_tmp rfl _ _ _ _ rfl (load_D _ _ _ _ _ hv2)) rfl ⟨_, rfl, H.out.grow hg, hg⟩
end Go.Proofs.Ytpkoiogdkaklfaa
