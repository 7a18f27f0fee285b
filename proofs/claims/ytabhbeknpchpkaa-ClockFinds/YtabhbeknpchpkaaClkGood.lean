/-
  The walk of Good: flags, made such as may be. Conditions: each theorem's own.
-/
import Derived.Test.YtabhbeknpchpkaaClkSrch
import Derived.Deep.LoopGhost
import Derived.Deep.CutRange
namespace Go.Proofs.Ytabhbeknpchpkaa
open Go.RowKit
set_option linter.unusedVariables false
set_option linter.unusedSimpArgs false


theorem VarAt.setF4 {w : World} {b : Nat} {x0 x1 x2 x3 : Value} (h : VarAt w b [x0, x1, x2, x3]) (x y z t : Value) : VarAt ((((w.setCell ⟨b, 0, none⟩ x).setCell ⟨b, 1, none⟩ y).setCell ⟨b, 2, none⟩ z).setCell ⟨b, 3, none⟩ t) b [x, y, z, t] :=
  (((h.set 0 x).set 1 y).set 2 z).set 3 t
theorem updF4 (w : World) (b : Nat) (x y z t : Value) : UpdS (fun k => k = b) w ((((w.setCell ⟨b, 0, none⟩ x).setCell ⟨b, 1, none⟩ y).setCell ⟨b, 2, none⟩ z).setCell ⟨b, 3, none⟩ t) :=
  (((upd_one w b 0 x).trans (upd_one _ b 1 y)).trans (upd_one _ b 2 z)).trans (upd_one _ b 3 t)

/-- flags, made such as may be -/
def goodF (x : Fl) : Fl := if x.u then ⟨true, x.d, x.r, around x.p 3⟩ else Fl.zero
def goodL (zs : List Fl) : List Fl := if zs.length = 0 then [Fl.zero] else (zs.take 8).map goodF
theorem goodF_bd (x : Fl) : 0 ≤ (goodF x).p ∧ (goodF x).p ≤ 2 := by
  unfold goodF
  split
  · have := around_bd x.p 3 (by omega)
    exact ⟨this.1, by show around x.p 3 ≤ 2; omega⟩
  · exact ⟨Int.le_refl _, by decide⟩
theorem goodL_len (zs : List Fl) : 1 ≤ (goodL zs).length ∧ (goodL zs).length ≤ 8 := by
  unfold goodL
  split
  · simp
  · rw [List.length_map, List.length_take]; omega
theorem goodL_bd (zs : List Fl) : ∀ x ∈ goodL zs, 0 ≤ x.p ∧ x.p ≤ 2 := by
  intro x hx
  unfold goodL at hx
  split at hx
  · rw [List.mem_singleton] at hx
    subst hx; exact ⟨Int.le_refl _, by decide⟩
  · obtain ⟨y, _, rfl⟩ := List.mem_map.1 hx
    exact goodF_bd y

set_option maxRecDepth 8000 in
set_option maxHeartbeats 4000000 in
theorem good_any {p : Nat → Prop} (v : Value) (zs : List Fl) (w : World) (h : RdF p w v zs) (hwf : ∀ x ∈ zs, (Lit.int .i64 x.p).wf = true) :
    Calls Try.prog 10 #[v] w fun e w' => ∃ v', e = .returned v' ∧ RdF (fun i => w.heap.size ≤ i) w' v' (goodL zs) ∧ Grow w w' := by
  obtain ⟨i0, hinf, hz0, hz1, hz2⟩ := info_parts infoG
  have HR : Hid (RdF p w v zs ∧ ∀ x ∈ zs, (Lit.int .i64 x.p).wf = true) := ⟨h, hwf⟩
  obtain ⟨a, cp, rfl, h1, h2, -⟩ := h
  unfold maxLen at h2
  clear hwf
  go_enter Try.func10, Try.ntmps10
  go_wp2
  go_loopg [3, 4] zs.length (fun m ov iv wr => ∃ j : Nat, m = zs.length - j ∧ j ≤ zs.length ∧ j ≤ 8 ∧ iv = .int .i64 j ∧ Hid (OwnF (fun i => w.heap.size ≤ i) wr ov ((zs.take j).map goodF)) ∧ Hid (Grow w wr))
  case atStart => exact ⟨0, by omega, by omega, by omega, rfl, by rw [List.take_zero, List.map_nil]; exact OwnS.nil _ _ _ _ _, Grow.refl _⟩
  case round =>
    obtain ⟨j, hk, hj, hj8, rfl, HO, HG⟩ := hrel
    have HN : Hid (((zs.take j).map goodF).length = j) := by show _ = _; rw [List.length_map, take_len hj]
    obtain ⟨li, hli⟩ : ∃ li, li = ((zs.take j).map goodF).length := ⟨_, rfl⟩
    obtain ⟨a3, c3, hv⟩ := HO.out.shape
    rw [← hli] at hv
    subst hv
    have Hli : Hid (li = j) := by rw [hli]; exact HN
    by_cases hlt : j < zs.length
    · by_cases hlt8 : j < 8
      · have hle : (j : Int) < (zs.length : Int) := by omega
        have hle8 : (j : Int) < 8 := by omega
        have HL : Hid (j < zs.length ∧ gk = zs.length - j ∧ j < 8) := ⟨hlt, hk, hlt8⟩
        have hw1 : IntKind.i64.wrap ((j : Int) + 1) = ((j + 1 : Nat) : Int) := by rw [IntKind.wrap_i64]; omega
        obtain ⟨bb, oo, rfl, _, hbb, hin⟩ := rdF_at HR.out.1 hlt
        have HE : Hid ((zs.take (j + 1)).map goodF = (zs.take j).map goodF ++ [goodF (zs.getD j Fl.zero)]) := by
          show _ = _
          rw [take_next hlt, List.map_append]; rfl
        have hxw : (Lit.int .i64 (zs.getD j Fl.zero).p).wf = true := HR.out.2 _ (by rw [getD_is hlt]; exact List.getElem_mem hlt)
        have hin' := hin.grow HG.out
        have hbb' : bb < wr.heap.size := by have := HG.out.size; omega
        clear hin hk hj hj8 hlt hlt8 hli
        generalize zs.getD j Fl.zero = x at hin' HE hxw
        have hZ := VarAt.new wr [.bool false, .bool false, .bool false, .int .i64 (0 : Int)] 43
        have gZ : Grow wr (wr.alloc (.cells #[.bool false, .bool false, .bool false, .int .i64 (0 : Int)] 43)) := (Grow.refl _).alloc _
        obtain ⟨W0, hW0⟩ : ∃ W0, (wr.alloc (.cells #[.bool false, .bool false, .bool false, .int .i64 (0 : Int)] 43)) = W0 := ⟨_, rfl⟩
        have hZ' : VarAt W0 wr.heap.size [.bool false, .bool false, .bool false, .int .i64 (0 : Int)] := by rw [← hW0]; exact hZ
        have gZ' : Grow wr W0 := by rw [← hW0]; exact gZ
        have hin0 : FIn W0 bb (oo + j * 4) x := hin'.grow gZ'
        have HB : Hid (w.heap.size ≤ wr.heap.size) := HG.out.size
        obtain ⟨B, hB⟩ : ∃ B, wr.heap.size = B := ⟨_, rfl⟩
        rw [hB] at hZ' HB hbb'
        have HP : Hid (OwnF (fun i => w.heap.size ≤ i ∧ i < B) W0 (.slice a3 li c3) ((zs.take j).map goodF) ∧ Grow w W0) := by
          have ho := HO.out
          refine ⟨OwnS.grow (OwnS.mono ho (fun i hi hp => ⟨hp, by omega⟩)) gZ', HG.out.trans gZ'⟩
        obtain ⟨u, d, r, q⟩ := x
        clear hZ gZ HO
        have HW : Hid ((wr.alloc (.cells #[.bool false, .bool false, .bool false, .int .i64 (0 : Int)] 43)) = W0) := hW0
        have HBq : Hid (wr.heap.size = B) := hB
        have HZ : Hid (VarAt W0 B [.bool false, .bool false, .bool false, .int .i64 (0 : Int)]) := hZ'
        clear hW0 hB hZ' gZ'
        cases u
        · have HE2 : Hid ((zs.take (j + 1)).map goodF = (zs.take j).map goodF ++ [⟨false, false, false, 0⟩]) := HE.out
          have HY : Hid (VarAt W0 B [.bool false, .bool false, .bool false, .int .i64 (0 : Int)] ∧ OwnF (fun i => w.heap.size ≤ i ∧ i < B) W0 (.slice a3 li c3) ((zs.take j).map goodF) ∧ Grow w W0 ∧ w.heap.size ≤ B) := ⟨HZ.out, HP.out.1, HP.out.2, HB.out⟩
          clear HE hxw hin' HZ HP
          go_upto_region 6 with fail
          rw [HW.out, HBq.out]
          clear HW HBq
          obtain ⟨k0, k1, k2, k3⟩ := hin0
          obtain ⟨⟨m0, m1, m2, m3⟩, -⟩ := HY.out.1.four
          go_wp2_with (at_builtin; refine wpList_appS (f := Fl.cs) (k := 4) rfl (.tmp 39) (.tmp 41) 24 24 rfl Fl.cs_length (by omega) i0 (.agg #[.bool false, .bool false, .bool false, .int .i64 0]) 16 Try.underlying24 hinf hz0 hz1 hz2 rfl rfl rfl (OwnS.grow HY.out.2.1 ((Grow.refl W0).alloc _)) (src_oneG W0 ⟨false, false, false, 0⟩) (by simp only [maxLen, List.length_singleton]; rw [HN.out]; have := HL.out; omega) (by simp only [List.length_singleton]; rw [HN.out]; have := HL.out; omega) ?_)
          intro v4 w4 ho4 hu4
          have HF : Hid (OwnF (fun i => w.heap.size ≤ i) w4 v4 ((zs.take (j + 1)).map goodF) ∧ Grow w w4) := by
            have hsz : (W0.alloc (.cells #[.bool false, .bool false, .bool false, .int .i64 (0 : Int)] 43)).heap.size = W0.heap.size + 1 := World.size_alloc _ _
            refine ⟨?_, UpdS.new (HY.out.2.2.1.alloc _) hu4 (fun i hi => hi.1)⟩
            rw [HE2.out, List.map_take]
            refine OwnS.mono ho4 (fun i _ hi => ?_)
            have hi' : (w.heap.size ≤ i ∧ i < B) ∨ i = W0.heap.size + 1 := hi
            have := HY.out.2.2.1.size
            omega
          clear ho4 hu4 m0 m1 m2 m3
          go_wp2
          go_roundg (zs.length - (j + 1))
          case measure => have := HL.out; omega
          case rel => exact ⟨j + 1, rfl, HL.out.1, by have := HL.out; omega, rfl, HF.out.1, HF.out.2⟩
        · have hK : goodF ⟨true, d, r, q⟩ = ⟨true, d, r, around q 3⟩ := rfl
          have har := fun w' => around_any q 3 w' hxw (by omega) (by omega)
          have HE2 : Hid ((zs.take (j + 1)).map goodF = (zs.take j).map goodF ++ [⟨true, d, r, around q 3⟩]) := by rw [← hK]; exact HE.out
          clear HE hK hxw hin'
          generalize around q 3 = K at har HE2
          have hfin : VarAt ((((W0.drew.setCell ⟨B, 0, none⟩ (.bool true)).setCell ⟨B, 1, none⟩ (.bool d)).setCell ⟨B, 2, none⟩ (.bool r)).setCell ⟨B, 3, none⟩ (.int .i64 K)) B [.bool true, .bool d, .bool r, .int .i64 K] := (HZ.out.grow (Grow.refl _).drew).setF4 _ _ _ _
          have hu4 : UpdS (fun i => i = B) W0.drew ((((W0.drew.setCell ⟨B, 0, none⟩ (.bool true)).setCell ⟨B, 1, none⟩ (.bool d)).setCell ⟨B, 2, none⟩ (.bool r)).setCell ⟨B, 3, none⟩ (.int .i64 K)) := updF4 W0.drew B _ _ _ _
          have HY : Hid (VarAt ((((W0.drew.setCell ⟨B, 0, none⟩ (.bool true)).setCell ⟨B, 1, none⟩ (.bool d)).setCell ⟨B, 2, none⟩ (.bool r)).setCell ⟨B, 3, none⟩ (.int .i64 K)) B [.bool true, .bool d, .bool r, .int .i64 K] ∧ OwnF (fun i => w.heap.size ≤ i ∧ i < B) ((((W0.drew.setCell ⟨B, 0, none⟩ (.bool true)).setCell ⟨B, 1, none⟩ (.bool d)).setCell ⟨B, 2, none⟩ (.bool r)).setCell ⟨B, 3, none⟩ (.int .i64 K)) (.slice a3 li c3) ((zs.take j).map goodF) ∧ Grow w ((((W0.drew.setCell ⟨B, 0, none⟩ (.bool true)).setCell ⟨B, 1, none⟩ (.bool d)).setCell ⟨B, 2, none⟩ (.bool r)).setCell ⟨B, 3, none⟩ (.int .i64 K)) ∧ w.heap.size ≤ B) :=
            ⟨hfin, OwnS.upd (OwnS.grow HP.out.1 (Grow.refl _).drew) hu4 (fun i _ hi => by omega), UpdS.new HP.out.2.drew hu4 (fun i hi => by have := HB.out; omega), HB.out⟩
          have kx : ∀ w', UpdS (fun i => i = B) W0.drew w' → FIn w' bb (oo + j * 4) ⟨true, d, r, q⟩ := fun w' hu => (hin0.grow (Grow.refl _).drew).upd hu (by omega)
          go_upto_region 6 with fail
          rw [HW.out, HBq.out]
          clear HW HBq
          obtain ⟨k0, k1, k2, k3⟩ := hin0
          simp only [] at k0 k1 k2 k3
          go_wp2
          clear k0 k1 k2 k3
          obtain ⟨⟨m0, m1, m2, m3⟩, f0, f1, f2, f3⟩ := HZ.out.four
          refine wp_region_schedG (UpdS (fun i => i = B)) (UpdS.refl _) (fun _ _ _ => UpdS.trans) (by kernel_rfl) [(0, false), (1, false), (2, false), (3, false), (4, false), (5, false), (6, false), (7, false), (8, false), (9, false), (10, false), (11, false), (12, false), (13, false), (14, false), (15, true), (16, false), (17, true)] (by kernel_rfl) (by kernel_rfl) rfl (fun _ _ d _ _ h => by cases d <;> exact h) ?_
          simp only [inOrder, List.filterMap_cons, List.filterMap_nil, List.getElem?_toArray, List.getElem?_cons_zero, List.getElem?_cons_succ, Option.map_some]
          repeat (first
            | (refine wpS_move rfl ?_; simp only [Act.eval, Act.put, Array.getD_eq_getD_getElem?, List.getElem?_toArray, List.getElem?_cons_zero, List.getElem?_cons_succ, Option.getD_some, List.setIfInBounds_toArray, List.set_cons_zero, List.set_cons_succ])
            | (refine wpS_assign rfl ?_; simp only [Act.eval, Act.put, Array.getD_eq_getD_getElem?, List.getElem?_toArray, List.getElem?_cons_zero, List.getElem?_cons_succ, Option.getD_some, List.setIfInBounds_toArray, List.set_cons_zero, List.set_cons_succ])
            | (refine wpS_read (v := ?_) rfl ?_ ?_; rotate_left; (focus (intro w' hG; obtain ⟨k0, k1, k2, k3⟩ := kx w' hG; go_simp; try (with_reducible rfl))); simp only [Act.put, List.setIfInBounds_toArray, List.set_cons_zero, List.set_cons_succ])
            | (refine wpS_skip rfl ?_; simp only [Act.put, List.setIfInBounds_toArray, List.set_cons_zero, List.set_cons_succ]))
          refine wpS_call (f := ?_) (args := ?_) (by rfl) ?_ ?_
          rotate_left 2; focus (go_simp; constructor <;> with_reducible rfl)
          refine (har _).mono ?_
          rintro e w1 ⟨rfl, rfl⟩
          refine ⟨_, rfl, UpdS.refl _ _, ?_⟩
          simp only [Act.put, List.setIfInBounds_toArray, List.set_cons_zero, List.set_cons_succ]
          repeat (first
            | (refine wpS_move rfl ?_; simp only [Act.eval, Act.put, Array.getD_eq_getD_getElem?, List.getElem?_toArray, List.getElem?_cons_zero, List.getElem?_cons_succ, Option.getD_some, List.setIfInBounds_toArray, List.set_cons_zero, List.set_cons_succ])
            | (refine wpS_assign rfl ?_; simp only [Act.eval, Act.put, Array.getD_eq_getD_getElem?, List.getElem?_toArray, List.getElem?_cons_zero, List.getElem?_cons_succ, Option.getD_some, List.setIfInBounds_toArray, List.set_cons_zero, List.set_cons_succ])
            | (refine wpS_read (v := ?_) rfl ?_ ?_; rotate_left; (focus (intro w' hG; go_simp; try (with_reducible rfl))); simp only [Act.put, List.setIfInBounds_toArray, List.set_cons_zero, List.set_cons_succ])
            | (refine wpS_skip rfl ?_; simp only [Act.put, List.setIfInBounds_toArray, List.set_cons_zero, List.set_cons_succ]))
          refine wpS_store (w' := ((((W0.drew.setCell ⟨B, 0, none⟩ (.bool true)).setCell ⟨B, 1, none⟩ (.bool d)).setCell ⟨B, 2, none⟩ (.bool r)).setCell ⟨B, 3, none⟩ (.int .i64 K))) rfl (by go_simp) hu4 ?_
          simp only [Act.put, List.setIfInBounds_toArray, List.set_cons_zero, List.set_cons_succ]
          refine wpS_nil ?_
          clear kx har m0 m1 m2 m3 f0 f1 f2 f3 hfin hu4 HZ HP
          generalize ((((W0.drew.setCell ⟨B, 0, none⟩ (.bool true)).setCell ⟨B, 1, none⟩ (.bool d)).setCell ⟨B, 2, none⟩ (.bool r)).setCell ⟨B, 3, none⟩ (.int .i64 K)) = W2 at HY ⊢
          obtain ⟨⟨m0, m1, m2, m3⟩, -⟩ := HY.out.1.four
          go_wp2_with (at_builtin; refine wpList_appS (f := Fl.cs) (k := 4) rfl (.tmp 39) (.tmp 41) 24 24 rfl Fl.cs_length (by omega) i0 (.agg #[.bool false, .bool false, .bool false, .int .i64 0]) 16 Try.underlying24 hinf hz0 hz1 hz2 rfl rfl rfl (OwnS.grow HY.out.2.1 ((Grow.refl W2).alloc _)) (src_oneG W2 ⟨true, d, r, K⟩) (by simp only [maxLen, List.length_singleton]; rw [HN.out]; have := HL.out; omega) (by simp only [List.length_singleton]; rw [HN.out]; have := HL.out; omega) ?_)
          intro v4 w4 ho4 hu4
          have HF : Hid (OwnF (fun i => w.heap.size ≤ i) w4 v4 ((zs.take (j + 1)).map goodF) ∧ Grow w w4) := by
            have hsz : (W2.alloc (.cells #[.bool true, .bool d, .bool r, .int .i64 K] 43)).heap.size = W2.heap.size + 1 := World.size_alloc _ _
            refine ⟨?_, UpdS.new (HY.out.2.2.1.alloc _) hu4 (fun i hi => hi.1)⟩
            rw [HE2.out, List.map_take]
            refine OwnS.mono ho4 (fun i _ hi => ?_)
            have hi' : (w.heap.size ≤ i ∧ i < B) ∨ i = W2.heap.size + 1 := hi
            have := HY.out.2.2.1.size
            omega
          clear ho4 hu4 m0 m1 m2 m3
          go_wp2
          go_roundg (zs.length - (j + 1))
          case measure => have := HL.out; omega
          case rel => exact ⟨j + 1, rfl, HL.out.1, by have := HL.out; omega, rfl, HF.out.1, HF.out.2⟩
      · have hle : (j : Int) < (zs.length : Int) := by omega
        have hle8 : ¬ (j : Int) < 8 := by omega
        have hq : ((li : Int) == 0) = false := by rw [beq_eq_false_iff_ne]; have := Hli.out; omega
        have HE : Hid (goodL zs = (zs.take j).map goodF) := by
          show _ = _
          unfold goodL; rw [if_neg (by omega), show j = 8 by omega]
        clear hli hk hj hj8 hlt hlt8
        go_wp2
        go_ret
        refine ⟨_, rfl, ?_, HG.out⟩
        rw [HE.out]
        exact HO.out.rd
    · have hle : ¬ (j : Int) < (zs.length : Int) := by omega
      by_cases h0 : zs.length = 0
      · have hq : ((li : Int) == 0) = true := by rw [beq_iff_eq]; have := Hli.out; omega
        have HE : Hid (goodL zs = [⟨false, false, false, 0⟩]) := by
          show _ = _
          unfold goodL; rw [if_pos h0]; rfl
        have HF := hid (rd_oneG wr ⟨false, false, false, 0⟩)
        clear hli hk hj hj8 hlt h0
        go_wp2
        go_ret
        refine ⟨_, rfl, ?_, HG.out.alloc _⟩
        rw [HE.out]
        exact RdS.mono HF.out (fun i _ hi => by have := HG.out.size; omega)
      · have hq : ((li : Int) == 0) = false := by rw [beq_eq_false_iff_ne]; have := Hli.out; omega
        have HE : Hid (goodL zs = (zs.take j).map goodF) := by
          show _ = _
          unfold goodL; rw [if_neg h0, show j = zs.length by omega, List.take_of_length_le (by omega), List.take_of_length_le (Nat.le_refl _)]
        clear hli hk hj hj8 hlt h0
        go_wp2
        go_ret
        refine ⟨_, rfl, ?_, HG.out⟩
        rw [HE.out]
        exact HO.out.rd
end Go.Proofs.Ytabhbeknpchpkaa
