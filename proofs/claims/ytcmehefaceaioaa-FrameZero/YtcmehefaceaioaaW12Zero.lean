/-
  The walk of FrameZero. Conditions: the theorem's own.
-/
import Derived.Test.YtcmehefaceaioaaFraV
import Derived.Test.YtcmehefaceaioaaFraOs
import Derived.Deep.LoopGhost
import Derived.Deep.CutRange
namespace Go.Proofs.Ytcmehefaceaioaa
open Go.RowKit
set_option linter.unusedVariables false
set_option linter.unusedSimpArgs false

/-- an empty frame's cells, all of them -/
theorem FrAt.range {w : World} {b : Nat} (h : FrAt w b false false false 0 0 z32) : w.rangeAt b 0 zeroF.toList := fun j v hv => by
  rw [Nat.zero_add]
  have hj : j < 37 := by
    have := (List.getElem?_eq_some_iff.1 hv).1
    rw [Array.length_toList, zeroF_size] at this
    exact this
  by_cases h5 : j < 5
  · rw [zeroF_head h5] at hv
    rw [(h.1.2 j (by simpa using h5)).1]; exact hv
  · have e : j = 5 + (j - 5) := by omega
    rw [e] at hv ⊢
    rw [zeroF_tail (by omega)] at hv
    obtain ⟨b', o', ea, -, hc⟩ := h.2.rd.addr (by rw [z32_len]; omega)
    injection ea with ea
    injection ea with eb eo
    subst eb eo
    rw [hc (j - 5) (by rw [z32_len]; omega), z32_at (by omega)]
    exact hv
theorem zeroF_toArray : zeroF.toList.toArray = zeroF := by simp
theorem zeroF_infoL : (Try.prog.info? 28).map (·.size) = some zeroF.toList.length := by rw [Array.length_toList]; exact zeroF_info
theorem eq_frames (w : World) : (binOp .eql 28 (.agg zeroF) (.agg zeroF)).run Try.prog w = .ok (.bool true) w := by kernel_rfl

theorem guard_frames (w : World) (x y : Operand) : (eqGuard .eql 28 x y (.agg zeroF) (.agg zeroF)).run Try.prog w = .ok () w := by kernel_rfl

set_option maxRecDepth 16000 in
set_option maxHeartbeats 8000000 in
theorem frameZero_walk (ao : Option Addr) (co : Nat) (os : List DV) (pg : Int) (v2 : Value) (zs : List Int) (w : World) (hos : RdS DV.cs 5 (fun i => i < w.heap.size) w (.slice ao os.length co) os) (hok : ∀ z ∈ os, DV.Ok w z) (h2 : Rd .u8 w.heap.size w v2 zs) :
    Calls Try.prog 5 #[.slice ao os.length co, .int .i64 pg, v2] w fun e w' => e = .returned (.bool true) ∧ Grow w w' := by
  have hol := hos.len
  have hoc := hos.caps.2
  unfold maxLen at hol hoc
  obtain ⟨a2, c2, hv2⟩ := h2.v.shape
  subst hv2
  obtain ⟨W1, hW1⟩ : ∃ W1, w.alloc (.cells zeroF 28) = W1 := ⟨_, rfl⟩
  have F1 := FrAt.new w 28
  rw [hW1] at F1
  have g1 : Grow w W1 := by rw [← hW1]; exact (Grow.refl w).alloc _
  obtain ⟨b, hb⟩ : ∃ b, w.heap.size = b := ⟨_, rfl⟩
  rw [hb] at F1
  have H2 : Hid (Rd .u8 w.heap.size w (.slice a2 zs.length c2) zs) := h2
  have HB : Hid (w.heap.size ≤ b) := by show w.heap.size ≤ b; omega
  have H3 : Hid (∃ u d r p q bs, FS.Ok ⟨u, d, r, p, q, bs⟩ ∧ FrAt W1 b u d r p q bs ∧ Grow w W1) := ⟨_, _, _, _, _, _, FS.empty_ok, F1, g1⟩
  clear F1 g1 h2
  go_enter Try.func5, Try.ntmps5
  go_upto_region 2 with fail
  (try rw [zeroF_lit])
  (try rw [hW1])
  (try rw [hb])
  clear hW1 hb
  go_wp2
  go_loopg [8] 10 (fun k i wr => ∃ j : Nat, k = 10 - j ∧ j ≤ 10 ∧ i = .int .i64 j ∧ Hid (∃ u d r p q bs, FS.Ok ⟨u, d, r, p, q, bs⟩ ∧ FrAt wr b u d r p q bs ∧ Grow w wr))
  case atStart => exact ⟨0, rfl, Nat.zero_le _, rfl, H3⟩
  case round =>
    obtain ⟨j, hk, hj, rfl, HI⟩ := hrel
    have HK : Hid (gk = 10 - j) := hk
    clear hk H3
    by_cases hjo : j < os.length
    · have hjo' : (j : Int) < (os.length : Int) := by omega
      by_cases hj10 : j < 10
      · have hj10' : (j : Int) < 10 := by omega
        obtain ⟨u, d, r, p, q, bs, hs, hF, hg⟩ := HI.out
        obtain ⟨bo, oo, z, rfl, hbo, hzok, -, hzc⟩ := ds_at hos hok hjo
        obtain ⟨zd, zp, zo, zn, zb⟩ := z
        obtain ⟨⟨hzd, hzp, hzo, hzn⟩, ys, hys, hyo⟩ := hzok
        simp only at hzc hzd hzp hzo hzn hys
        obtain ⟨ab, cb, hzb⟩ := hys.shape
        subst hzb
        have hd := ldo_any ⟨u, d, r, p, q, bs⟩ hs b zd zp zo zn hzd hzo hzn _ ys wr hF ((hys.mono (fun i hi _ => by have := HB.out; omega)).grow hg) hyo
        have hs' := doS_ok (k := around zd 10) hs zp zo zn hyo
        generalize doS (around zd 10) ⟨u, d, r, p, q, bs⟩ zp zo zn ys = T at hd hs'
        obtain ⟨⟨u', d', r', p', q', bs'⟩, Z, E⟩ := T
        have HG : Hid (Grow w wr ∧ FS.Ok ⟨u', d', r', p', q', bs'⟩) := ⟨hg, hs'⟩
        obtain ⟨p0, p1, p2, p3, p4⟩ := hzc wr hg
        clear hs hF hg hzc hzd hzp hzo hzn hys hyo hs' HI
        go_wp2_with fail
        refine hd.mono ?_
        rintro e w5 ⟨rfl, F5, u5⟩
        have H5 : Hid (∃ u d r p q bs, FS.Ok ⟨u, d, r, p, q, bs⟩ ∧ FrAt w5 b u d r p q bs ∧ Grow w w5) := ⟨_, _, _, _, _, _, HG.out.2, F5, UpdS.new HG.out.1 u5 (fun i hi => by have := HB.out; omega)⟩
        clear hd F5 u5 p0 p1 p2 p3 p4
        go_wp2
        go_roundg (10 - (j + 1))
        case measure => have := HK.out; omega
        case rel => exact ⟨j + 1, rfl, by omega, by go_num, H5⟩
      · have hj10' : ¬ (j : Int) < 10 := by omega
        obtain ⟨u, d, r, p, q, bs, -, hF, hg⟩ := HI.out
        have hFl := fill_any _ zs 32 32 _ wr rfl (H2.out.v.grow hg).i (by omega)
        have HL : Hid ((fillL zs 32).length = 32) := fillL_length zs 32
        generalize fillL zs 32 = fs at hFl HL
        have H4 : Hid (FrAt wr b u d r p q bs ∧ Grow w wr ∧ b < wr.heap.size) := ⟨hF, hg, hF.lt⟩
        clear HK HI hF hg
        go_wp2_with fail
        refine hFl.mono ?_
        rintro e w5 ⟨v5, rfl, o5, g5⟩
        obtain ⟨a5, c5, hv5⟩ := o5.v.shape
        rw [HL.out] at hv5
        subst hv5
        have hL := load_yes w5 b _ _ _ _ _ _ (H4.out.1.grow g5) pg a5 c5 fs (o5.v.rd.mono (fun i _ hi => by have := H4.out.2.2; omega))
        have H5 : Hid (Grow w w5 ∧ OwnV (Value.int .u8) 0 (fun i => b < i) w5 (.slice a5 32 c5) fs ∧ b < w5.heap.size) := ⟨H4.out.2.1.trans g5, o5.v.mono (fun i _ hi => by have := H4.out.2.2; omega), by have := H4.out.2.2; have := g5.size; omega⟩
        clear hFl o5 g5 H4
        go_wp2_with fail
        refine hL.mono ?_
        rintro e w6 ⟨rfl, F6, u6⟩
        have hA := as_any w6 b _ _ _ _ _ _ F6
        have H6 : Hid (FrAt w6 b true false false 0 pg fs ∧ Grow w w6 ∧ OwnV (Value.int .u8) 0 (fun i => b < i) w6 (.slice a5 32 c5) fs ∧ b < w6.heap.size) := ⟨F6, UpdS.new H5.out.1 u6 (fun i hi => by have := HB.out; omega), H5.out.2.1.upd u6 (fun i _ hi e => by omega), F6.lt⟩
        clear hL F6 u6 H5
        go_wp2_with fail
        refine hA.mono ?_
        rintro e w7 ⟨rfl, g7⟩
        obtain ⟨W8, hW8⟩ : ∃ W8, w7.alloc (.cells #[.bool true, .bool false, .bool false, .int .i64 0, .int .i64 pg, .string (strOfNums fs)] 30) = W8 := ⟨_, rfl⟩
        obtain ⟨X, hX⟩ : ∃ X, w7.heap.size = X := ⟨_, rfl⟩
        have V8 : VarAt W8 X [.bool true, .bool false, .bool false, .int .i64 0, .int .i64 pg, .string (strOfNums fs)] := by rw [← hW8, ← hX]; exact VarAt.new w7 [.bool true, .bool false, .bool false, .int .i64 0, .int .i64 pg, .string (strOfNums fs)] 30
        have g8 : Grow w6 W8 := by rw [← hW8]; exact g7.alloc _
        have hZ := zero_any W8 b _ _ _ _ _ _ (H6.out.1.grow g8)
        have H8 : Hid (VarAt W8 X [.bool true, .bool false, .bool false, .int .i64 0, .int .i64 pg, .string (strOfNums fs)] ∧ Grow w W8 ∧ OwnV (Value.int .u8) 0 (fun i => b < i) W8 (.slice a5 32 c5) fs ∧ b < X) := ⟨V8, H6.out.2.1.trans g8, H6.out.2.2.1.grow g8, by have := H6.out.2.2.2; have := g7.size; omega⟩
        clear hA g7 V8 g8 H6
        go_wp2_with fail
        (try rw [hW8])
        (try rw [hX])
        refine hZ.mono ?_
        rintro e w9 ⟨rfl, F9, u9⟩
        have hA2 := as_any w9 b _ _ _ _ _ _ F9
        have H9 : Hid (FrAt w9 b false false false 0 0 z32 ∧ VarAt w9 X [.bool true, .bool false, .bool false, .int .i64 0, .int .i64 pg, .string (strOfNums fs)] ∧ Grow w w9 ∧ OwnV (Value.int .u8) 0 (fun i => b < i) w9 (.slice a5 32 c5) fs) := ⟨F9, H8.out.1.upd u9 (by have := H8.out.2.2.2; omega), UpdS.new H8.out.2.1 u9 (fun i hi => by have := HB.out; omega), H8.out.2.2.1.upd u9 (fun i _ hi e => by omega)⟩
        clear hZ F9 u9 hW8 hX H8
        go_wp2_with fail
        refine hA2.mono ?_
        rintro e w10 ⟨rfl, g10⟩
        obtain ⟨W11, hW11⟩ : ∃ W11, w10.alloc (.cells #[.bool false, .bool false, .bool false, .int .i64 0, .int .i64 0, .string (strOfNums z32)] 30) = W11 := ⟨_, rfl⟩
        obtain ⟨Y, hY⟩ : ∃ Y, w10.heap.size = Y := ⟨_, rfl⟩
        have V11 : VarAt W11 Y [.bool false, .bool false, .bool false, .int .i64 0, .int .i64 0, .string (strOfNums z32)] := by rw [← hW11, ← hY]; exact VarAt.new w10 [.bool false, .bool false, .bool false, .int .i64 0, .int .i64 0, .string (strOfNums z32)] 30
        have g11 : Grow w9 W11 := by rw [← hW11]; exact g10.alloc _
        have H11 : Hid (FrAt W11 b false false false 0 0 z32 ∧ VarAt W11 X [.bool true, .bool false, .bool false, .int .i64 0, .int .i64 pg, .string (strOfNums fs)] ∧ VarAt W11 Y [.bool false, .bool false, .bool false, .int .i64 0, .int .i64 0, .string (strOfNums z32)] ∧ Grow w W11 ∧ OwnV (Value.int .u8) 0 (fun i => b < i) W11 (.slice a5 32 c5) fs) := ⟨H9.out.1.grow g11, H9.out.2.1.grow g11, V11, H9.out.2.2.1.trans g11, H9.out.2.2.2.grow g11⟩
        clear hA2 g10 V11 g11 H9
        go_upto_region 11 with fail
        (try rw [hW11])
        (try rw [hY])
        clear hW11 hY
        have gd : Grow W11 W11.drew := (Grow.refl W11).drew
        have fx : ∀ w', Grow W11.drew w' → ((w'.cell? ⟨X, 0, none⟩ = some (.bool true) ∧ w'.cell? ⟨X, 1, none⟩ = some (.bool false) ∧ w'.cell? ⟨X, 2, none⟩ = some (.bool false) ∧ w'.cell? ⟨X, 3, none⟩ = some (.int .i64 0) ∧ w'.cell? ⟨X, 4, none⟩ = some (.int .i64 pg) ∧ w'.cell? ⟨X, 5, none⟩ = some (.string (strOfNums fs))) ∧ w'.cell? ⟨Y, 0, none⟩ = some (.bool false) ∧ w'.cell? ⟨Y, 1, none⟩ = some (.bool false) ∧ w'.cell? ⟨Y, 2, none⟩ = some (.bool false) ∧ w'.cell? ⟨Y, 3, none⟩ = some (.int .i64 0) ∧ w'.cell? ⟨Y, 4, none⟩ = some (.int .i64 0) ∧ w'.cell? ⟨Y, 5, none⟩ = some (.string (strOfNums z32))) := fun w' g => ⟨((H11.out.2.1.grow gd).grow g).six.1, ((H11.out.2.2.1.grow gd).grow g).six.1⟩
        have kc : ∀ w', Grow W11.drew w' → (convert 35 9 (.slice a5 32 c5)).run Try.prog w' = .ok (.string (strOfNums fs)) w' := fun w' g => ((H11.out.2.2.2.2.rd.grow gd).grow g).i.string 35 9 5 Try.underlying35 Try.underlying5 Try.underlying9
        have hE := rempty_any W11.drew
        refine wp_region_sched (by kernel_rfl) [(0, false), (1, false), (2, false), (3, false), (4, false), (5, false), (6, false), (7, false), (8, false), (9, false), (10, false), (11, false), (12, true), (13, false), (14, false), (15, false), (16, false), (17, false), (18, false), (19, false), (20, false), (21, false), (22, false), (23, true), (24, false), (25, false)] (by kernel_rfl) (by kernel_rfl) rfl (fun _ _ d _ _ h => by cases d <;> exact h) ?_
        simp only [inOrder, List.filterMap_cons, List.filterMap_nil, List.getElem?_toArray, List.getElem?_cons_zero, List.getElem?_cons_succ, Option.map_some]
        repeat (first
          | (refine wpS_move rfl ?_; simp only [Act.eval, Act.put, Array.getD_eq_getD_getElem?, List.getElem?_toArray, List.getElem?_cons_zero, List.getElem?_cons_succ, Option.getD_some, List.setIfInBounds_toArray, List.set_cons_zero, List.set_cons_succ])
          | (refine wpS_assign rfl ?_; simp only [Act.eval, Act.put, Array.getD_eq_getD_getElem?, List.getElem?_toArray, List.getElem?_cons_zero, List.getElem?_cons_succ, Option.getD_some, List.setIfInBounds_toArray, List.set_cons_zero, List.set_cons_succ])
          | (refine wpS_read (v := ?_) rfl ?_ ?_; rotate_left; (focus (intro w' hG; obtain ⟨⟨q0, q1, q2, q3, q4, q5⟩, r0, r1, r2, r3, r4, r5⟩ := fx w' hG; have q6 := kc w' hG; go_simp; try (with_reducible rfl))); simp only [Act.put, List.setIfInBounds_toArray, List.set_cons_zero, List.set_cons_succ])
          | (refine wpS_skip rfl ?_; simp only [Act.put, List.setIfInBounds_toArray, List.set_cons_zero, List.set_cons_succ]))
        refine wpS_call (f := ?_) (args := ?_) (by rfl) ?_ ?_
        rotate_left 2; focus (go_simp; constructor <;> with_reducible rfl)
        refine (hE).mono ?_
        rintro e w12 ⟨rfl, g12⟩
        refine ⟨_, rfl, g12, ?_⟩
        simp only [Act.put, List.setIfInBounds_toArray, List.set_cons_zero, List.set_cons_succ]
        have HF : Hid (∀ w', Grow w12 w' → w'.rangeAt b 0 zeroF.toList) := fun w' g => (((H11.out.1.grow gd).grow g12).grow g).range
        clear fx kc hE
        repeat (first
          | (refine wpS_move rfl ?_; simp only [Act.eval, Act.put, Array.getD_eq_getD_getElem?, List.getElem?_toArray, List.getElem?_cons_zero, List.getElem?_cons_succ, Option.getD_some, List.setIfInBounds_toArray, List.set_cons_zero, List.set_cons_succ])
          | (refine wpS_assign rfl ?_; simp only [Act.eval, Act.put, Array.getD_eq_getD_getElem?, List.getElem?_toArray, List.getElem?_cons_zero, List.getElem?_cons_succ, Option.getD_some, List.setIfInBounds_toArray, List.set_cons_zero, List.set_cons_succ])
          | (refine wpS_read (v := ?_) rfl ?_ ?_; rotate_left; (focus (intro w' hG; skip; go_simp; try (with_reducible rfl))); simp only [Act.put, List.setIfInBounds_toArray, List.set_cons_zero, List.set_cons_succ])
          | (refine wpS_skip rfl ?_; simp only [Act.put, List.setIfInBounds_toArray, List.set_cons_zero, List.set_cons_succ]))
        refine ⟨.agg zeroF.toList.toArray, yieldsIf_load_mid rfl 28 (.tmp 60) rfl b 0 rfl zeroF.toList _ HF.out Try.underlying28 rfl zeroF_infoL, ?_⟩
        simp only [Act.put, List.setIfInBounds_toArray, List.set_cons_zero, List.set_cons_succ]
        rw [zeroF_toArray]
        refine wpS_read (v := .agg zeroF) rfl (fun w' hG => by kernel_rfl) ?_
        simp only [Act.put, List.setIfInBounds_toArray, List.set_cons_zero, List.set_cons_succ]
        refine wpS_read (v := .bool true) rfl (fun w' hG => by simp only [execOp, Act.eval, Array.getD_eq_getD_getElem?, List.getElem?_toArray, List.getElem?_cons_zero, List.getElem?_cons_succ, Option.getD_some]; simp [eq_frames, guard_frames, Result.andThen]) ?_
        simp only [Act.put, List.setIfInBounds_toArray, List.set_cons_zero, List.set_cons_succ]
        repeat (first
          | (refine wpS_move rfl ?_; simp only [Act.eval, Act.put, Array.getD_eq_getD_getElem?, List.getElem?_toArray, List.getElem?_cons_zero, List.getElem?_cons_succ, Option.getD_some, List.setIfInBounds_toArray, List.set_cons_zero, List.set_cons_succ])
          | (refine wpS_assign rfl ?_; simp only [Act.eval, Act.put, Array.getD_eq_getD_getElem?, List.getElem?_toArray, List.getElem?_cons_zero, List.getElem?_cons_succ, Option.getD_some, List.setIfInBounds_toArray, List.set_cons_zero, List.set_cons_succ])
          | (refine wpS_read (v := ?_) rfl ?_ ?_; rotate_left; (focus (intro w' hG; skip; go_simp; try (with_reducible rfl))); simp only [Act.put, List.setIfInBounds_toArray, List.set_cons_zero, List.set_cons_succ])
          | (refine wpS_skip rfl ?_; simp only [Act.put, List.setIfInBounds_toArray, List.set_cons_zero, List.set_cons_succ]))
        refine wpS_call (f := ?_) (args := ?_) (by rfl) ?_ ?_
        rotate_left 2; focus (go_simp; constructor <;> with_reducible rfl)
        refine (lives_any w12).mono ?_
        rintro e w13 ⟨rfl, g13⟩
        refine ⟨_, rfl, g13, ?_⟩
        simp only [Act.put, List.setIfInBounds_toArray, List.set_cons_zero, List.set_cons_succ]
        repeat (first
          | (refine wpS_move rfl ?_; simp only [Act.eval, Act.put, Array.getD_eq_getD_getElem?, List.getElem?_toArray, List.getElem?_cons_zero, List.getElem?_cons_succ, Option.getD_some, List.setIfInBounds_toArray, List.set_cons_zero, List.set_cons_succ])
          | (refine wpS_assign rfl ?_; simp only [Act.eval, Act.put, Array.getD_eq_getD_getElem?, List.getElem?_toArray, List.getElem?_cons_zero, List.getElem?_cons_succ, Option.getD_some, List.setIfInBounds_toArray, List.set_cons_zero, List.set_cons_succ])
          | (refine wpS_read (v := ?_) rfl ?_ ?_; rotate_left; (focus (intro w' hG; skip; go_simp; try (with_reducible rfl))); simp only [Act.put, List.setIfInBounds_toArray, List.set_cons_zero, List.set_cons_succ])
          | (refine wpS_skip rfl ?_; simp only [Act.put, List.setIfInBounds_toArray, List.set_cons_zero, List.set_cons_succ]))
        refine wpS_nil ?_
        go_wp2
        go_ret
        exact ⟨rfl, ((H11.out.2.2.2.1.trans gd).trans g12).trans g13⟩
    · have hjo' : ¬ (j : Int) < (os.length : Int) := by omega
      obtain ⟨u, d, r, p, q, bs, -, hF, hg⟩ := HI.out
      have hFl := fill_any _ zs 32 32 _ wr rfl (H2.out.v.grow hg).i (by omega)
      have HL : Hid ((fillL zs 32).length = 32) := fillL_length zs 32
      generalize fillL zs 32 = fs at hFl HL
      have H4 : Hid (FrAt wr b u d r p q bs ∧ Grow w wr ∧ b < wr.heap.size) := ⟨hF, hg, hF.lt⟩
      clear HK HI hF hg
      go_wp2_with fail
      refine hFl.mono ?_
      rintro e w5 ⟨v5, rfl, o5, g5⟩
      obtain ⟨a5, c5, hv5⟩ := o5.v.shape
      rw [HL.out] at hv5
      subst hv5
      have hL := load_yes w5 b _ _ _ _ _ _ (H4.out.1.grow g5) pg a5 c5 fs (o5.v.rd.mono (fun i _ hi => by have := H4.out.2.2; omega))
      have H5 : Hid (Grow w w5 ∧ OwnV (Value.int .u8) 0 (fun i => b < i) w5 (.slice a5 32 c5) fs ∧ b < w5.heap.size) := ⟨H4.out.2.1.trans g5, o5.v.mono (fun i _ hi => by have := H4.out.2.2; omega), by have := H4.out.2.2; have := g5.size; omega⟩
      clear hFl o5 g5 H4
      go_wp2_with fail
      refine hL.mono ?_
      rintro e w6 ⟨rfl, F6, u6⟩
      have hA := as_any w6 b _ _ _ _ _ _ F6
      have H6 : Hid (FrAt w6 b true false false 0 pg fs ∧ Grow w w6 ∧ OwnV (Value.int .u8) 0 (fun i => b < i) w6 (.slice a5 32 c5) fs ∧ b < w6.heap.size) := ⟨F6, UpdS.new H5.out.1 u6 (fun i hi => by have := HB.out; omega), H5.out.2.1.upd u6 (fun i _ hi e => by omega), F6.lt⟩
      clear hL F6 u6 H5
      go_wp2_with fail
      refine hA.mono ?_
      rintro e w7 ⟨rfl, g7⟩
      obtain ⟨W8, hW8⟩ : ∃ W8, w7.alloc (.cells #[.bool true, .bool false, .bool false, .int .i64 0, .int .i64 pg, .string (strOfNums fs)] 30) = W8 := ⟨_, rfl⟩
      obtain ⟨X, hX⟩ : ∃ X, w7.heap.size = X := ⟨_, rfl⟩
      have V8 : VarAt W8 X [.bool true, .bool false, .bool false, .int .i64 0, .int .i64 pg, .string (strOfNums fs)] := by rw [← hW8, ← hX]; exact VarAt.new w7 [.bool true, .bool false, .bool false, .int .i64 0, .int .i64 pg, .string (strOfNums fs)] 30
      have g8 : Grow w6 W8 := by rw [← hW8]; exact g7.alloc _
      have hZ := zero_any W8 b _ _ _ _ _ _ (H6.out.1.grow g8)
      have H8 : Hid (VarAt W8 X [.bool true, .bool false, .bool false, .int .i64 0, .int .i64 pg, .string (strOfNums fs)] ∧ Grow w W8 ∧ OwnV (Value.int .u8) 0 (fun i => b < i) W8 (.slice a5 32 c5) fs ∧ b < X) := ⟨V8, H6.out.2.1.trans g8, H6.out.2.2.1.grow g8, by have := H6.out.2.2.2; have := g7.size; omega⟩
      clear hA g7 V8 g8 H6
      go_wp2_with fail
      (try rw [hW8])
      (try rw [hX])
      refine hZ.mono ?_
      rintro e w9 ⟨rfl, F9, u9⟩
      have hA2 := as_any w9 b _ _ _ _ _ _ F9
      have H9 : Hid (FrAt w9 b false false false 0 0 z32 ∧ VarAt w9 X [.bool true, .bool false, .bool false, .int .i64 0, .int .i64 pg, .string (strOfNums fs)] ∧ Grow w w9 ∧ OwnV (Value.int .u8) 0 (fun i => b < i) w9 (.slice a5 32 c5) fs) := ⟨F9, H8.out.1.upd u9 (by have := H8.out.2.2.2; omega), UpdS.new H8.out.2.1 u9 (fun i hi => by have := HB.out; omega), H8.out.2.2.1.upd u9 (fun i _ hi e => by omega)⟩
      clear hZ F9 u9 hW8 hX H8
      go_wp2_with fail
      refine hA2.mono ?_
      rintro e w10 ⟨rfl, g10⟩
      obtain ⟨W11, hW11⟩ : ∃ W11, w10.alloc (.cells #[.bool false, .bool false, .bool false, .int .i64 0, .int .i64 0, .string (strOfNums z32)] 30) = W11 := ⟨_, rfl⟩
      obtain ⟨Y, hY⟩ : ∃ Y, w10.heap.size = Y := ⟨_, rfl⟩
      have V11 : VarAt W11 Y [.bool false, .bool false, .bool false, .int .i64 0, .int .i64 0, .string (strOfNums z32)] := by rw [← hW11, ← hY]; exact VarAt.new w10 [.bool false, .bool false, .bool false, .int .i64 0, .int .i64 0, .string (strOfNums z32)] 30
      have g11 : Grow w9 W11 := by rw [← hW11]; exact g10.alloc _
      have H11 : Hid (FrAt W11 b false false false 0 0 z32 ∧ VarAt W11 X [.bool true, .bool false, .bool false, .int .i64 0, .int .i64 pg, .string (strOfNums fs)] ∧ VarAt W11 Y [.bool false, .bool false, .bool false, .int .i64 0, .int .i64 0, .string (strOfNums z32)] ∧ Grow w W11 ∧ OwnV (Value.int .u8) 0 (fun i => b < i) W11 (.slice a5 32 c5) fs) := ⟨H9.out.1.grow g11, H9.out.2.1.grow g11, V11, H9.out.2.2.1.trans g11, H9.out.2.2.2.grow g11⟩
      clear hA2 g10 V11 g11 H9
      go_upto_region 11 with fail
      (try rw [hW11])
      (try rw [hY])
      clear hW11 hY
      have gd : Grow W11 W11.drew := (Grow.refl W11).drew
      have fx : ∀ w', Grow W11.drew w' → ((w'.cell? ⟨X, 0, none⟩ = some (.bool true) ∧ w'.cell? ⟨X, 1, none⟩ = some (.bool false) ∧ w'.cell? ⟨X, 2, none⟩ = some (.bool false) ∧ w'.cell? ⟨X, 3, none⟩ = some (.int .i64 0) ∧ w'.cell? ⟨X, 4, none⟩ = some (.int .i64 pg) ∧ w'.cell? ⟨X, 5, none⟩ = some (.string (strOfNums fs))) ∧ w'.cell? ⟨Y, 0, none⟩ = some (.bool false) ∧ w'.cell? ⟨Y, 1, none⟩ = some (.bool false) ∧ w'.cell? ⟨Y, 2, none⟩ = some (.bool false) ∧ w'.cell? ⟨Y, 3, none⟩ = some (.int .i64 0) ∧ w'.cell? ⟨Y, 4, none⟩ = some (.int .i64 0) ∧ w'.cell? ⟨Y, 5, none⟩ = some (.string (strOfNums z32))) := fun w' g => ⟨((H11.out.2.1.grow gd).grow g).six.1, ((H11.out.2.2.1.grow gd).grow g).six.1⟩
      have kc : ∀ w', Grow W11.drew w' → (convert 35 9 (.slice a5 32 c5)).run Try.prog w' = .ok (.string (strOfNums fs)) w' := fun w' g => ((H11.out.2.2.2.2.rd.grow gd).grow g).i.string 35 9 5 Try.underlying35 Try.underlying5 Try.underlying9
      have hE := rempty_any W11.drew
      refine wp_region_sched (by kernel_rfl) [(0, false), (1, false), (2, false), (3, false), (4, false), (5, false), (6, false), (7, false), (8, false), (9, false), (10, false), (11, false), (12, true), (13, false), (14, false), (15, false), (16, false), (17, false), (18, false), (19, false), (20, false), (21, false), (22, false), (23, true), (24, false), (25, false)] (by kernel_rfl) (by kernel_rfl) rfl (fun _ _ d _ _ h => by cases d <;> exact h) ?_
      simp only [inOrder, List.filterMap_cons, List.filterMap_nil, List.getElem?_toArray, List.getElem?_cons_zero, List.getElem?_cons_succ, Option.map_some]
      repeat (first
        | (refine wpS_move rfl ?_; simp only [Act.eval, Act.put, Array.getD_eq_getD_getElem?, List.getElem?_toArray, List.getElem?_cons_zero, List.getElem?_cons_succ, Option.getD_some, List.setIfInBounds_toArray, List.set_cons_zero, List.set_cons_succ])
        | (refine wpS_assign rfl ?_; simp only [Act.eval, Act.put, Array.getD_eq_getD_getElem?, List.getElem?_toArray, List.getElem?_cons_zero, List.getElem?_cons_succ, Option.getD_some, List.setIfInBounds_toArray, List.set_cons_zero, List.set_cons_succ])
        | (refine wpS_read (v := ?_) rfl ?_ ?_; rotate_left; (focus (intro w' hG; obtain ⟨⟨q0, q1, q2, q3, q4, q5⟩, r0, r1, r2, r3, r4, r5⟩ := fx w' hG; have q6 := kc w' hG; go_simp; try (with_reducible rfl))); simp only [Act.put, List.setIfInBounds_toArray, List.set_cons_zero, List.set_cons_succ])
        | (refine wpS_skip rfl ?_; simp only [Act.put, List.setIfInBounds_toArray, List.set_cons_zero, List.set_cons_succ]))
      refine wpS_call (f := ?_) (args := ?_) (by rfl) ?_ ?_
      rotate_left 2; focus (go_simp; constructor <;> with_reducible rfl)
      refine (hE).mono ?_
      rintro e w12 ⟨rfl, g12⟩
      refine ⟨_, rfl, g12, ?_⟩
      simp only [Act.put, List.setIfInBounds_toArray, List.set_cons_zero, List.set_cons_succ]
      have HF : Hid (∀ w', Grow w12 w' → w'.rangeAt b 0 zeroF.toList) := fun w' g => (((H11.out.1.grow gd).grow g12).grow g).range
      clear fx kc hE
      repeat (first
        | (refine wpS_move rfl ?_; simp only [Act.eval, Act.put, Array.getD_eq_getD_getElem?, List.getElem?_toArray, List.getElem?_cons_zero, List.getElem?_cons_succ, Option.getD_some, List.setIfInBounds_toArray, List.set_cons_zero, List.set_cons_succ])
        | (refine wpS_assign rfl ?_; simp only [Act.eval, Act.put, Array.getD_eq_getD_getElem?, List.getElem?_toArray, List.getElem?_cons_zero, List.getElem?_cons_succ, Option.getD_some, List.setIfInBounds_toArray, List.set_cons_zero, List.set_cons_succ])
        | (refine wpS_read (v := ?_) rfl ?_ ?_; rotate_left; (focus (intro w' hG; skip; go_simp; try (with_reducible rfl))); simp only [Act.put, List.setIfInBounds_toArray, List.set_cons_zero, List.set_cons_succ])
        | (refine wpS_skip rfl ?_; simp only [Act.put, List.setIfInBounds_toArray, List.set_cons_zero, List.set_cons_succ]))
      refine ⟨.agg zeroF.toList.toArray, yieldsIf_load_mid rfl 28 (.tmp 60) rfl b 0 rfl zeroF.toList _ HF.out Try.underlying28 rfl zeroF_infoL, ?_⟩
      simp only [Act.put, List.setIfInBounds_toArray, List.set_cons_zero, List.set_cons_succ]
      rw [zeroF_toArray]
      refine wpS_read (v := .agg zeroF) rfl (fun w' hG => by kernel_rfl) ?_
      simp only [Act.put, List.setIfInBounds_toArray, List.set_cons_zero, List.set_cons_succ]
      refine wpS_read (v := .bool true) rfl (fun w' hG => by simp only [execOp, Act.eval, Array.getD_eq_getD_getElem?, List.getElem?_toArray, List.getElem?_cons_zero, List.getElem?_cons_succ, Option.getD_some]; simp [eq_frames, guard_frames, Result.andThen]) ?_
      simp only [Act.put, List.setIfInBounds_toArray, List.set_cons_zero, List.set_cons_succ]
      repeat (first
        | (refine wpS_move rfl ?_; simp only [Act.eval, Act.put, Array.getD_eq_getD_getElem?, List.getElem?_toArray, List.getElem?_cons_zero, List.getElem?_cons_succ, Option.getD_some, List.setIfInBounds_toArray, List.set_cons_zero, List.set_cons_succ])
        | (refine wpS_assign rfl ?_; simp only [Act.eval, Act.put, Array.getD_eq_getD_getElem?, List.getElem?_toArray, List.getElem?_cons_zero, List.getElem?_cons_succ, Option.getD_some, List.setIfInBounds_toArray, List.set_cons_zero, List.set_cons_succ])
        | (refine wpS_read (v := ?_) rfl ?_ ?_; rotate_left; (focus (intro w' hG; skip; go_simp; try (with_reducible rfl))); simp only [Act.put, List.setIfInBounds_toArray, List.set_cons_zero, List.set_cons_succ])
        | (refine wpS_skip rfl ?_; simp only [Act.put, List.setIfInBounds_toArray, List.set_cons_zero, List.set_cons_succ]))
      refine wpS_call (f := ?_) (args := ?_) (by rfl) ?_ ?_
      rotate_left 2; focus (go_simp; constructor <;> with_reducible rfl)
      refine (lives_any w12).mono ?_
      rintro e w13 ⟨rfl, g13⟩
      refine ⟨_, rfl, g13, ?_⟩
      simp only [Act.put, List.setIfInBounds_toArray, List.set_cons_zero, List.set_cons_succ]
      repeat (first
        | (refine wpS_move rfl ?_; simp only [Act.eval, Act.put, Array.getD_eq_getD_getElem?, List.getElem?_toArray, List.getElem?_cons_zero, List.getElem?_cons_succ, Option.getD_some, List.setIfInBounds_toArray, List.set_cons_zero, List.set_cons_succ])
        | (refine wpS_assign rfl ?_; simp only [Act.eval, Act.put, Array.getD_eq_getD_getElem?, List.getElem?_toArray, List.getElem?_cons_zero, List.getElem?_cons_succ, Option.getD_some, List.setIfInBounds_toArray, List.set_cons_zero, List.set_cons_succ])
        | (refine wpS_read (v := ?_) rfl ?_ ?_; rotate_left; (focus (intro w' hG; skip; go_simp; try (with_reducible rfl))); simp only [Act.put, List.setIfInBounds_toArray, List.set_cons_zero, List.set_cons_succ])
        | (refine wpS_skip rfl ?_; simp only [Act.put, List.setIfInBounds_toArray, List.set_cons_zero, List.set_cons_succ]))
      refine wpS_nil ?_
      go_wp2
      go_ret
      exact ⟨rfl, ((H11.out.2.2.2.1.trans gd).trans g12).trans g13⟩
end Go.Proofs.Ytcmehefaceaioaa
