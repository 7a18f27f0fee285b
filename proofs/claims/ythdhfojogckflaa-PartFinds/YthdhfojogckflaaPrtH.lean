/-
  The walks of the document's New and Flags. Conditions: each theorem's own.
-/
import Derived.Test.YthdhfojogckflaaPrtG
namespace Go.Proofs.Ythdhfojogckflaa
open Go.RowKit
set_option linter.unusedVariables false
set_option linter.unusedSimpArgs false

theorem repl_succ (j : Nat) : List.replicate (j + 1) FS.empty = List.replicate j FS.empty ++ [FS.empty] := List.replicate_succ'
set_option maxRecDepth 8000 in
set_option maxHeartbeats 4000000 in
theorem qnew_any (n : Nat) (w : World) (hn : n ≤ 64) : Calls Try.prog 11 #[.int .i64 n] w fun e w' => ∃ a c, e = .returned (.agg #[.slice a n c, .int .i64 0]) ∧ RdQ (fun i => w.heap.size ≤ i) w' (.slice a n c) (List.replicate n FS.empty) ∧ Grow w w' := by
  obtain ⟨i0, hinf, hz0, hz1, hz2⟩ := info_parts infoQ
  obtain ⟨W, hW⟩ : ∃ W, (w.alloc (.cells #[.slice none 0 0, .int .i64 0] 30)).alloc (.cells #[.slice none 0 0, .int .i64 0] 30) = W := ⟨_, rfl⟩
  obtain ⟨X, hX⟩ : ∃ X, w.heap.size = X := ⟨_, rfl⟩
  have g0 : Grow w W := by rw [← hW]; exact ((Grow.refl w).alloc _).alloc _
  have V0 : VarAt W X [.slice none 0 0, .int .i64 0] := by rw [← hW, ← hX]; exact (VarAt.new w [.slice none 0 0, .int .i64 0] 30).old _
  have V1 : VarAt W (X + 1) [.slice none 0 0, .int .i64 0] := by rw [← hW, ← hX]; exact VarAt.new2 w _ [.slice none 0 0, .int .i64 0] 30
  have HR : Hid (Grow w W ∧ w.heap.size = X ∧ X + 2 ≤ W.heap.size) := ⟨g0, hX, by have := V1.lt; omega⟩
  have H0 : Hid (VarAt W (X + 1) [.slice none 0 0, .int .i64 0] ∧ VarAt W X [.slice none 0 0, .int .i64 0] ∧ OwnQ (fun i => X + 2 ≤ i) W (.slice none 0 0) (List.replicate 0 FS.empty) ∧ Grow w W) := ⟨V1, V0, OwnS.nil _ _ _ _ _, g0⟩
  have hem := fun w' => rempty_any w'
  clear g0 V0 V1
  go_enter Try.func11, Try.ntmps11
  go_upto_region 2 with fail
  (try rw [hW])
  (try rw [hX])
  clear hW hX
  go_wp2
  go_loopg [4] n (fun m iv wr => ∃ (j : Nat) (a : Option Addr) (nn c : Nat), m = n - j ∧ j ≤ n ∧ iv = .int .i64 j ∧ Hid (VarAt wr (X + 1) [.slice a nn c, .int .i64 0] ∧ VarAt wr X [.slice none 0 0, .int .i64 0] ∧ OwnQ (fun i => X + 2 ≤ i) wr (.slice a nn c) (List.replicate j FS.empty) ∧ Grow w wr))
  case atStart => exact ⟨0, _, _, _, rfl, by omega, rfl, H0⟩
  case round =>
    obtain ⟨j, a, nn, c, hj, hj2, rfl, HI⟩ := hrel
    have HK : Hid (gk = n - j) := hj
    clear hj
    by_cases hlt : j < n
    · have hle : (j : Int) < (n : Int) := by omega
      have HL : Hid (j < n) := hlt
      have hw0 : IntKind.i64.wrap ((j : Int) + 1) = ((j + 1 : Nat) : Int) := by rw [IntKind.wrap_i64]; omega
      have gd : Grow wr wr.drew := (Grow.refl wr).drew
      have k0 : ∀ w', UpdS (fun i => X + 2 ≤ i) wr.drew w' → w'.cell? ⟨X + 1, 0, none⟩ = some (.slice a nn c) := fun w' g => ((VarAt.upd (HI.out.1.grow gd) g (by omega)).two).1.1
      have he := hem wr.drew
      clear hlt
      go_wp2
      refine wp_region_lastG (UpdS (fun i => X + 2 ≤ i)) (UpdS.refl _) (fun _ _ _ => UpdS.trans) 6 (by kernel_rfl) [(0, false), (1, false), (2, true), (3, true), (4, true), (5, false)] (by kernel_rfl) (by kernel_rfl) rfl (fun _ _ d _ _ h => by cases d <;> exact h) ?_
      simp only [inOrder, List.filterMap_cons, List.filterMap_nil, List.getElem?_toArray, List.getElem?_cons_zero, List.getElem?_cons_succ, Option.map_some]
      repeat (first
        | (refine wpS_move rfl ?_; simp only [Act.eval, Act.put, Array.getD_eq_getD_getElem?, List.getElem?_toArray, List.getElem?_cons_zero, List.getElem?_cons_succ, Option.getD_some, List.setIfInBounds_toArray, List.set_cons_zero, List.set_cons_succ])
        | (refine wpS_assign rfl ?_; simp only [Act.eval, Act.put, Array.getD_eq_getD_getElem?, List.getElem?_toArray, List.getElem?_cons_zero, List.getElem?_cons_succ, Option.getD_some, List.setIfInBounds_toArray, List.set_cons_zero, List.set_cons_succ])
        | (refine wpS_read (v := ?_) rfl ?_ ?_; rotate_left; (focus (intro w' hG; have q0 := k0 w' hG; go_simp; try (with_reducible rfl))); simp only [Act.put, List.setIfInBounds_toArray, List.set_cons_zero, List.set_cons_succ])
        | (refine wpS_skip rfl ?_; simp only [Act.put, List.setIfInBounds_toArray, List.set_cons_zero, List.set_cons_succ]))
      refine wpS_call (f := ?_) (args := ?_) (by rfl) ?_ ?_
      rotate_left 2; focus (go_simp; constructor <;> with_reducible rfl)
      refine (he).mono ?_
      rintro e w1 ⟨rfl, g1⟩
      refine ⟨_, rfl, Grow.s g1, ?_⟩
      simp only [Act.put, List.setIfInBounds_toArray, List.set_cons_zero, List.set_cons_succ]
      refine wpS_act rfl (exec_oneQ (x := FS.empty) rfl rfl) (Grow.s ((Grow.refl _).alloc _)) ?_
      simp only [Act.put, List.setIfInBounds_toArray, List.set_cons_zero, List.set_cons_succ]
      have g2 : Grow wr (w1.alloc (.cells #[.bool FS.empty.u, .bool FS.empty.d, .bool FS.empty.r, .int .i64 FS.empty.p, .int .i64 FS.empty.q, .string (strOfNums FS.empty.bs)] 68)) := (gd.trans g1).alloc _
      have hjn : (List.replicate j FS.empty).length ≤ 64 := by rw [List.length_replicate]; omega
      obtain ⟨v5, w5, hrun, ho5, hu5⟩ := run_appS (P := Try.prog) FS.rc_length (by omega) 28 28 28 i0 (.agg #[.bool false, .bool false, .bool false, .int .i64 0, .int .i64 0, .string ⟨#[]⟩]) 40 Try.underlying28 hinf hz0 hz1 hz2 rfl (OwnS.grow HI.out.2.2.1 g2) (src_oneQ w1 FS.empty) (by simp only [maxLen, List.length_singleton]; omega) (by simp only [List.length_singleton]; omega)
      refine wpS_act (v := v5) (w' := w5) rfl (exec_app rfl rfl rfl hrun) hu5 ?_
      obtain ⟨a5, c5, hv5⟩ := ho5.shape
      rw [← repl_succ, List.length_replicate] at hv5
      rw [← repl_succ] at ho5
      subst hv5
      simp only [Act.put, List.setIfInBounds_toArray, List.set_cons_zero, List.set_cons_succ]
      repeat (first
        | (refine wpS_move rfl ?_; simp only [Act.eval, Act.put, Array.getD_eq_getD_getElem?, List.getElem?_toArray, List.getElem?_cons_zero, List.getElem?_cons_succ, Option.getD_some, List.setIfInBounds_toArray, List.set_cons_zero, List.set_cons_succ])
        | (refine wpS_assign rfl ?_; simp only [Act.eval, Act.put, Array.getD_eq_getD_getElem?, List.getElem?_toArray, List.getElem?_cons_zero, List.getElem?_cons_succ, Option.getD_some, List.setIfInBounds_toArray, List.set_cons_zero, List.set_cons_succ])
        | (refine wpS_read (v := ?_) rfl ?_ ?_; rotate_left; (focus (intro w' hG; skip; go_simp; try (with_reducible rfl))); simp only [Act.put, List.setIfInBounds_toArray, List.set_cons_zero, List.set_cons_succ])
        | (refine wpS_skip rfl ?_; simp only [Act.put, List.setIfInBounds_toArray, List.set_cons_zero, List.set_cons_succ]))
      refine wpS_nil ?_
      have V5 := (HI.out.1.grow g2).upd hu5 (by omega)
      have HF : Hid (VarAt (w5.setCell ⟨X + 1, 0, none⟩ (.slice a5 (j + 1) c5)) (X + 1) [.slice a5 (j + 1) c5, .int .i64 0] ∧ VarAt (w5.setCell ⟨X + 1, 0, none⟩ (.slice a5 (j + 1) c5)) X [.slice none 0 0, .int .i64 0] ∧ OwnQ (fun i => X + 2 ≤ i) (w5.setCell ⟨X + 1, 0, none⟩ (.slice a5 (j + 1) c5)) (.slice a5 (j + 1) c5) (List.replicate (j + 1) FS.empty) ∧ Grow w (w5.setCell ⟨X + 1, 0, none⟩ (.slice a5 (j + 1) c5))) := by
        have u6 := upd_one w5 (X + 1) 0 (.slice a5 (j + 1) c5)
        have hX := HR.out.2.1
        have hws : X + 2 ≤ w1.heap.size := by have := HI.out.1.lt; have h1 := g1.size; have h2 := gd.size; omega
        refine ⟨V5.set 0 _, ((HI.out.2.1.grow g2).upd hu5 (by omega)).upd u6 (by omega), OwnS.upd (OwnS.mono ho5 (fun i _ hi => hi.elim id (fun e => by rw [World.size_alloc] at e; omega))) u6 (fun i _ hi => by omega), UpdS.new (UpdS.new (HI.out.2.2.2.trans g2) hu5 (fun i hi => by omega)) u6 (fun i hi => by omega)⟩
      obtain ⟨⟨y0, y1⟩, f0, f1⟩ := V5.two
      clear k0 he g1 g2 gd hrun ho5 hu5 V5
      refine last_store (w' := w5.setCell ⟨X + 1, 0, none⟩ (.slice a5 (j + 1) c5)) rfl rfl (by go_simp) ?_
      simp only [Act.put, List.setIfInBounds_toArray, List.set_cons_zero, List.set_cons_succ]
      generalize w5.setCell ⟨X + 1, 0, none⟩ (.slice a5 (j + 1) c5) = w6 at HF ⊢
      clear y0 y1 f0 f1
      go_wp2
      go_roundg (n - (j + 1))
      case measure => have := HK.out; have := HL.out; omega
      case rel => exact ⟨j + 1, _, _, _, rfl, HL.out, by go_num, HF.out⟩
    · obtain rfl : n = j := by omega
      obtain ⟨⟨x0, x1⟩, -⟩ := HI.out.1.two
      obtain ⟨⟨y0, y1⟩, f0, f1⟩ := HI.out.2.1.two
      obtain ⟨ax, cx, hv⟩ := HI.out.2.2.1.shape
      rw [List.length_replicate] at hv
      have HE : Hid (Value.slice a nn c = Value.slice a n c) := by
        show Value.slice a nn c = _
        injection hv with _ h2 _
        rw [h2]
      have HF : Hid (VarAt ((wr.setCell ⟨X, 0, none⟩ (.slice a nn c)).setCell ⟨X, 1, none⟩ (.int .i64 0)) X [.slice a nn c, .int .i64 0] ∧ RdQ (fun i => w.heap.size ≤ i) ((wr.setCell ⟨X, 0, none⟩ (.slice a nn c)).setCell ⟨X, 1, none⟩ (.int .i64 0)) (.slice a nn c) (List.replicate n FS.empty) ∧ Grow w ((wr.setCell ⟨X, 0, none⟩ (.slice a nn c)).setCell ⟨X, 1, none⟩ (.int .i64 0))) := by
        have u2 := upd_pair wr X (.slice a nn c) (.int .i64 0)
        have hX := HR.out.2.1
        exact ⟨HI.out.2.1.set2 _ _, RdS.mono (RdS.upd (OwnS.rd HI.out.2.2.1) u2 (fun i _ hi => by omega)) (fun i _ hi => by omega), UpdS.new HI.out.2.2.2 u2 (fun i hi => by omega)⟩
      clear hv
      go_wp2
      refine bodyPost_ret_by (results_cell rfl _ _ _ _ rfl (load_P _ _ _ _ HF.out.1 rfl)) rfl ⟨a, c, ?_, ?_, HF.out.2.2⟩
      · rw [HE.out]
      · rw [← HE.out]; exact HF.out.2.1

set_option maxRecDepth 8000 in
set_option maxHeartbeats 4000000 in
theorem qflags_any {pq : Nat → Prop} (w : World) (a : Option Addr) (c : Nat) (L : List FS) (h : Int) (hr : RdQ pq w (.slice a L.length c) L) (hL : L.length ≤ 64) : Calls Try.prog 59 #[.agg #[.slice a L.length c, .int .i64 h]] w fun e w' => ∃ v', e = .returned v' ∧ RdF (fun i => w.heap.size ≤ i) w' v' (flsL L) ∧ Grow w w' := by
  obtain ⟨i0, hinf, hz0, hz1, hz2⟩ := info_parts infoG
  obtain ⟨W, hW⟩ : ∃ W, w.alloc (.cells #[.slice a L.length c, .int .i64 h] 30) = W := ⟨_, rfl⟩
  obtain ⟨X, hX⟩ : ∃ X, w.heap.size = X := ⟨_, rfl⟩
  have g0 : Grow w W := by rw [← hW]; exact (Grow.refl w).alloc _
  have V0 : VarAt W X [.slice a L.length c, .int .i64 h] := by rw [← hW, ← hX]; exact VarAt.new w [.slice a L.length c, .int .i64 h] 30
  have HR : Hid (RdQ pq W (.slice a L.length c) L ∧ Grow w W ∧ VarAt W X [.slice a L.length c, .int .i64 h] ∧ w.heap.size = X ∧ X < W.heap.size) := ⟨RdS.grow hr g0, g0, V0, hX, V0.lt⟩
  clear hr g0 V0
  go_enter Try.func59, Try.ntmps59
  go_upto_region 2 with fail
  (try rw [hW])
  (try rw [hX])
  clear hW hX
  go_wp2
  go_loopg [3, 4] L.length (fun m ov iv wr => ∃ (j : Nat) (ad : Option Addr) (nn cd : Nat), m = L.length - j ∧ j ≤ L.length ∧ ov = .slice ad nn cd ∧ iv = .int .i64 j ∧ Hid (OwnF (fun i => W.heap.size ≤ i) wr (.slice ad nn cd) ((flsL L).take j) ∧ Grow W wr))
  case atStart => exact ⟨0, _, _, _, rfl, by omega, rfl, rfl, by rw [List.take_zero]; exact ⟨OwnS.nil _ _ _ _ _, Grow.refl _⟩⟩
  case round =>
    obtain ⟨j, ad, nn, cd, hk, hj, rfl, rfl, HO⟩ := hrel
    obtain ⟨⟨v0, -⟩, -⟩ := (HR.out.2.2.1.grow HO.out.2).two
    by_cases hlt : j < L.length
    · have hle : (j : Int) < (L.length : Int) := by omega
      have HL : Hid (j < L.length ∧ gk = L.length - j) := ⟨hlt, hk⟩
      have hw1 : IntKind.i64.wrap ((j : Int) + 1) = ((j + 1 : Nat) : Int) := by rw [IntKind.wrap_i64]; omega
      obtain ⟨b, o, rfl⟩ := rdQ_addr HR.out.1 (by omega)
      have hin := rdQ_in HR.out.1 hlt
      have HE : Hid ((flsL L).take (j + 1) = (flsL L).take j ++ [(L.getD j FS.empty).fl]) := by
        show _ = _
        rw [take_next (by rw [flsL_len]; exact hlt), flsL_at hlt]
      have hTl : ((flsL L).take j).length ≤ 64 := by rw [List.length_take]; omega
      generalize L.getD j FS.empty = s at hin HE
      have gd : Grow wr wr.drew := (Grow.refl wr).drew
      have fx : ∀ w', UpdS (fun i => W.heap.size ≤ i) wr.drew w' → (w'.cell? ⟨X, 0, none⟩ = some (.slice (some ⟨b, o, none⟩) L.length c) ∧ QIn w' b (o + j * 6) s) := fun w' g => by
        have g2 : Grow W w' := UpdS.new (HO.out.2.trans gd) g (fun i hi => hi)
        obtain ⟨k0, k1, k2, k3, k4, k5⟩ := hin
        have hlt' := World.block_lt_of_cell? _ _ k0
        have hc := fun z => (g2.s (S := fun _ => False)).cell (p := ⟨b, z, none⟩) hlt' (fun f => f)
        exact ⟨(HR.out.2.2.1.grow g2).two.1.1, by rw [hc]; exact k0, by rw [hc]; exact k1, by rw [hc]; exact k2, by rw [hc]; exact k3, by rw [hc]; exact k4, by rw [hc]; exact k5⟩
      obtain ⟨v2, w2, hrun, ho2, hu2⟩ := run_appS (P := Try.prog) (w := wr.drew.alloc (.cells #[.bool s.u, .bool s.d, .bool s.r, .int .i64 s.p] 99)) Fl.cs_length (by omega) 94 94 94 i0 (.agg #[.bool false, .bool false, .bool false, .int .i64 0]) 16 Try.underlying94 hinf hz0 hz1 hz2 rfl (OwnS.grow HO.out.1 (gd.alloc _)) (src_oneG wr.drew s.fl) (by simp only [maxLen, List.length_singleton]; omega) (by simp only [List.length_singleton]; omega)
      have g1 : Grow wr.drew (wr.drew.alloc (.cells #[.bool s.u, .bool s.d, .bool s.r, .int .i64 s.p] 99)) := (Grow.refl _).alloc _
      have HF : Hid (OwnF (fun i => W.heap.size ≤ i) w2 v2 ((flsL L).take (j + 1)) ∧ Grow W w2) := by
        refine ⟨?_, UpdS.new (HO.out.2.trans (gd.trans g1)) hu2 (fun i hi => hi)⟩
        rw [HE.out]
        exact OwnS.mono ho2 (fun i _ hi => hi.elim id (fun e => by
          have h3 : (wr.drew.alloc (.cells #[.bool s.u, .bool s.d, .bool s.r, .int .i64 s.p] 99)).heap.size = wr.heap.size + 1 := World.size_alloc _ _
          have := HO.out.2.size; omega))
      have hu2' : UpdS (fun i => W.heap.size ≤ i) (wr.drew.alloc (.cells #[.bool s.u, .bool s.d, .bool s.r, .int .i64 s.p] 99)) w2 := hu2
      obtain ⟨a4, c4, hv4⟩ := ho2.shape
      generalize (List.take j (flsL L) ++ [s.fl]).length = l4 at hv4
      subst hv4
      clear hk hj hlt ho2 hu2 hin HO HE hTl
      go_wp2
      refine wp_region_schedG (UpdS (fun i => W.heap.size ≤ i)) (UpdS.refl _) (fun _ _ _ => UpdS.trans) (by kernel_rfl) [(0, false), (1, false), (2, false), (3, false), (4, false), (5, false), (6, false), (7, false), (8, false), (9, false), (10, false), (11, false), (12, false), (13, false), (14, false), (15, false), (16, false), (17, false), (18, false), (19, false), (20, false), (21, false), (22, false), (23, false), (24, false), (25, false), (26, true), (27, true), (28, false)] (by kernel_rfl) (by kernel_rfl) rfl (fun _ _ d _ _ h => by cases d <;> exact h) ?_
      simp only [inOrder, List.filterMap_cons, List.filterMap_nil, List.getElem?_toArray, List.getElem?_cons_zero, List.getElem?_cons_succ, Option.map_some]
      repeat (first
        | (refine wpS_move rfl ?_; simp only [Act.eval, Act.put, Array.getD_eq_getD_getElem?, List.getElem?_toArray, List.getElem?_cons_zero, List.getElem?_cons_succ, Option.getD_some, List.setIfInBounds_toArray, List.set_cons_zero, List.set_cons_succ])
        | (refine wpS_assign rfl ?_; simp only [Act.eval, Act.put, Array.getD_eq_getD_getElem?, List.getElem?_toArray, List.getElem?_cons_zero, List.getElem?_cons_succ, Option.getD_some, List.setIfInBounds_toArray, List.set_cons_zero, List.set_cons_succ])
        | (refine wpS_read (v := ?_) rfl ?_ ?_; rotate_left; (focus (intro w' hG; obtain ⟨q0, k0, k1, k2, k3, k4, k5⟩ := fx w' hG; go_simp; try (with_reducible rfl))); simp only [Act.put, List.setIfInBounds_toArray, List.set_cons_zero, List.set_cons_succ])
        | (refine wpS_skip rfl ?_; simp only [Act.put, List.setIfInBounds_toArray, List.set_cons_zero, List.set_cons_succ]))
      refine wpS_act rfl (exec_oneG (x := s.fl) rfl rfl) g1.s ?_
      simp only [Act.put, List.setIfInBounds_toArray, List.set_cons_zero, List.set_cons_succ]
      refine wpS_act rfl (exec_app rfl rfl rfl hrun) hu2' ?_
      simp only [Act.put, List.setIfInBounds_toArray, List.set_cons_zero, List.set_cons_succ]
      repeat (first
        | (refine wpS_move rfl ?_; simp only [Act.eval, Act.put, Array.getD_eq_getD_getElem?, List.getElem?_toArray, List.getElem?_cons_zero, List.getElem?_cons_succ, Option.getD_some, List.setIfInBounds_toArray, List.set_cons_zero, List.set_cons_succ])
        | (refine wpS_assign rfl ?_; simp only [Act.eval, Act.put, Array.getD_eq_getD_getElem?, List.getElem?_toArray, List.getElem?_cons_zero, List.getElem?_cons_succ, Option.getD_some, List.setIfInBounds_toArray, List.set_cons_zero, List.set_cons_succ])
        | (refine wpS_read (v := ?_) rfl ?_ ?_; rotate_left; (focus (intro w' hG; go_simp; try (with_reducible rfl))); simp only [Act.put, List.setIfInBounds_toArray, List.set_cons_zero, List.set_cons_succ])
        | (refine wpS_skip rfl ?_; simp only [Act.put, List.setIfInBounds_toArray, List.set_cons_zero, List.set_cons_succ]))
      refine wpS_nil ?_
      clear fx hrun g1 hu2'
      go_wp2
      go_roundg (L.length - (j + 1))
      case measure => have := HL.out; omega
      case rel => exact ⟨j + 1, _, _, _, rfl, HL.out.1, rfl, rfl, HF.out⟩
    · have hle : ¬ (j : Int) < (L.length : Int) := by omega
      have HE : Hid ((flsL L).take j = flsL L) := List.take_of_length_le (by rw [flsL_len]; omega)
      go_wp2
      go_ret
      refine ⟨_, rfl, ?_, HR.out.2.1.trans HO.out.2⟩
      have := HO.out.1
      rw [HE.out] at this
      exact RdS.mono (OwnS.rd this) (fun i _ hi => by have := HR.out.2.2.2; omega)
end Go.Proofs.Ythdhfojogckflaa
