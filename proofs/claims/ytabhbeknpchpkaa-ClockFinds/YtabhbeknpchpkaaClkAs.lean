/-
  The walks of the law's 'as' and 'of'. Conditions: each theorem's own.
-/
import Derived.Test.YtabhbeknpchpkaaClk
import Derived.Test.YtabhbeknpchpkaaOpenS
import Derived.Deep.LoopGhost
namespace Go.Proofs.Ytabhbeknpchpkaa
open Go.RowKit
set_option linter.unusedVariables false
set_option linter.unusedSimpArgs false


set_option maxRecDepth 8000 in
set_option maxHeartbeats 4000000 in
theorem as_any {p : Nat → Prop} (v : Value) (zs : List Fl) (w : World) (h : RdF p w v zs) (hb : zs.length * 16 ≤ 140737488355328) :
    Calls Try.prog 11 #[v] w fun e w' => ∃ v', e = .returned v' ∧ OwnF (fun i => w.heap.size ≤ i) w' v' zs ∧ Grow w w' := by
  obtain ⟨i0, hinf, hz0, hz1, hz2⟩ := info_parts infoG
  have HR : Hid (RdF p w v zs) := h
  obtain ⟨a, cp, rfl, h1, h2, -⟩ := h
  unfold maxLen at h2
  go_enter Try.func11, Try.ntmps11
  go_wp2
  go_loopg [3, 4] zs.length (fun m ov iv wr => ∃ j : Nat, m = zs.length - j ∧ j ≤ zs.length ∧ iv = .int .i64 j ∧ Hid (OwnF (fun i => w.heap.size ≤ i) wr ov (zs.take j)) ∧ Hid (Grow w wr))
  case atStart => exact ⟨0, by omega, by omega, rfl, by rw [List.take_zero]; exact OwnS.nil _ _ _ _ _, Grow.refl _⟩
  case round =>
    obtain ⟨j, hk, hj, rfl, HO, HG⟩ := hrel
    by_cases hlt : j < zs.length
    · have hle : (j : Int) < (zs.length : Int) := by omega
      have HL : Hid (j < zs.length ∧ gk = zs.length - j) := ⟨hlt, hk⟩
      have hw1 : IntKind.i64.wrap ((j : Int) + 1) = ((j + 1 : Nat) : Int) := by rw [IntKind.wrap_i64]; omega
      obtain ⟨bb, oo, rfl, _, _, hin⟩ := rdF_at HR.out hlt
      have HE : Hid (zs.take (j + 1) = zs.take j ++ [zs.getD j Fl.zero]) := take_next hlt
      have HN : Hid ((zs.take j).length = j) := take_len hj
      have hin' := hin.grow HG.out
      clear hin
      generalize zs.getD j Fl.zero = x at hin' HE
      have kx : ∀ w', UpdS (fun i => w.heap.size ≤ i) wr.drew w' → FIn w' bb (oo + j * 4) x := fun w' hu => hin'.upd ((Grow.refl wr).drew.s.trans hu) (by omega)
      obtain ⟨li, hli⟩ : ∃ li, li = (zs.take j).length := ⟨_, rfl⟩
      obtain ⟨a3, c3, hv⟩ := HO.out.shape
      rw [← hli] at hv
      subst hv
      obtain ⟨v2, w2, hrun, ho2, hu2⟩ := run_appS (P := Try.prog) (w := wr.drew.alloc (.cells #[.bool x.u, .bool x.d, .bool x.r, .int .i64 x.p] 43)) Fl.cs_length (by omega) 24 24 24 i0 (.agg #[.bool false, .bool false, .bool false, .int .i64 0]) 16 Try.underlying24 hinf hz0 hz1 hz2 rfl (OwnS.grow HO.out ((Grow.refl wr).drew.alloc _)) (src_oneG wr.drew x) (by simp only [maxLen, List.length_singleton]; rw [HN.out]; omega) (by simp only [List.length_singleton]; rw [HN.out]; omega)
      have g1 : Grow wr.drew (wr.drew.alloc (.cells #[.bool x.u, .bool x.d, .bool x.r, .int .i64 x.p] 43)) := (Grow.refl _).alloc _
      have HF : Hid (OwnF (fun i => w.heap.size ≤ i) w2 v2 (zs.take (j + 1)) ∧ Grow w w2) := by
        refine ⟨?_, UpdS.new (HG.out.trans ((Grow.refl wr).drew.trans g1)) hu2 (fun i hi => hi)⟩
        rw [HE.out]
        exact OwnS.mono ho2 (fun i _ hi => hi.elim id (fun e => by
          have h3 : (wr.drew.alloc (.cells #[.bool x.u, .bool x.d, .bool x.r, .int .i64 x.p] 43)).heap.size = wr.heap.size + 1 := World.size_alloc _ _
          have := HG.out.size; omega))
      have hu2' : UpdS (fun i => w.heap.size ≤ i) (wr.drew.alloc (.cells #[.bool x.u, .bool x.d, .bool x.r, .int .i64 x.p] 43)) w2 := hu2
      obtain ⟨a4, c4, hv4⟩ := ho2.shape
      generalize (List.take j zs ++ [x]).length = l4 at hv4
      subst hv4
      clear hk hj hlt ho2 hu2 hin' hli HO HE HN
      go_wp2
      refine wp_region_schedG (UpdS (fun i => w.heap.size ≤ i)) (UpdS.refl _) (fun _ _ _ => UpdS.trans) (by kernel_rfl) [(0, false), (1, false), (2, false), (3, false), (4, false), (5, false), (6, false), (7, false), (8, false), (9, false), (10, false), (11, false), (12, false), (13, false), (14, false), (15, false), (16, false), (17, false), (18, false), (19, false), (20, false), (21, false), (22, true), (23, true), (24, false)] (by kernel_rfl) (by kernel_rfl) rfl (fun _ _ d _ _ h => by cases d <;> exact h) ?_
      simp only [inOrder, List.filterMap_cons, List.filterMap_nil, List.getElem?_toArray, List.getElem?_cons_zero, List.getElem?_cons_succ, Option.map_some]
      repeat (first
        | (refine wpS_move rfl ?_; simp only [Act.eval, Act.put, Array.getD_eq_getD_getElem?, List.getElem?_toArray, List.getElem?_cons_zero, List.getElem?_cons_succ, Option.getD_some, List.setIfInBounds_toArray, List.set_cons_zero, List.set_cons_succ])
        | (refine wpS_assign rfl ?_; simp only [Act.eval, Act.put, Array.getD_eq_getD_getElem?, List.getElem?_toArray, List.getElem?_cons_zero, List.getElem?_cons_succ, Option.getD_some, List.setIfInBounds_toArray, List.set_cons_zero, List.set_cons_succ])
        | (refine wpS_read (v := ?_) rfl ?_ ?_; rotate_left; (focus (intro w' hG; obtain ⟨k0, k1, k2, k3⟩ := kx w' hG; go_simp; try (with_reducible rfl))); simp only [Act.put, List.setIfInBounds_toArray, List.set_cons_zero, List.set_cons_succ])
        | (refine wpS_skip rfl ?_; simp only [Act.put, List.setIfInBounds_toArray, List.set_cons_zero, List.set_cons_succ]))
      refine wpS_act rfl (exec_oneG (x := x) rfl rfl) g1.s ?_
      simp only [Act.put, List.setIfInBounds_toArray, List.set_cons_zero, List.set_cons_succ]
      refine wpS_act rfl (exec_app rfl rfl rfl hrun) hu2' ?_
      simp only [Act.put, List.setIfInBounds_toArray, List.set_cons_zero, List.set_cons_succ]
      repeat (first
        | (refine wpS_move rfl ?_; simp only [Act.eval, Act.put, Array.getD_eq_getD_getElem?, List.getElem?_toArray, List.getElem?_cons_zero, List.getElem?_cons_succ, Option.getD_some, List.setIfInBounds_toArray, List.set_cons_zero, List.set_cons_succ])
        | (refine wpS_assign rfl ?_; simp only [Act.eval, Act.put, Array.getD_eq_getD_getElem?, List.getElem?_toArray, List.getElem?_cons_zero, List.getElem?_cons_succ, Option.getD_some, List.setIfInBounds_toArray, List.set_cons_zero, List.set_cons_succ])
        | (refine wpS_read (v := ?_) rfl ?_ ?_; rotate_left; (focus (intro w' hG; go_simp; try (with_reducible rfl))); simp only [Act.put, List.setIfInBounds_toArray, List.set_cons_zero, List.set_cons_succ])
        | (refine wpS_skip rfl ?_; simp only [Act.put, List.setIfInBounds_toArray, List.set_cons_zero, List.set_cons_succ]))
      refine wpS_nil ?_
      clear kx hrun g1 hu2'
      go_wp2
      go_roundg (zs.length - (j + 1))
      case measure => have := HL.out; omega
      case rel => exact ⟨j + 1, rfl, HL.out.1, rfl, HF.out.1, HF.out.2⟩
    · have hle : ¬ (j : Int) < (zs.length : Int) := by omega
      have HE : Hid (zs.take j = zs) := List.take_of_length_le (by omega)
      go_wp2
      go_ret
      refine ⟨_, rfl, ?_, HG.out⟩
      have := HO.out
      rw [HE.out] at this
      exact this

set_option maxRecDepth 8000 in
set_option maxHeartbeats 4000000 in
theorem of_any {p : Nat → Prop} (v : Value) (zs : List Fl) (w : World) (h : RdF p w v zs) (hb : zs.length * 16 ≤ 140737488355328) :
    Calls Try.prog 9 #[v] w fun e w' => ∃ v', e = .returned v' ∧ OwnF (fun i => w.heap.size ≤ i) w' v' zs ∧ Grow w w' := by
  obtain ⟨i0, hinf, hz0, hz1, hz2⟩ := info_parts infoF
  have HR : Hid (RdF p w v zs) := h
  obtain ⟨a, cp, rfl, h1, h2, -⟩ := h
  unfold maxLen at h2
  go_enter Try.func9, Try.ntmps9
  go_wp2
  go_loopg [3, 4] zs.length (fun m ov iv wr => ∃ j : Nat, m = zs.length - j ∧ j ≤ zs.length ∧ iv = .int .i64 j ∧ Hid (OwnF (fun i => w.heap.size ≤ i) wr ov (zs.take j)) ∧ Hid (Grow w wr))
  case atStart => exact ⟨0, by omega, by omega, rfl, by rw [List.take_zero]; exact OwnS.nil _ _ _ _ _, Grow.refl _⟩
  case round =>
    obtain ⟨j, hk, hj, rfl, HO, HG⟩ := hrel
    by_cases hlt : j < zs.length
    · have hle : (j : Int) < (zs.length : Int) := by omega
      have HL : Hid (j < zs.length ∧ gk = zs.length - j) := ⟨hlt, hk⟩
      have hw1 : IntKind.i64.wrap ((j : Int) + 1) = ((j + 1 : Nat) : Int) := by rw [IntKind.wrap_i64]; omega
      obtain ⟨bb, oo, rfl, _, _, hin⟩ := rdF_at HR.out hlt
      have HE : Hid (zs.take (j + 1) = zs.take j ++ [zs.getD j Fl.zero]) := take_next hlt
      have HN : Hid ((zs.take j).length = j) := take_len hj
      have hin' := hin.grow HG.out
      clear hin
      generalize zs.getD j Fl.zero = x at hin' HE
      have kx : ∀ w', UpdS (fun i => w.heap.size ≤ i) wr.drew w' → FIn w' bb (oo + j * 4) x := fun w' hu => hin'.upd ((Grow.refl wr).drew.s.trans hu) (by omega)
      obtain ⟨li, hli⟩ : ∃ li, li = (zs.take j).length := ⟨_, rfl⟩
      obtain ⟨a3, c3, hv⟩ := HO.out.shape
      rw [← hli] at hv
      subst hv
      obtain ⟨v2, w2, hrun, ho2, hu2⟩ := run_appS (P := Try.prog) (w := wr.drew.alloc (.cells #[.bool x.u, .bool x.d, .bool x.r, .int .i64 x.p] 40)) Fl.cs_length (by omega) 22 22 22 i0 (.agg #[.bool false, .bool false, .bool false, .int .i64 0]) 16 Try.underlying22 hinf hz0 hz1 hz2 rfl (OwnS.grow HO.out ((Grow.refl wr).drew.alloc _)) (src_oneF wr.drew x) (by simp only [maxLen, List.length_singleton]; rw [HN.out]; omega) (by simp only [List.length_singleton]; rw [HN.out]; omega)
      have g1 : Grow wr.drew (wr.drew.alloc (.cells #[.bool x.u, .bool x.d, .bool x.r, .int .i64 x.p] 40)) := (Grow.refl _).alloc _
      have HF : Hid (OwnF (fun i => w.heap.size ≤ i) w2 v2 (zs.take (j + 1)) ∧ Grow w w2) := by
        refine ⟨?_, UpdS.new (HG.out.trans ((Grow.refl wr).drew.trans g1)) hu2 (fun i hi => hi)⟩
        rw [HE.out]
        exact OwnS.mono ho2 (fun i _ hi => hi.elim id (fun e => by
          have h3 : (wr.drew.alloc (.cells #[.bool x.u, .bool x.d, .bool x.r, .int .i64 x.p] 40)).heap.size = wr.heap.size + 1 := World.size_alloc _ _
          have := HG.out.size; omega))
      have hu2' : UpdS (fun i => w.heap.size ≤ i) (wr.drew.alloc (.cells #[.bool x.u, .bool x.d, .bool x.r, .int .i64 x.p] 40)) w2 := hu2
      obtain ⟨a4, c4, hv4⟩ := ho2.shape
      generalize (List.take j zs ++ [x]).length = l4 at hv4
      subst hv4
      clear hk hj hlt ho2 hu2 hin' hli HO HE HN
      go_wp2
      refine wp_region_schedG (UpdS (fun i => w.heap.size ≤ i)) (UpdS.refl _) (fun _ _ _ => UpdS.trans) (by kernel_rfl) [(0, false), (1, false), (2, false), (3, false), (4, false), (5, false), (6, false), (7, false), (8, false), (9, false), (10, false), (11, false), (12, false), (13, false), (14, false), (15, false), (16, false), (17, false), (18, false), (19, false), (20, false), (21, false), (22, true), (23, true), (24, false)] (by kernel_rfl) (by kernel_rfl) rfl (fun _ _ d _ _ h => by cases d <;> exact h) ?_
      simp only [inOrder, List.filterMap_cons, List.filterMap_nil, List.getElem?_toArray, List.getElem?_cons_zero, List.getElem?_cons_succ, Option.map_some]
      repeat (first
        | (refine wpS_move rfl ?_; simp only [Act.eval, Act.put, Array.getD_eq_getD_getElem?, List.getElem?_toArray, List.getElem?_cons_zero, List.getElem?_cons_succ, Option.getD_some, List.setIfInBounds_toArray, List.set_cons_zero, List.set_cons_succ])
        | (refine wpS_assign rfl ?_; simp only [Act.eval, Act.put, Array.getD_eq_getD_getElem?, List.getElem?_toArray, List.getElem?_cons_zero, List.getElem?_cons_succ, Option.getD_some, List.setIfInBounds_toArray, List.set_cons_zero, List.set_cons_succ])
        | (refine wpS_read (v := ?_) rfl ?_ ?_; rotate_left; (focus (intro w' hG; obtain ⟨k0, k1, k2, k3⟩ := kx w' hG; go_simp; try (with_reducible rfl))); simp only [Act.put, List.setIfInBounds_toArray, List.set_cons_zero, List.set_cons_succ])
        | (refine wpS_skip rfl ?_; simp only [Act.put, List.setIfInBounds_toArray, List.set_cons_zero, List.set_cons_succ]))
      refine wpS_act rfl (exec_oneF (x := x) rfl rfl) g1.s ?_
      simp only [Act.put, List.setIfInBounds_toArray, List.set_cons_zero, List.set_cons_succ]
      refine wpS_act rfl (exec_app rfl rfl rfl hrun) hu2' ?_
      simp only [Act.put, List.setIfInBounds_toArray, List.set_cons_zero, List.set_cons_succ]
      repeat (first
        | (refine wpS_move rfl ?_; simp only [Act.eval, Act.put, Array.getD_eq_getD_getElem?, List.getElem?_toArray, List.getElem?_cons_zero, List.getElem?_cons_succ, Option.getD_some, List.setIfInBounds_toArray, List.set_cons_zero, List.set_cons_succ])
        | (refine wpS_assign rfl ?_; simp only [Act.eval, Act.put, Array.getD_eq_getD_getElem?, List.getElem?_toArray, List.getElem?_cons_zero, List.getElem?_cons_succ, Option.getD_some, List.setIfInBounds_toArray, List.set_cons_zero, List.set_cons_succ])
        | (refine wpS_read (v := ?_) rfl ?_ ?_; rotate_left; (focus (intro w' hG; go_simp; try (with_reducible rfl))); simp only [Act.put, List.setIfInBounds_toArray, List.set_cons_zero, List.set_cons_succ])
        | (refine wpS_skip rfl ?_; simp only [Act.put, List.setIfInBounds_toArray, List.set_cons_zero, List.set_cons_succ]))
      refine wpS_nil ?_
      clear kx hrun g1 hu2'
      go_wp2
      go_roundg (zs.length - (j + 1))
      case measure => have := HL.out; omega
      case rel => exact ⟨j + 1, rfl, HL.out.1, rfl, HF.out.1, HF.out.2⟩
    · have hle : ¬ (j : Int) < (zs.length : Int) := by omega
      have HE : Hid (zs.take j = zs) := List.take_of_length_le (by omega)
      go_wp2
      go_ret
      refine ⟨_, rfl, ?_, HG.out⟩
      have := HO.out
      rw [HE.out] at this
      exact this
end Go.Proofs.Ytabhbeknpchpkaa
