/-
  The walks of the document's Release, Clean, Load, Do. Conditions: each theorem's own.
-/
import Derived.Test.YthdhfojogckflaaPrtH
import Derived.Test.YthdhfojogckflaaPrtO
import Derived.Test.YthdhfojogckflaaPrtR
namespace Go.Proofs.Ythdhfojogckflaa
open Go.RowKit
set_option linter.unusedVariables false
set_option linter.unusedSimpArgs false

/-- a partition's variable written at the end -/
theorem p_end {pq : Nat → Prop} {w w1 : World} {X : Nat} {v y0 y1 : Value} {h : Int} {L : List FS} (V1 : VarAt w1 X [y0, y1]) (hr : RdQ (fun i => pq i ∧ i ≠ X) w1 v L) (hX : w.heap.size ≤ X) (g : Grow w w1) :
    VarAt ((w1.setCell ⟨X, 0, none⟩ v).setCell ⟨X, 1, none⟩ (.int .i64 h)) X [v, .int .i64 h] ∧ RdQ pq ((w1.setCell ⟨X, 0, none⟩ v).setCell ⟨X, 1, none⟩ (.int .i64 h)) v L ∧ Grow w ((w1.setCell ⟨X, 0, none⟩ v).setCell ⟨X, 1, none⟩ (.int .i64 h)) := by
  have u2 := upd_pair w1 X v (.int .i64 h)
  exact ⟨V1.set2 _ _, (RdS.upd hr u2 (fun i _ hi => hi.2)).mono (fun i _ hi => hi.1), UpdS.new g u2 (fun i hi => by omega)⟩
theorem rd_old {pq : Nat → Prop} {w : World} {v : Value} {L : List FS} (h : RdQ pq w v L) : RdQ (fun i => pq i ∧ i < w.heap.size) w v L := by
  obtain ⟨a, c, hv, h1, h2, h3⟩ := h
  exact ⟨a, c, hv, h1, h2, fun h0 => by obtain ⟨b, o, e, hb, hlt, hc⟩ := h3 h0; exact ⟨b, o, e, ⟨hb, hlt⟩, hlt, hc⟩⟩


set_option maxRecDepth 8000 in
set_option maxHeartbeats 4000000 in
theorem qrelease_any {pq : Nat → Prop} (w : World) (a : Option Addr) (c : Nat) (L : List FS) (h : Int) (hr : RdQ pq w (.slice a L.length c) L) (hL : L.length ≤ 64) (hn : ∀ i, w.heap.size ≤ i → pq i) (i : Int) : Calls Try.prog 36 #[.agg #[.slice a L.length c, .int .i64 h], .int .i64 i] w fun e w' => ∃ a' c', e = .returned (.tuple #[.agg #[.slice a' L.length c', .int .i64 h], .int .i64 (relP i L).2]) ∧ RdQ pq w' (.slice a' L.length c') (relP i L).1 ∧ Grow w w' := by
  obtain ⟨W, hW⟩ : ∃ W, (w.alloc (.cells #[.slice a L.length c, .int .i64 h] 30)).alloc (.cells #[.slice none 0 0, .int .i64 0] 30) = W := ⟨_, rfl⟩
  obtain ⟨X, hX⟩ : ∃ X, w.heap.size = X := ⟨_, rfl⟩
  have g0 : Grow w W := by rw [← hW]; exact ((Grow.refl w).alloc _).alloc _
  have V0 : VarAt W X [.slice a L.length c, .int .i64 h] := by rw [← hW, ← hX]; exact (VarAt.new w [.slice a L.length c, .int .i64 h] 30).old _
  have V1 : VarAt W (X + 1) [.slice none 0 0, .int .i64 0] := by rw [← hW, ← hX]; exact VarAt.new2 w _ [.slice none 0 0, .int .i64 0] 30
  have HR : Hid (RdQ (fun i => pq i ∧ i < X) W (.slice a L.length c) L ∧ Grow w W ∧ VarAt W X [.slice a L.length c, .int .i64 h] ∧ VarAt W (X + 1) [.slice none 0 0, .int .i64 0] ∧ w.heap.size = X) := ⟨by rw [← hX]; exact RdS.grow (rd_old hr) g0, g0, V0, V1, hX⟩
  have HN : Hid (∀ i, w.heap.size ≤ i → pq i) := hn
  obtain ⟨⟨v0, v1⟩, -⟩ := V0.two
  obtain ⟨⟨z0, z1⟩, f0, f1⟩ := V1.two
  by_cases hi : inL i L
  · obtain ⟨m, rfl, hm⟩ := nat_of hi
    have hle : (m : Int) < (L.length : Int) := by omega
    obtain ⟨b, o, rfl⟩ := rdQ_addr HR.out.1 (by omega)
    obtain ⟨k0, k1, k2, k3, k4, k5⟩ := rdQ_in HR.out.1 hm
    by_cases hp : (L.getD m FS.empty).p ≤ 0
    · rw [relP_yes hm hp]
      have hp' : ¬ 0 < (L.getD m FS.empty).p := by omega
      generalize (L.getD m FS.empty).p = p at k3 hp'
      have hem := fun w' => rempty_any w'
      have HM : Hid (m < L.length) := hm
      clear hr hi hm hp k0 k1 k2 k4 k5 g0 V0 V1 z0 z1 f0 f1 hn
      go_enter Try.func36, Try.ntmps36
      go_upto_region 1 with fail
      (try rw [hW])
      (try rw [hX])
      clear hW hX
      go_wp2
      have gd : Grow W W.drew := (Grow.refl W).drew
      have fx : ∀ w', UpdS (fun i => i = X + 1) W.drew w' → (w'.cell? ⟨X, 0, none⟩ = some (.slice (some ⟨b, o, none⟩) L.length c) ∧ w'.cell? ⟨X, 1, none⟩ = some (.int .i64 h)) := fun w' g => ((HR.out.2.2.1.grow gd).upd g (by omega)).two.1
      refine wp_region_schedG (UpdS (fun i => i = X + 1)) (UpdS.refl _) (fun _ _ _ => UpdS.trans) (by kernel_rfl) [(0, false), (1, false), (2, true), (3, true), (4, true), (5, false)] (by kernel_rfl) (by kernel_rfl) rfl (fun _ _ d _ _ h => by cases d <;> exact h) ?_
      simp only [inOrder, List.filterMap_cons, List.filterMap_nil, List.getElem?_toArray, List.getElem?_cons_zero, List.getElem?_cons_succ, Option.map_some]
      repeat (first
        | (refine wpS_move rfl ?_; simp only [Act.eval, Act.put, Array.getD_eq_getD_getElem?, List.getElem?_toArray, List.getElem?_cons_zero, List.getElem?_cons_succ, Option.getD_some, List.setIfInBounds_toArray, List.set_cons_zero, List.set_cons_succ])
        | (refine wpS_assign rfl ?_; simp only [Act.eval, Act.put, Array.getD_eq_getD_getElem?, List.getElem?_toArray, List.getElem?_cons_zero, List.getElem?_cons_succ, Option.getD_some, List.setIfInBounds_toArray, List.set_cons_zero, List.set_cons_succ])
        | (refine wpS_read (v := ?_) rfl ?_ ?_; rotate_left; (focus (intro w' hG; obtain ⟨q0, q1⟩ := fx w' hG; go_simp; try (with_reducible rfl))); simp only [Act.put, List.setIfInBounds_toArray, List.set_cons_zero, List.set_cons_succ])
        | (refine wpS_skip rfl ?_; simp only [Act.put, List.setIfInBounds_toArray, List.set_cons_zero, List.set_cons_succ]))
      have he := hem W.drew
      refine wpS_call (f := ?_) (args := ?_) (by rfl) ?_ ?_
      rotate_left 2; focus (go_simp; constructor <;> with_reducible rfl)
      refine (he).mono ?_
      rintro e w1 ⟨rfl, g1⟩
      refine ⟨_, rfl, Grow.s g1, ?_⟩
      simp only [Act.put, List.setIfInBounds_toArray, List.set_cons_zero, List.set_cons_succ]
      have hw := qwith_any w1 _ c L h (RdS.grow HR.out.1 (gd.trans g1)) hL m HM.out FS.empty
      refine wpS_call (f := ?_) (args := ?_) (by rfl) ?_ ?_
      rotate_left 2; focus (go_simp; constructor <;> with_reducible rfl)
      refine (hw).mono ?_
      rintro e w2 ⟨a2, c2, rfl, r2, g2⟩
      refine ⟨_, rfl, Grow.s g2, ?_⟩
      simp only [Act.put, List.setIfInBounds_toArray, List.set_cons_zero, List.set_cons_succ]
      have gg : Grow W w2 := (gd.trans g1).trans g2
      have hlo : X + 2 ≤ w1.heap.size := by have h1 := HR.out.2.2.2.1.lt; have h2 := (gd.trans g1).size; omega
      have hX := HR.out.2.2.2.2
      have HF : Hid (VarAt ((w2.setCell ⟨X + 1, 0, none⟩ (.slice a2 L.length c2)).setCell ⟨X + 1, 1, none⟩ (.int .i64 h)) (X + 1) [.slice a2 L.length c2, .int .i64 h] ∧ RdQ pq ((w2.setCell ⟨X + 1, 0, none⟩ (.slice a2 L.length c2)).setCell ⟨X + 1, 1, none⟩ (.int .i64 h)) (.slice a2 L.length c2) (L.set m FS.empty) ∧ Grow w ((w2.setCell ⟨X + 1, 0, none⟩ (.slice a2 L.length c2)).setCell ⟨X + 1, 1, none⟩ (.int .i64 h))) :=
        p_end (HR.out.2.2.2.1.grow gg) (r2.mono (fun i _ hi => ⟨HN.out i (by omega), by omega⟩)) (by have := hX; omega) (HR.out.2.1.trans gg)
      obtain ⟨⟨z0, z1⟩, f0, f1⟩ := (HR.out.2.2.2.1.grow gg).two
      refine wpS_store (w' := (w2.setCell ⟨X + 1, 0, none⟩ (.slice a2 L.length c2)).setCell ⟨X + 1, 1, none⟩ (.int .i64 h)) (by rfl) (by go_simp) (upd_pair _ _ _ _) ?_
      simp only [Act.put, List.setIfInBounds_toArray, List.set_cons_zero, List.set_cons_succ]
      repeat (first
        | (refine wpS_move rfl ?_; simp only [Act.eval, Act.put, Array.getD_eq_getD_getElem?, List.getElem?_toArray, List.getElem?_cons_zero, List.getElem?_cons_succ, Option.getD_some, List.setIfInBounds_toArray, List.set_cons_zero, List.set_cons_succ])
        | (refine wpS_assign rfl ?_; simp only [Act.eval, Act.put, Array.getD_eq_getD_getElem?, List.getElem?_toArray, List.getElem?_cons_zero, List.getElem?_cons_succ, Option.getD_some, List.setIfInBounds_toArray, List.set_cons_zero, List.set_cons_succ])
        | (refine wpS_read (v := ?_) rfl ?_ ?_; rotate_left; (focus (intro w' hG; skip; go_simp; try (with_reducible rfl))); simp only [Act.put, List.setIfInBounds_toArray, List.set_cons_zero, List.set_cons_succ])
        | (refine wpS_skip rfl ?_; simp only [Act.put, List.setIfInBounds_toArray, List.set_cons_zero, List.set_cons_succ]))
      refine wpS_nil ?_
      generalize (w2.setCell ⟨X + 1, 0, none⟩ (.slice a2 L.length c2)).setCell ⟨X + 1, 1, none⟩ (.int .i64 h) = w3 at HF ⊢
      clear fx he hw g1 g2 gd gg r2 z0 z1 f0 f1 hem
      go_wp2
      exact bodyPost_ret_by (results_cell_tmp rfl _ _ _ _ rfl (load_P _ _ _ _ HF.out.1 rfl)) rfl ⟨_, _, rfl, HF.out.2⟩
    · rw [relP_pin hm hp]
      have hp' : 0 < (L.getD m FS.empty).p := by omega
      generalize (L.getD m FS.empty).p = p at k3 hp'
      clear hr hi hm hp k0 k1 k2 k4 k5 g0 V0 V1
      go_enter Try.func36, Try.ntmps36
      go_upto_region 1 with fail
      (try rw [hW])
      (try rw [hX])
      clear hW hX
      have HF : Hid (VarAt ((W.setCell ⟨X + 1, 0, none⟩ (.slice (some ⟨b, o, none⟩) L.length c)).setCell ⟨X + 1, 1, none⟩ (.int .i64 h)) (X + 1) [.slice (some ⟨b, o, none⟩) L.length c, .int .i64 h] ∧ RdQ pq ((W.setCell ⟨X + 1, 0, none⟩ (.slice (some ⟨b, o, none⟩) L.length c)).setCell ⟨X + 1, 1, none⟩ (.int .i64 h)) (.slice (some ⟨b, o, none⟩) L.length c) L ∧ Grow w ((W.setCell ⟨X + 1, 0, none⟩ (.slice (some ⟨b, o, none⟩) L.length c)).setCell ⟨X + 1, 1, none⟩ (.int .i64 h))) :=
        p_end (HR.out.2.2.2.1.grow (Grow.refl W)) ((RdS.grow HR.out.1 (Grow.refl W)).mono (fun i _ hi => ⟨hi.1, by omega⟩)) (by have := HR.out.2.2.2.2; omega) (HR.out.2.1.trans (Grow.refl W))
      go_wp2
      exact bodyPost_ret_by (results_cell_tmp rfl _ _ _ _ rfl (load_P _ _ _ _ HF.out.1 rfl)) rfl ⟨_, _, rfl, HF.out.2⟩
  · rw [relP_no hi]
    have hb : i < 0 ∨ (0 ≤ i ∧ (L.length : Int) ≤ i) := by
      by_cases h0 : i < 0
      · exact .inl h0
      · exact .inr ⟨by omega, by have : ¬ (0 ≤ i ∧ i < L.length) := hi; omega⟩
    clear hr hi g0 V0 V1
    rcases hb with h0 | ⟨h0, h1⟩
    · skip
      go_enter Try.func36, Try.ntmps36
      go_upto_region 1 with fail
      (try rw [hW])
      (try rw [hX])
      clear hW hX
      have HF : Hid (VarAt ((W.setCell ⟨X + 1, 0, none⟩ (.slice a L.length c)).setCell ⟨X + 1, 1, none⟩ (.int .i64 h)) (X + 1) [.slice a L.length c, .int .i64 h] ∧ RdQ pq ((W.setCell ⟨X + 1, 0, none⟩ (.slice a L.length c)).setCell ⟨X + 1, 1, none⟩ (.int .i64 h)) (.slice a L.length c) L ∧ Grow w ((W.setCell ⟨X + 1, 0, none⟩ (.slice a L.length c)).setCell ⟨X + 1, 1, none⟩ (.int .i64 h))) :=
        p_end (HR.out.2.2.2.1.grow (Grow.refl W)) ((RdS.grow HR.out.1 (Grow.refl W)).mono (fun i _ hi => ⟨hi.1, by omega⟩)) (by have := HR.out.2.2.2.2; omega) (HR.out.2.1.trans (Grow.refl W))
      go_wp2
      exact bodyPost_ret_by (results_cell_tmp rfl _ _ _ _ rfl (load_P _ _ _ _ HF.out.1 rfl)) rfl ⟨_, _, rfl, HF.out.2⟩
    · have hx : ¬ i < 0 := by omega
      go_enter Try.func36, Try.ntmps36
      go_upto_region 1 with fail
      (try rw [hW])
      (try rw [hX])
      clear hW hX
      have HF : Hid (VarAt ((W.setCell ⟨X + 1, 0, none⟩ (.slice a L.length c)).setCell ⟨X + 1, 1, none⟩ (.int .i64 h)) (X + 1) [.slice a L.length c, .int .i64 h] ∧ RdQ pq ((W.setCell ⟨X + 1, 0, none⟩ (.slice a L.length c)).setCell ⟨X + 1, 1, none⟩ (.int .i64 h)) (.slice a L.length c) L ∧ Grow w ((W.setCell ⟨X + 1, 0, none⟩ (.slice a L.length c)).setCell ⟨X + 1, 1, none⟩ (.int .i64 h))) :=
        p_end (HR.out.2.2.2.1.grow (Grow.refl W)) ((RdS.grow HR.out.1 (Grow.refl W)).mono (fun i _ hi => ⟨hi.1, by omega⟩)) (by have := HR.out.2.2.2.2; omega) (HR.out.2.1.trans (Grow.refl W))
      go_wp2
      exact bodyPost_ret_by (results_cell_tmp rfl _ _ _ _ rfl (load_P _ _ _ _ HF.out.1 rfl)) rfl ⟨_, _, rfl, HF.out.2⟩

set_option maxHeartbeats 4000000 in
theorem qclean_any {pq : Nat → Prop} (w : World) (a : Option Addr) (c : Nat) (L : List FS) (h : Int) (hr : RdQ pq w (.slice a L.length c) L) (hL : L.length ≤ 64) (hn : ∀ i, w.heap.size ≤ i → pq i) (i : Int) : Calls Try.prog 37 #[.agg #[.slice a L.length c, .int .i64 h], .int .i64 i] w fun e w' => ∃ a' c', e = .returned (.tuple #[.agg #[.slice a' L.length c', .int .i64 h], .int .i64 (clnP i L).2]) ∧ RdQ pq w' (.slice a' L.length c') (clnP i L).1 ∧ Grow w w' := by
  obtain ⟨W, hW⟩ : ∃ W, (w.alloc (.cells #[.slice a L.length c, .int .i64 h] 30)).alloc (.cells #[.slice none 0 0, .int .i64 0] 30) = W := ⟨_, rfl⟩
  obtain ⟨X, hX⟩ : ∃ X, w.heap.size = X := ⟨_, rfl⟩
  have g0 : Grow w W := by rw [← hW]; exact ((Grow.refl w).alloc _).alloc _
  have V0 : VarAt W X [.slice a L.length c, .int .i64 h] := by rw [← hW, ← hX]; exact (VarAt.new w [.slice a L.length c, .int .i64 h] 30).old _
  have V1 : VarAt W (X + 1) [.slice none 0 0, .int .i64 0] := by rw [← hW, ← hX]; exact VarAt.new2 w _ [.slice none 0 0, .int .i64 0] 30
  have HR : Hid (RdQ (fun i => pq i ∧ i < X) W (.slice a L.length c) L ∧ Grow w W ∧ VarAt W X [.slice a L.length c, .int .i64 h] ∧ VarAt W (X + 1) [.slice none 0 0, .int .i64 0] ∧ w.heap.size = X) := ⟨by rw [← hX]; exact RdS.grow (rd_old hr) g0, g0, V0, V1, hX⟩
  have HN : Hid (∀ i, w.heap.size ≤ i → pq i) := hn
  obtain ⟨⟨v0, v1⟩, -⟩ := V0.two
  obtain ⟨⟨z0, z1⟩, f0, f1⟩ := V1.two
  by_cases hi : inL i L
  · obtain ⟨m, rfl, hm⟩ := nat_of hi
    have hle : (m : Int) < (L.length : Int) := by omega
    obtain ⟨b, o, rfl⟩ := rdQ_addr HR.out.1 (by omega)
    obtain ⟨k0, k1, k2, k3, k4, k5⟩ := rdQ_in HR.out.1 hm
    rw [clnP_yes hm]
    generalize L.getD m FS.empty = s at k0 k1 k2 k3 k4 k5 ⊢
    have HG0 : Hid (∀ W2 M, W.alloc (.cells #[.bool s.u, .bool false, .bool s.r, .int .i64 s.p, .int .i64 s.q, .string (strOfNums s.bs)] 68) = W2 → W.heap.size = M → (Grow W W2 ∧ VarAt W2 M s.clean.rc ∧ X + 1 < M)) := fun W2 M hW2 hM =>
      ⟨by rw [← hW2]; exact (Grow.refl W).alloc _, by rw [← hW2, ← hM]; exact VarAt.new W s.clean.rc 68, by have := V1.lt; omega⟩
    have hw0 := fun W2 (g2 : Grow W W2) => qwith_any W2 _ c L h (RdS.grow HR.out.1 g2) hL m hm s.clean
    clear hr hi hm g0 V0 V1 z0 z1 f0 f1 hn
    go_enter Try.func37, Try.ntmps37
    go_upto_region 5 with fail
    (try rw [hW])
    (try rw [hX])
    clear hW hX
    generalize hM : W.heap.size = M
    generalize hW2 : W.alloc (.cells #[.bool s.u, .bool false, .bool s.r, .int .i64 s.p, .int .i64 s.q, .string (strOfNums s.bs)] 68) = W2
    have HG : Hid (Grow W W2 ∧ VarAt W2 M s.clean.rc ∧ X + 1 < M) := HG0.out W2 M hW2 hM
    have hw := hw0 W2 HG.out.1
    obtain ⟨⟨v0, v1⟩, -⟩ := (HR.out.2.2.1.grow HG.out.1).two
    obtain ⟨⟨y0, y1, y2, y3, y4, y5⟩, -⟩ := VarAt.six HG.out.2.1
    clear k0 k1 k2 k3 k4 k5 hW2 hM HG0 hw0
    go_wp2_with fail
    refine hw.mono ?_
    rintro e w2 ⟨a2, c2, rfl, r2, g2⟩
    have gg : Grow W w2 := HG.out.1.trans g2
    have hlo : X + 2 ≤ W2.heap.size := by have h1 := HG.out.2.1.lt; have := HG.out.2.2; omega
    have hX := HR.out.2.2.2.2
    have HF : Hid (VarAt ((w2.setCell ⟨X + 1, 0, none⟩ (.slice a2 L.length c2)).setCell ⟨X + 1, 1, none⟩ (.int .i64 h)) (X + 1) [.slice a2 L.length c2, .int .i64 h] ∧ RdQ pq ((w2.setCell ⟨X + 1, 0, none⟩ (.slice a2 L.length c2)).setCell ⟨X + 1, 1, none⟩ (.int .i64 h)) (.slice a2 L.length c2) (L.set m s.clean) ∧ Grow w ((w2.setCell ⟨X + 1, 0, none⟩ (.slice a2 L.length c2)).setCell ⟨X + 1, 1, none⟩ (.int .i64 h))) :=
      p_end (HR.out.2.2.2.1.grow gg) (r2.mono (fun i _ hi => ⟨HN.out i (by omega), by omega⟩)) (by have := hX; omega) (HR.out.2.1.trans gg)
    obtain ⟨⟨z0, z1⟩, f0, f1⟩ := (HR.out.2.2.2.1.grow gg).two
    clear hw r2 g2 gg y0 y1 y2 y3 y4 y5 v0 v1
    go_wp2
    exact bodyPost_ret_by (results_cell_tmp rfl _ _ _ _ rfl (load_P _ _ _ _ HF.out.1 rfl)) rfl ⟨_, _, rfl, HF.out.2⟩
  · rw [clnP_no hi]
    have hb : i < 0 ∨ (0 ≤ i ∧ (L.length : Int) ≤ i) := by
      by_cases h0 : i < 0
      · exact .inl h0
      · exact .inr ⟨by omega, by have : ¬ (0 ≤ i ∧ i < L.length) := hi; omega⟩
    clear hr hi g0 V0 V1
    rcases hb with h0 | ⟨h0, h1⟩
    · skip
      go_enter Try.func37, Try.ntmps37
      go_upto_region 1 with fail
      (try rw [hW])
      (try rw [hX])
      clear hW hX
      have HF : Hid (VarAt ((W.setCell ⟨X + 1, 0, none⟩ (.slice a L.length c)).setCell ⟨X + 1, 1, none⟩ (.int .i64 h)) (X + 1) [.slice a L.length c, .int .i64 h] ∧ RdQ pq ((W.setCell ⟨X + 1, 0, none⟩ (.slice a L.length c)).setCell ⟨X + 1, 1, none⟩ (.int .i64 h)) (.slice a L.length c) L ∧ Grow w ((W.setCell ⟨X + 1, 0, none⟩ (.slice a L.length c)).setCell ⟨X + 1, 1, none⟩ (.int .i64 h))) :=
        p_end (HR.out.2.2.2.1.grow (Grow.refl W)) ((RdS.grow HR.out.1 (Grow.refl W)).mono (fun i _ hi => ⟨hi.1, by omega⟩)) (by have := HR.out.2.2.2.2; omega) (HR.out.2.1.trans (Grow.refl W))
      go_wp2
      exact bodyPost_ret_by (results_cell_tmp rfl _ _ _ _ rfl (load_P _ _ _ _ HF.out.1 rfl)) rfl ⟨_, _, rfl, HF.out.2⟩
    · have hx : ¬ i < 0 := by omega
      go_enter Try.func37, Try.ntmps37
      go_upto_region 1 with fail
      (try rw [hW])
      (try rw [hX])
      clear hW hX
      have HF : Hid (VarAt ((W.setCell ⟨X + 1, 0, none⟩ (.slice a L.length c)).setCell ⟨X + 1, 1, none⟩ (.int .i64 h)) (X + 1) [.slice a L.length c, .int .i64 h] ∧ RdQ pq ((W.setCell ⟨X + 1, 0, none⟩ (.slice a L.length c)).setCell ⟨X + 1, 1, none⟩ (.int .i64 h)) (.slice a L.length c) L ∧ Grow w ((W.setCell ⟨X + 1, 0, none⟩ (.slice a L.length c)).setCell ⟨X + 1, 1, none⟩ (.int .i64 h))) :=
        p_end (HR.out.2.2.2.1.grow (Grow.refl W)) ((RdS.grow HR.out.1 (Grow.refl W)).mono (fun i _ hi => ⟨hi.1, by omega⟩)) (by have := HR.out.2.2.2.2; omega) (HR.out.2.1.trans (Grow.refl W))
      go_wp2
      exact bodyPost_ret_by (results_cell_tmp rfl _ _ _ _ rfl (load_P _ _ _ _ HF.out.1 rfl)) rfl ⟨_, _, rfl, HF.out.2⟩
end Go.Proofs.Ythdhfojogckflaa
