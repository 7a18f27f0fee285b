/-
  The walks of the document's Load and Do. Conditions: each theorem's own.
-/
import Derived.Test.YthdhfojogckflaaPrtI
namespace Go.Proofs.Ythdhfojogckflaa
open Go.RowKit
set_option linter.unusedVariables false
set_option linter.unusedSimpArgs false

theorem loadS_yes {s : FS} {q : Int} {ys : List Int} (h : ys.length = 32) : loadS s q ys = (⟨true, false, false, 0, q, ys⟩, 0) := if_pos h
theorem loadS_no {s : FS} {q : Int} {ys : List Int} (h : ¬ ys.length = 32) : loadS s q ys = (s, 2) := if_neg h

set_option maxRecDepth 8000 in
set_option maxHeartbeats 4000000 in
theorem qload_any {pq : Nat → Prop} (w : World) (a : Option Addr) (c : Nat) (L : List FS) (h : Int) (hr : RdQ pq w (.slice a L.length c) L) (hL : L.length ≤ 64) (hn : ∀ i, w.heap.size ≤ i → pq i) (hk : PtOk L 0) (i q : Int) (v : Value) (ys : List Int) (t : Nat → Prop) (hy : RdV (Value.int .u8) 0 t w v ys) : Calls Try.prog 40 #[.agg #[.slice a L.length c, .int .i64 h], .int .i64 i, .int .i64 q, v] w fun e w' => ∃ a' c', e = .returned (.tuple #[.agg #[.slice a' L.length c', .int .i64 h], .int .i64 (loadP i q ys L).2]) ∧ RdQ pq w' (.slice a' L.length c') (loadP i q ys L).1 ∧ Grow w w' := by
  obtain ⟨W, hW⟩ : ∃ W, (w.alloc (.cells #[.slice a L.length c, .int .i64 h] 30)).alloc (.cells #[.slice none 0 0, .int .i64 0] 30) = W := ⟨_, rfl⟩
  obtain ⟨X, hX⟩ : ∃ X, w.heap.size = X := ⟨_, rfl⟩
  have g0 : Grow w W := by rw [← hW]; exact ((Grow.refl w).alloc _).alloc _
  have V0 : VarAt W X [.slice a L.length c, .int .i64 h] := by rw [← hW, ← hX]; exact (VarAt.new w [.slice a L.length c, .int .i64 h] 30).old _
  have V1 : VarAt W (X + 1) [.slice none 0 0, .int .i64 0] := by rw [← hW, ← hX]; exact VarAt.new2 w _ [.slice none 0 0, .int .i64 0] 30
  have HR : Hid (RdQ (fun i => pq i ∧ i < X) W (.slice a L.length c) L ∧ Grow w W ∧ VarAt W X [.slice a L.length c, .int .i64 h] ∧ VarAt W (X + 1) [.slice none 0 0, .int .i64 0] ∧ w.heap.size = X) := ⟨by rw [← hX]; exact RdS.grow (rd_old hr) g0, g0, V0, V1, hX⟩
  have HN : Hid (∀ i, w.heap.size ≤ i → pq i) := hn
  obtain ⟨⟨v0, v1⟩, -⟩ := V0.two
  obtain ⟨⟨z0, z1⟩, f0, f1⟩ := V1.two
  obtain ⟨av, cv, hv⟩ := hy.shape
  by_cases hi : inL i L
  · obtain ⟨m, rfl, hm⟩ := nat_of hi
    have hle : (m : Int) < (L.length : Int) := by omega
    by_cases hf : fnd q L < L.length
    · by_cases hfm : fnd q L = m
      · rw [loadP_yes hm (fun e => e.2 hfm)]
        obtain ⟨b, o, rfl⟩ := rdQ_addr HR.out.1 (by omega)
        have hfi := qfind_any W _ c L h HR.out.1 hL q
        rw [fndQ_yes hf, hfm] at hfi
        have hne : ((m : Int) != (m : Int)) = false := by simp
        clear hf hfm
        have HQ : Hid (∀ w', Grow W w' → QIn w' b (o + m * 6) (L.getD m FS.empty)) := fun w' g => rdQ_in (RdS.grow HR.out.1 g) hm
        have hl := fun w' (g : Grow W w') => rloadS_any (L.getD m FS.empty) (hk.at hm) w' q v ys t (hy.grow (HR.out.2.1.trans g))
        have HM : Hid (m < L.length ∧ L.set m (L.getD m FS.empty) = L) := ⟨hm, set_id hm⟩
        by_cases hlen : ys.length = 32
        · rw [loadS_yes hlen] at hl ⊢
          generalize L.getD m FS.empty = s at hl HQ
          obtain ⟨u, d, r, p, qq, bs⟩ := s
          simp only [FS.v] at hl
          subst hv
          clear hr hi hm g0 V0 V1 hy hlen hk hn
          go_enter Try.func40, Try.ntmps40
          go_upto_region 1 with fail
          (try rw [hW])
          (try rw [hX])
          clear hW hX
          go_wp2_with fail
          refine hfi.mono ?_
          rintro e w1 ⟨rfl, g1⟩
          obtain ⟨⟨v0, v1⟩, -⟩ := (HR.out.2.2.1.grow g1).two
          obtain ⟨⟨z0, z1⟩, f0, f1⟩ := (HR.out.2.2.2.1.grow g1).two
          clear hfi
          obtain ⟨k0, k1, k2, k3, k4, k5⟩ := HQ.out w1 g1
          simp only at k0 k1 k2 k3 k4 k5
          have hl1 := hl w1 g1
          go_wp2_with fail
          refine hl1.mono ?_
          rintro e w2 ⟨rfl, g2⟩
          have g12 : Grow W w2 := g1.trans g2
          have H3f : Hid (∀ w3, w2.alloc (.cells #[.bool true, .bool false, .bool false, .int .i64 0, .int .i64 q, .string (strOfNums ys)] 68) = w3 → (Grow W w3 ∧ VarAt w3 w2.heap.size [.bool true, .bool false, .bool false, .int .i64 0, .int .i64 q, .string (strOfNums ys)])) := fun w3 e => by
            rw [← e]
            exact ⟨g12.alloc _, VarAt.new w2 [.bool true, .bool false, .bool false, .int .i64 0, .int .i64 q, .string (strOfNums ys)] 68⟩
          clear hl hl1 k0 k1 k2 k3 k4 k5 v0 v1 z0 z1 f0 f1 g2 g12
          go_upto_region 7 with fail
          generalize hw3 : w2.alloc (.cells #[.bool true, .bool false, .bool false, .int .i64 0, .int .i64 q, .string (strOfNums ys)] 68) = w3
          have H3 : Hid (Grow W w3 ∧ VarAt w3 w2.heap.size [.bool true, .bool false, .bool false, .int .i64 0, .int .i64 q, .string (strOfNums ys)]) := H3f.out w3 hw3
          clear hw3 H3f
          generalize w2.heap.size = M at H3 ⊢
          obtain ⟨⟨v0, v1⟩, -⟩ := (HR.out.2.2.1.grow H3.out.1).two
          obtain ⟨⟨z0, z1⟩, f0, f1⟩ := (HR.out.2.2.2.1.grow H3.out.1).two
          obtain ⟨⟨x0, x1, x2, x3, x4, x5⟩, -⟩ := H3.out.2.six
          have hw := qwith_any w3 _ c L h (RdS.grow HR.out.1 H3.out.1) hL m HM.out.1 ⟨true, false, false, 0, q, ys⟩
          go_wp2_with fail
          refine hw.mono ?_
          rintro e w4 ⟨a2, c2, rfl, r2, g4⟩
          have gg : Grow W w4 := H3.out.1.trans g4
          have hlo : X + 2 ≤ w3.heap.size := by have h1 := HR.out.2.2.2.1.lt; have := H3.out.1.size; omega
          have hX := HR.out.2.2.2.2
          have HF : Hid (VarAt ((w4.setCell ⟨X + 1, 0, none⟩ (.slice a2 L.length c2)).setCell ⟨X + 1, 1, none⟩ (.int .i64 h)) (X + 1) [.slice a2 L.length c2, .int .i64 h] ∧ RdQ pq ((w4.setCell ⟨X + 1, 0, none⟩ (.slice a2 L.length c2)).setCell ⟨X + 1, 1, none⟩ (.int .i64 h)) (.slice a2 L.length c2) (L.set m ⟨true, false, false, 0, q, ys⟩) ∧ Grow w ((w4.setCell ⟨X + 1, 0, none⟩ (.slice a2 L.length c2)).setCell ⟨X + 1, 1, none⟩ (.int .i64 h))) :=
            p_end (HR.out.2.2.2.1.grow gg) (r2.mono (fun i _ hi => ⟨HN.out i (by omega), by omega⟩)) (by have := hX; omega) (HR.out.2.1.trans gg)
          obtain ⟨⟨z0, z1⟩, f0, f1⟩ := (HR.out.2.2.2.1.grow gg).two
          clear hw r2 g4 gg x0 x1 x2 x3 x4 x5 v0 v1
          go_wp2
          exact bodyPost_ret_by (results_cell_tmp rfl _ _ _ _ rfl (load_P _ _ _ _ HF.out.1 rfl)) rfl ⟨_, _, rfl, HF.out.2⟩
        · rw [loadS_no hlen] at hl ⊢
          simp only []
          rw [HM.out.2]
          generalize L.getD m FS.empty = s at hl HQ
          obtain ⟨u, d, r, p, qq, bs⟩ := s
          simp only [FS.v] at hl
          subst hv
          clear hr hi hm g0 V0 V1 hy hlen hk hn
          go_enter Try.func40, Try.ntmps40
          go_upto_region 1 with fail
          (try rw [hW])
          (try rw [hX])
          clear hW hX
          go_wp2_with fail
          refine hfi.mono ?_
          rintro e w1 ⟨rfl, g1⟩
          obtain ⟨⟨v0, v1⟩, -⟩ := (HR.out.2.2.1.grow g1).two
          obtain ⟨⟨z0, z1⟩, f0, f1⟩ := (HR.out.2.2.2.1.grow g1).two
          clear hfi
          obtain ⟨k0, k1, k2, k3, k4, k5⟩ := HQ.out w1 g1
          simp only at k0 k1 k2 k3 k4 k5
          have hl1 := hl w1 g1
          go_wp2_with fail
          refine hl1.mono ?_
          rintro e w2 ⟨rfl, g2⟩
          have g12 : Grow W w2 := g1.trans g2
          have H3f : Hid (∀ w3, w2.alloc (.cells #[.bool u, .bool d, .bool r, .int .i64 p, .int .i64 qq, .string (strOfNums bs)] 68) = w3 → Grow W w3) := fun w3 e => by
            rw [← e]; exact g12.alloc _
          clear hl hl1 k0 k1 k2 k3 k4 k5 v0 v1 z0 z1 f0 f1 g2 g12
          go_upto_region 6 with fail
          generalize hw3 : w2.alloc (.cells #[.bool u, .bool d, .bool r, .int .i64 p, .int .i64 qq, .string (strOfNums bs)] 68) = w3
          have g3 : Grow W w3 := H3f.out w3 hw3
          clear hw3 H3f
          obtain ⟨⟨v0, v1⟩, -⟩ := (HR.out.2.2.1.grow g3).two
          obtain ⟨⟨z0, z1⟩, f0, f1⟩ := (HR.out.2.2.2.1.grow g3).two
          have HF : Hid (VarAt ((w3.setCell ⟨X + 1, 0, none⟩ (.slice (some ⟨b, o, none⟩) L.length c)).setCell ⟨X + 1, 1, none⟩ (.int .i64 h)) (X + 1) [.slice (some ⟨b, o, none⟩) L.length c, .int .i64 h] ∧ RdQ pq ((w3.setCell ⟨X + 1, 0, none⟩ (.slice (some ⟨b, o, none⟩) L.length c)).setCell ⟨X + 1, 1, none⟩ (.int .i64 h)) (.slice (some ⟨b, o, none⟩) L.length c) L ∧ Grow w ((w3.setCell ⟨X + 1, 0, none⟩ (.slice (some ⟨b, o, none⟩) L.length c)).setCell ⟨X + 1, 1, none⟩ (.int .i64 h))) :=
            p_end (HR.out.2.2.2.1.grow g3) ((RdS.grow HR.out.1 g3).mono (fun i _ hi => ⟨hi.1, by omega⟩)) (by have := HR.out.2.2.2.2; omega) (HR.out.2.1.trans g3)
          go_wp2
          exact bodyPost_ret_by (results_cell_tmp rfl _ _ _ _ rfl (load_P _ _ _ _ HF.out.1 rfl)) rfl ⟨_, _, rfl, HF.out.2⟩
      · rw [loadP_other hm hf hfm]
        obtain ⟨b, o, rfl⟩ := rdQ_addr HR.out.1 (by omega)
        have hfi := qfind_any W _ c L h HR.out.1 hL q
        rw [fndQ_yes hf] at hfi
        have hne : ((fnd q L : Int) != (m : Int)) = true := by rw [bne_iff_ne]; omega
        generalize fnd q L = z at hfi hne
        subst hv
        clear hr hi hm g0 V0 V1 hy hk hn hf hfm
        go_enter Try.func40, Try.ntmps40
        go_upto_region 1 with fail
        (try rw [hW])
        (try rw [hX])
        clear hW hX
        go_wp2_with fail
        refine hfi.mono ?_
        rintro e w1 ⟨rfl, g1⟩
        obtain ⟨⟨v0, v1⟩, -⟩ := (HR.out.2.2.1.grow g1).two
        obtain ⟨⟨z0, z1⟩, f0, f1⟩ := (HR.out.2.2.2.1.grow g1).two
        clear hfi
        have HF : Hid (VarAt ((w1.setCell ⟨X + 1, 0, none⟩ (.slice (some ⟨b, o, none⟩) L.length c)).setCell ⟨X + 1, 1, none⟩ (.int .i64 h)) (X + 1) [.slice (some ⟨b, o, none⟩) L.length c, .int .i64 h] ∧ RdQ pq ((w1.setCell ⟨X + 1, 0, none⟩ (.slice (some ⟨b, o, none⟩) L.length c)).setCell ⟨X + 1, 1, none⟩ (.int .i64 h)) (.slice (some ⟨b, o, none⟩) L.length c) L ∧ Grow w ((w1.setCell ⟨X + 1, 0, none⟩ (.slice (some ⟨b, o, none⟩) L.length c)).setCell ⟨X + 1, 1, none⟩ (.int .i64 h))) :=
          p_end (HR.out.2.2.2.1.grow g1) ((RdS.grow HR.out.1 g1).mono (fun i _ hi => ⟨hi.1, by omega⟩)) (by have := HR.out.2.2.2.2; omega) (HR.out.2.1.trans g1)
        go_wp2
        exact bodyPost_ret_by (results_cell_tmp rfl _ _ _ _ rfl (load_P _ _ _ _ HF.out.1 rfl)) rfl ⟨_, _, rfl, HF.out.2⟩
    · rw [loadP_yes hm (fun e => hf e.1)]
      obtain ⟨b, o, rfl⟩ := rdQ_addr HR.out.1 (by omega)
      have hfi := qfind_any W _ c L h HR.out.1 hL q
      rw [fndQ_no hf] at hfi
      clear hf
      have HQ : Hid (∀ w', Grow W w' → QIn w' b (o + m * 6) (L.getD m FS.empty)) := fun w' g => rdQ_in (RdS.grow HR.out.1 g) hm
      have hl := fun w' (g : Grow W w') => rloadS_any (L.getD m FS.empty) (hk.at hm) w' q v ys t (hy.grow (HR.out.2.1.trans g))
      have HM : Hid (m < L.length ∧ L.set m (L.getD m FS.empty) = L) := ⟨hm, set_id hm⟩
      by_cases hlen : ys.length = 32
      · rw [loadS_yes hlen] at hl ⊢
        generalize L.getD m FS.empty = s at hl HQ
        obtain ⟨u, d, r, p, qq, bs⟩ := s
        simp only [FS.v] at hl
        subst hv
        clear hr hi hm g0 V0 V1 hy hlen hk hn
        go_enter Try.func40, Try.ntmps40
        go_upto_region 1 with fail
        (try rw [hW])
        (try rw [hX])
        clear hW hX
        go_wp2_with fail
        refine hfi.mono ?_
        rintro e w1 ⟨rfl, g1⟩
        obtain ⟨⟨v0, v1⟩, -⟩ := (HR.out.2.2.1.grow g1).two
        obtain ⟨⟨z0, z1⟩, f0, f1⟩ := (HR.out.2.2.2.1.grow g1).two
        clear hfi
        obtain ⟨k0, k1, k2, k3, k4, k5⟩ := HQ.out w1 g1
        simp only at k0 k1 k2 k3 k4 k5
        have hl1 := hl w1 g1
        go_wp2_with fail
        refine hl1.mono ?_
        rintro e w2 ⟨rfl, g2⟩
        have g12 : Grow W w2 := g1.trans g2
        have H3f : Hid (∀ w3, w2.alloc (.cells #[.bool true, .bool false, .bool false, .int .i64 0, .int .i64 q, .string (strOfNums ys)] 68) = w3 → (Grow W w3 ∧ VarAt w3 w2.heap.size [.bool true, .bool false, .bool false, .int .i64 0, .int .i64 q, .string (strOfNums ys)])) := fun w3 e => by
          rw [← e]
          exact ⟨g12.alloc _, VarAt.new w2 [.bool true, .bool false, .bool false, .int .i64 0, .int .i64 q, .string (strOfNums ys)] 68⟩
        clear hl hl1 k0 k1 k2 k3 k4 k5 v0 v1 z0 z1 f0 f1 g2 g12
        go_upto_region 7 with fail
        generalize hw3 : w2.alloc (.cells #[.bool true, .bool false, .bool false, .int .i64 0, .int .i64 q, .string (strOfNums ys)] 68) = w3
        have H3 : Hid (Grow W w3 ∧ VarAt w3 w2.heap.size [.bool true, .bool false, .bool false, .int .i64 0, .int .i64 q, .string (strOfNums ys)]) := H3f.out w3 hw3
        clear hw3 H3f
        generalize w2.heap.size = M at H3 ⊢
        obtain ⟨⟨v0, v1⟩, -⟩ := (HR.out.2.2.1.grow H3.out.1).two
        obtain ⟨⟨z0, z1⟩, f0, f1⟩ := (HR.out.2.2.2.1.grow H3.out.1).two
        obtain ⟨⟨x0, x1, x2, x3, x4, x5⟩, -⟩ := H3.out.2.six
        have hw := qwith_any w3 _ c L h (RdS.grow HR.out.1 H3.out.1) hL m HM.out.1 ⟨true, false, false, 0, q, ys⟩
        go_wp2_with fail
        refine hw.mono ?_
        rintro e w4 ⟨a2, c2, rfl, r2, g4⟩
        have gg : Grow W w4 := H3.out.1.trans g4
        have hlo : X + 2 ≤ w3.heap.size := by have h1 := HR.out.2.2.2.1.lt; have := H3.out.1.size; omega
        have hX := HR.out.2.2.2.2
        have HF : Hid (VarAt ((w4.setCell ⟨X + 1, 0, none⟩ (.slice a2 L.length c2)).setCell ⟨X + 1, 1, none⟩ (.int .i64 h)) (X + 1) [.slice a2 L.length c2, .int .i64 h] ∧ RdQ pq ((w4.setCell ⟨X + 1, 0, none⟩ (.slice a2 L.length c2)).setCell ⟨X + 1, 1, none⟩ (.int .i64 h)) (.slice a2 L.length c2) (L.set m ⟨true, false, false, 0, q, ys⟩) ∧ Grow w ((w4.setCell ⟨X + 1, 0, none⟩ (.slice a2 L.length c2)).setCell ⟨X + 1, 1, none⟩ (.int .i64 h))) :=
          p_end (HR.out.2.2.2.1.grow gg) (r2.mono (fun i _ hi => ⟨HN.out i (by omega), by omega⟩)) (by have := hX; omega) (HR.out.2.1.trans gg)
        obtain ⟨⟨z0, z1⟩, f0, f1⟩ := (HR.out.2.2.2.1.grow gg).two
        clear hw r2 g4 gg x0 x1 x2 x3 x4 x5 v0 v1
        go_wp2
        exact bodyPost_ret_by (results_cell_tmp rfl _ _ _ _ rfl (load_P _ _ _ _ HF.out.1 rfl)) rfl ⟨_, _, rfl, HF.out.2⟩
      · rw [loadS_no hlen] at hl ⊢
        simp only []
        rw [HM.out.2]
        generalize L.getD m FS.empty = s at hl HQ
        obtain ⟨u, d, r, p, qq, bs⟩ := s
        simp only [FS.v] at hl
        subst hv
        clear hr hi hm g0 V0 V1 hy hlen hk hn
        go_enter Try.func40, Try.ntmps40
        go_upto_region 1 with fail
        (try rw [hW])
        (try rw [hX])
        clear hW hX
        go_wp2_with fail
        refine hfi.mono ?_
        rintro e w1 ⟨rfl, g1⟩
        obtain ⟨⟨v0, v1⟩, -⟩ := (HR.out.2.2.1.grow g1).two
        obtain ⟨⟨z0, z1⟩, f0, f1⟩ := (HR.out.2.2.2.1.grow g1).two
        clear hfi
        obtain ⟨k0, k1, k2, k3, k4, k5⟩ := HQ.out w1 g1
        simp only at k0 k1 k2 k3 k4 k5
        have hl1 := hl w1 g1
        go_wp2_with fail
        refine hl1.mono ?_
        rintro e w2 ⟨rfl, g2⟩
        have g12 : Grow W w2 := g1.trans g2
        have H3f : Hid (∀ w3, w2.alloc (.cells #[.bool u, .bool d, .bool r, .int .i64 p, .int .i64 qq, .string (strOfNums bs)] 68) = w3 → Grow W w3) := fun w3 e => by
          rw [← e]; exact g12.alloc _
        clear hl hl1 k0 k1 k2 k3 k4 k5 v0 v1 z0 z1 f0 f1 g2 g12
        go_upto_region 6 with fail
        generalize hw3 : w2.alloc (.cells #[.bool u, .bool d, .bool r, .int .i64 p, .int .i64 qq, .string (strOfNums bs)] 68) = w3
        have g3 : Grow W w3 := H3f.out w3 hw3
        clear hw3 H3f
        obtain ⟨⟨v0, v1⟩, -⟩ := (HR.out.2.2.1.grow g3).two
        obtain ⟨⟨z0, z1⟩, f0, f1⟩ := (HR.out.2.2.2.1.grow g3).two
        have HF : Hid (VarAt ((w3.setCell ⟨X + 1, 0, none⟩ (.slice (some ⟨b, o, none⟩) L.length c)).setCell ⟨X + 1, 1, none⟩ (.int .i64 h)) (X + 1) [.slice (some ⟨b, o, none⟩) L.length c, .int .i64 h] ∧ RdQ pq ((w3.setCell ⟨X + 1, 0, none⟩ (.slice (some ⟨b, o, none⟩) L.length c)).setCell ⟨X + 1, 1, none⟩ (.int .i64 h)) (.slice (some ⟨b, o, none⟩) L.length c) L ∧ Grow w ((w3.setCell ⟨X + 1, 0, none⟩ (.slice (some ⟨b, o, none⟩) L.length c)).setCell ⟨X + 1, 1, none⟩ (.int .i64 h))) :=
          p_end (HR.out.2.2.2.1.grow g3) ((RdS.grow HR.out.1 g3).mono (fun i _ hi => ⟨hi.1, by omega⟩)) (by have := HR.out.2.2.2.2; omega) (HR.out.2.1.trans g3)
        go_wp2
        exact bodyPost_ret_by (results_cell_tmp rfl _ _ _ _ rfl (load_P _ _ _ _ HF.out.1 rfl)) rfl ⟨_, _, rfl, HF.out.2⟩
  · rw [loadP_no hi]
    have hfi := qfind_any W _ c L h HR.out.1 hL q
    have hzq : -1 ≤ fndQ q L ∧ fndQ q L ≤ 64 := by
      have := fnd_le q L
      unfold fndQ; split <;> omega
    generalize fndQ q L = z at hfi hzq
    have hb : i < 0 ∨ (0 ≤ i ∧ (L.length : Int) ≤ i) := by
      by_cases h0 : i < 0
      · exact .inl h0
      · exact .inr ⟨by omega, by have : ¬ (0 ≤ i ∧ i < L.length) := hi; omega⟩
    subst hv
    clear hr hi g0 V0 V1 hy hk hn hzq
    rcases hb with h0 | ⟨h0, h1⟩
    · skip
      go_enter Try.func40, Try.ntmps40
      go_upto_region 1 with fail
      (try rw [hW])
      (try rw [hX])
      clear hW hX
      go_wp2_with fail
      refine hfi.mono ?_
      rintro e w1 ⟨rfl, g1⟩
      obtain ⟨⟨v0, v1⟩, -⟩ := (HR.out.2.2.1.grow g1).two
      obtain ⟨⟨z0, z1⟩, f0, f1⟩ := (HR.out.2.2.2.1.grow g1).two
      clear hfi
      have HF : Hid (VarAt ((w1.setCell ⟨X + 1, 0, none⟩ (.slice a L.length c)).setCell ⟨X + 1, 1, none⟩ (.int .i64 h)) (X + 1) [.slice a L.length c, .int .i64 h] ∧ RdQ pq ((w1.setCell ⟨X + 1, 0, none⟩ (.slice a L.length c)).setCell ⟨X + 1, 1, none⟩ (.int .i64 h)) (.slice a L.length c) L ∧ Grow w ((w1.setCell ⟨X + 1, 0, none⟩ (.slice a L.length c)).setCell ⟨X + 1, 1, none⟩ (.int .i64 h))) :=
        p_end (HR.out.2.2.2.1.grow g1) ((RdS.grow HR.out.1 g1).mono (fun i _ hi => ⟨hi.1, by omega⟩)) (by have := HR.out.2.2.2.2; omega) (HR.out.2.1.trans g1)
      go_wp2
      exact bodyPost_ret_by (results_cell_tmp rfl _ _ _ _ rfl (load_P _ _ _ _ HF.out.1 rfl)) rfl ⟨_, _, rfl, HF.out.2⟩
    · have hx : ¬ i < 0 := by omega
      go_enter Try.func40, Try.ntmps40
      go_upto_region 1 with fail
      (try rw [hW])
      (try rw [hX])
      clear hW hX
      go_wp2_with fail
      refine hfi.mono ?_
      rintro e w1 ⟨rfl, g1⟩
      obtain ⟨⟨v0, v1⟩, -⟩ := (HR.out.2.2.1.grow g1).two
      obtain ⟨⟨z0, z1⟩, f0, f1⟩ := (HR.out.2.2.2.1.grow g1).two
      clear hfi
      have HF : Hid (VarAt ((w1.setCell ⟨X + 1, 0, none⟩ (.slice a L.length c)).setCell ⟨X + 1, 1, none⟩ (.int .i64 h)) (X + 1) [.slice a L.length c, .int .i64 h] ∧ RdQ pq ((w1.setCell ⟨X + 1, 0, none⟩ (.slice a L.length c)).setCell ⟨X + 1, 1, none⟩ (.int .i64 h)) (.slice a L.length c) L ∧ Grow w ((w1.setCell ⟨X + 1, 0, none⟩ (.slice a L.length c)).setCell ⟨X + 1, 1, none⟩ (.int .i64 h))) :=
        p_end (HR.out.2.2.2.1.grow g1) ((RdS.grow HR.out.1 g1).mono (fun i _ hi => ⟨hi.1, by omega⟩)) (by have := HR.out.2.2.2.2; omega) (HR.out.2.1.trans g1)
      go_wp2
      exact bodyPost_ret_by (results_cell_tmp rfl _ _ _ _ rfl (load_P _ _ _ _ HF.out.1 rfl)) rfl ⟨_, _, rfl, HF.out.2⟩
end Go.Proofs.Ythdhfojogckflaa
