/-
  The walks of the document's Do. Conditions: each theorem's own.
-/
import Derived.Test.YthdhfojogckflaaPrtJ
namespace Go.Proofs.Ythdhfojogckflaa
open Go.RowKit
set_option linter.unusedVariables false
set_option linter.unusedSimpArgs false



set_option maxRecDepth 8000 in
set_option maxHeartbeats 4000000 in
theorem qdo_pin {pq : Nat → Prop} (w : World) (a : Option Addr) (c : Nat) (L : List FS) (h : Int) (hr : RdQ pq w (.slice a L.length c) L) (hL : L.length ≤ 64) (hn : ∀ i, w.heap.size ≤ i → pq i) (hk : PtOk L 0) (q : Int) : Calls Try.prog 39 #[.agg #[.slice a L.length c, .int .i64 h], .int .i64 0, .int .i64 q, .int .i64 0, .int .i64 0, .slice none 0 0] w fun e w' => ∃ a' c', e = .returned (.tuple #[.agg #[.slice a' L.length c', .int .i64 h], .slice none 0 0, .int .i64 (onP q pinS L).2]) ∧ RdQ pq w' (.slice a' L.length c') (onP q pinS L).1 ∧ Grow w w' := by
  obtain ⟨W, hW⟩ : ∃ W, (w.alloc (.cells #[.slice a L.length c, .int .i64 h] 30)).alloc (.cells #[.slice none 0 0, .int .i64 0] 30) = W := ⟨_, rfl⟩
  obtain ⟨X, hX⟩ : ∃ X, w.heap.size = X := ⟨_, rfl⟩
  have g0 : Grow w W := by rw [← hW]; exact ((Grow.refl w).alloc _).alloc _
  have V0 : VarAt W X [.slice a L.length c, .int .i64 h] := by rw [← hW, ← hX]; exact (VarAt.new w [.slice a L.length c, .int .i64 h] 30).old _
  have V1 : VarAt W (X + 1) [.slice none 0 0, .int .i64 0] := by rw [← hW, ← hX]; exact VarAt.new2 w _ [.slice none 0 0, .int .i64 0] 30
  have HR : Hid (RdQ (fun i => pq i ∧ i < X) W (.slice a L.length c) L ∧ Grow w W ∧ VarAt W X [.slice a L.length c, .int .i64 h] ∧ VarAt W (X + 1) [.slice none 0 0, .int .i64 0] ∧ w.heap.size = X) := ⟨by rw [← hX]; exact RdS.grow (rd_old hr) g0, g0, V0, V1, hX⟩
  have HN : Hid (∀ i, w.heap.size ≤ i → pq i) := hn
  obtain ⟨⟨v0, v1⟩, -⟩ := V0.two
  obtain ⟨⟨z0, z1⟩, f0, f1⟩ := V1.two
  by_cases hf : fnd q L < L.length
  · obtain ⟨m, hm0⟩ : ∃ m, fnd q L = m := ⟨_, rfl⟩
    rw [onP_yes hf hm0]
    obtain ⟨b, o, rfl⟩ := rdQ_addr HR.out.1 (by omega)
    have hfi := qfind_any W _ c L h HR.out.1 hL q
    rw [fndQ_yes hf, hm0] at hfi
    rw [hm0] at hf
    have hle : (m : Int) < (L.length : Int) := by omega
    have HQ : Hid (∀ w', Grow W w' → QIn w' b (o + m * 6) (L.getD m FS.empty)) := fun w' g => rdQ_in (RdS.grow HR.out.1 g) hf
    have hl := fun w' (g : Grow W w') => rpinS_any (L.getD m FS.empty) (hk.at hf) w'
    have HM : Hid (m < L.length) := hf
    skip
    generalize pinS (L.getD m FS.empty) = T at hl ⊢
    generalize L.getD m FS.empty = s at hl HQ
    obtain ⟨u, d, r, p, qq, bs⟩ := s
    obtain ⟨⟨u', d', r', p', q', bs'⟩, E⟩ := T
    simp only [FS.v] at hl ⊢
    clear hr hf hm0 g0 V0 V1 hk hn
    go_enter Try.func39, Try.ntmps39
    go_upto_region 1 with fail
    (try rw [hW])
    (try rw [hX])
    clear hW hX
    go_wp2_with fail
    refine hfi.mono ?_
    rintro e w1 ⟨rfl, g1⟩
    obtain ⟨⟨v0, v1⟩, -⟩ := (HR.out.2.2.1.grow g1).two
    obtain ⟨⟨z0, z1⟩, f0, f1⟩ := (HR.out.2.2.2.1.grow g1).two
    clear hfi
    obtain ⟨k0, k1, k2, k3, k4, k5⟩ := HQ.out w1 g1
    simp only at k0 k1 k2 k3 k4 k5
    have V2 := VarAt.new w1 [.bool u, .bool d, .bool r, .int .i64 p, .int .i64 qq, .string (strOfNums bs)] 68
    have g2 : Grow W (w1.alloc (.cells #[.bool u, .bool d, .bool r, .int .i64 p, .int .i64 qq, .string (strOfNums bs)] 68)) := g1.alloc _
    have hl1 := hl _ g2
    have HX : Hid (X + 1 < w1.heap.size) := by show X + 1 < _; have h1 := HR.out.2.2.2.1.lt; have := g1.size; omega
    go_wp2_with fail
    refine hl1.mono ?_
    rintro e w2 ⟨rfl, g3⟩
    have V3 := V2.grow g3
    obtain ⟨⟨y0, y1, y2, y3, y4, y5⟩, e0, e1, e2, e3, e4, e5⟩ := VarAt.six V3
    have H3f : Hid (Grow W (put6 w2 w1.heap.size (.bool u') (.bool d') (.bool r') (.int .i64 p') (.int .i64 q') (.string (strOfNums bs'))) ∧ VarAt (put6 w2 w1.heap.size (.bool u') (.bool d') (.bool r') (.int .i64 p') (.int .i64 q') (.string (strOfNums bs'))) w1.heap.size [.bool u', .bool d', .bool r', .int .i64 p', .int .i64 q', .string (strOfNums bs')]) := by
      have hX := HX.out
      have hs := g1.size
      exact ⟨UpdS.new (g2.trans g3) (upd_put6 _ _ _ _ _ _ _ _) (fun i hi => by omega), V3.put6 _ _ _ _ _ _⟩
    clear hl hl1 k0 k1 k2 k3 k4 k5 v0 v1 z0 z1 f0 f1 g2 V2 V3
    go_upto_region 15 with fail
    rw [put6_eq]
    generalize hw3 : put6 w2 w1.heap.size (.bool u') (.bool d') (.bool r') (.int .i64 p') (.int .i64 q') (.string (strOfNums bs')) = w3 at H3f ⊢
    have H3 : Hid (Grow W w3 ∧ VarAt w3 w1.heap.size [.bool u', .bool d', .bool r', .int .i64 p', .int .i64 q', .string (strOfNums bs')]) := H3f.out
    clear H3f y0 y1 y2 y3 y4 y5 e0 e1 e2 e3 e4 e5
    clear hw3 g1 g3
    generalize w1.heap.size = M at H3 HX ⊢
    obtain ⟨⟨v0, v1⟩, -⟩ := (HR.out.2.2.1.grow H3.out.1).two
    obtain ⟨⟨z0, z1⟩, f0, f1⟩ := (HR.out.2.2.2.1.grow H3.out.1).two
    obtain ⟨⟨x0, x1, x2, x3, x4, x5⟩, -⟩ := H3.out.2.six
    have hw := qwith_any w3 _ c L h (RdS.grow HR.out.1 H3.out.1) hL m HM.out ⟨u', d', r', p', q', bs'⟩
    go_wp2_with fail
    refine hw.mono ?_
    rintro e w4 ⟨a2, c2, rfl, r2, g4⟩
    have gg : Grow W w4 := H3.out.1.trans g4
    have hlo : X + 2 ≤ w3.heap.size := by have h1 := HR.out.2.2.2.1.lt; have := H3.out.1.size; omega
    have hX := HR.out.2.2.2.2
    have HF : Hid (VarAt ((w4.setCell ⟨X + 1, 0, none⟩ (.slice a2 L.length c2)).setCell ⟨X + 1, 1, none⟩ (.int .i64 h)) (X + 1) [.slice a2 L.length c2, .int .i64 h] ∧ RdQ pq ((w4.setCell ⟨X + 1, 0, none⟩ (.slice a2 L.length c2)).setCell ⟨X + 1, 1, none⟩ (.int .i64 h)) (.slice a2 L.length c2) (L.set m ⟨u', d', r', p', q', bs'⟩) ∧ Grow w ((w4.setCell ⟨X + 1, 0, none⟩ (.slice a2 L.length c2)).setCell ⟨X + 1, 1, none⟩ (.int .i64 h))) :=
      p_end (HR.out.2.2.2.1.grow gg) (r2.mono (fun i _ hi => ⟨HN.out i (by omega), by omega⟩)) (by have := hX; omega) (HR.out.2.1.trans gg)
    obtain ⟨⟨z0, z1⟩, f0, f1⟩ := (HR.out.2.2.2.1.grow gg).two
    clear hw r2 g4 gg x0 x1 x2 x3 x4 x5 v0 v1
    go_wp2
    exact bodyPost_ret_by (results_cell_tmp2 rfl _ _ _ _ rfl (load_P _ _ _ _ HF.out.1 rfl)) rfl ⟨_, _, rfl, HF.out.2⟩
  · rw [onP_no hf]
    have hfi := qfind_any W _ c L h HR.out.1 hL q
    rw [fndQ_no hf] at hfi
    clear hr hf g0 V0 V1 hk hn
    go_enter Try.func39, Try.ntmps39
    go_upto_region 1 with fail
    (try rw [hW])
    (try rw [hX])
    clear hW hX
    go_wp2_with fail
    refine hfi.mono ?_
    rintro e w1 ⟨rfl, g1⟩
    obtain ⟨⟨v0, v1⟩, -⟩ := (HR.out.2.2.1.grow g1).two
    obtain ⟨⟨z0, z1⟩, f0, f1⟩ := (HR.out.2.2.2.1.grow g1).two
    clear hfi
    have HF : Hid (VarAt ((w1.setCell ⟨X + 1, 0, none⟩ (.slice a L.length c)).setCell ⟨X + 1, 1, none⟩ (.int .i64 h)) (X + 1) [.slice a L.length c, .int .i64 h] ∧ RdQ pq ((w1.setCell ⟨X + 1, 0, none⟩ (.slice a L.length c)).setCell ⟨X + 1, 1, none⟩ (.int .i64 h)) (.slice a L.length c) L ∧ Grow w ((w1.setCell ⟨X + 1, 0, none⟩ (.slice a L.length c)).setCell ⟨X + 1, 1, none⟩ (.int .i64 h))) :=
      p_end (HR.out.2.2.2.1.grow g1) ((RdS.grow HR.out.1 g1).mono (fun i _ hi => ⟨hi.1, by omega⟩)) (by have := HR.out.2.2.2.2; omega) (HR.out.2.1.trans g1)
    go_wp2
    exact bodyPost_ret_by (results_cell_tmp2 rfl _ _ _ _ rfl (load_P _ _ _ _ HF.out.1 rfl)) rfl ⟨_, _, rfl, HF.out.2⟩

set_option maxRecDepth 8000 in
set_option maxHeartbeats 4000000 in
theorem qdo_unpin {pq : Nat → Prop} (w : World) (a : Option Addr) (c : Nat) (L : List FS) (h : Int) (hr : RdQ pq w (.slice a L.length c) L) (hL : L.length ≤ 64) (hn : ∀ i, w.heap.size ≤ i → pq i) (hk : PtOk L 0) (q : Int) : Calls Try.prog 39 #[.agg #[.slice a L.length c, .int .i64 h], .int .i64 1, .int .i64 q, .int .i64 0, .int .i64 0, .slice none 0 0] w fun e w' => ∃ a' c', e = .returned (.tuple #[.agg #[.slice a' L.length c', .int .i64 h], .slice none 0 0, .int .i64 (onP q unpinS L).2]) ∧ RdQ pq w' (.slice a' L.length c') (onP q unpinS L).1 ∧ Grow w w' := by
  obtain ⟨W, hW⟩ : ∃ W, (w.alloc (.cells #[.slice a L.length c, .int .i64 h] 30)).alloc (.cells #[.slice none 0 0, .int .i64 0] 30) = W := ⟨_, rfl⟩
  obtain ⟨X, hX⟩ : ∃ X, w.heap.size = X := ⟨_, rfl⟩
  have g0 : Grow w W := by rw [← hW]; exact ((Grow.refl w).alloc _).alloc _
  have V0 : VarAt W X [.slice a L.length c, .int .i64 h] := by rw [← hW, ← hX]; exact (VarAt.new w [.slice a L.length c, .int .i64 h] 30).old _
  have V1 : VarAt W (X + 1) [.slice none 0 0, .int .i64 0] := by rw [← hW, ← hX]; exact VarAt.new2 w _ [.slice none 0 0, .int .i64 0] 30
  have HR : Hid (RdQ (fun i => pq i ∧ i < X) W (.slice a L.length c) L ∧ Grow w W ∧ VarAt W X [.slice a L.length c, .int .i64 h] ∧ VarAt W (X + 1) [.slice none 0 0, .int .i64 0] ∧ w.heap.size = X) := ⟨by rw [← hX]; exact RdS.grow (rd_old hr) g0, g0, V0, V1, hX⟩
  have HN : Hid (∀ i, w.heap.size ≤ i → pq i) := hn
  obtain ⟨⟨v0, v1⟩, -⟩ := V0.two
  obtain ⟨⟨z0, z1⟩, f0, f1⟩ := V1.two
  by_cases hf : fnd q L < L.length
  · obtain ⟨m, hm0⟩ : ∃ m, fnd q L = m := ⟨_, rfl⟩
    rw [onP_yes hf hm0]
    obtain ⟨b, o, rfl⟩ := rdQ_addr HR.out.1 (by omega)
    have hfi := qfind_any W _ c L h HR.out.1 hL q
    rw [fndQ_yes hf, hm0] at hfi
    rw [hm0] at hf
    have hle : (m : Int) < (L.length : Int) := by omega
    have HQ : Hid (∀ w', Grow W w' → QIn w' b (o + m * 6) (L.getD m FS.empty)) := fun w' g => rdQ_in (RdS.grow HR.out.1 g) hf
    have hl := fun w' (g : Grow W w') => runpinS_any (L.getD m FS.empty) (hk.at hf) w'
    have HM : Hid (m < L.length) := hf
    skip
    generalize unpinS (L.getD m FS.empty) = T at hl ⊢
    generalize L.getD m FS.empty = s at hl HQ
    obtain ⟨u, d, r, p, qq, bs⟩ := s
    obtain ⟨⟨u', d', r', p', q', bs'⟩, E⟩ := T
    simp only [FS.v] at hl ⊢
    clear hr hf hm0 g0 V0 V1 hk hn
    go_enter Try.func39, Try.ntmps39
    go_upto_region 1 with fail
    (try rw [hW])
    (try rw [hX])
    clear hW hX
    go_wp2_with fail
    refine hfi.mono ?_
    rintro e w1 ⟨rfl, g1⟩
    obtain ⟨⟨v0, v1⟩, -⟩ := (HR.out.2.2.1.grow g1).two
    obtain ⟨⟨z0, z1⟩, f0, f1⟩ := (HR.out.2.2.2.1.grow g1).two
    clear hfi
    obtain ⟨k0, k1, k2, k3, k4, k5⟩ := HQ.out w1 g1
    simp only at k0 k1 k2 k3 k4 k5
    have V2 := VarAt.new w1 [.bool u, .bool d, .bool r, .int .i64 p, .int .i64 qq, .string (strOfNums bs)] 68
    have g2 : Grow W (w1.alloc (.cells #[.bool u, .bool d, .bool r, .int .i64 p, .int .i64 qq, .string (strOfNums bs)] 68)) := g1.alloc _
    have hl1 := hl _ g2
    have HX : Hid (X + 1 < w1.heap.size) := by show X + 1 < _; have h1 := HR.out.2.2.2.1.lt; have := g1.size; omega
    go_wp2_with fail
    refine hl1.mono ?_
    rintro e w2 ⟨rfl, g3⟩
    have V3 := V2.grow g3
    obtain ⟨⟨y0, y1, y2, y3, y4, y5⟩, e0, e1, e2, e3, e4, e5⟩ := VarAt.six V3
    have H3f : Hid (Grow W (put6 w2 w1.heap.size (.bool u') (.bool d') (.bool r') (.int .i64 p') (.int .i64 q') (.string (strOfNums bs'))) ∧ VarAt (put6 w2 w1.heap.size (.bool u') (.bool d') (.bool r') (.int .i64 p') (.int .i64 q') (.string (strOfNums bs'))) w1.heap.size [.bool u', .bool d', .bool r', .int .i64 p', .int .i64 q', .string (strOfNums bs')]) := by
      have hX := HX.out
      have hs := g1.size
      exact ⟨UpdS.new (g2.trans g3) (upd_put6 _ _ _ _ _ _ _ _) (fun i hi => by omega), V3.put6 _ _ _ _ _ _⟩
    clear hl hl1 k0 k1 k2 k3 k4 k5 v0 v1 z0 z1 f0 f1 g2 V2 V3
    go_upto_region 15 with fail
    rw [put6_eq]
    generalize hw3 : put6 w2 w1.heap.size (.bool u') (.bool d') (.bool r') (.int .i64 p') (.int .i64 q') (.string (strOfNums bs')) = w3 at H3f ⊢
    have H3 : Hid (Grow W w3 ∧ VarAt w3 w1.heap.size [.bool u', .bool d', .bool r', .int .i64 p', .int .i64 q', .string (strOfNums bs')]) := H3f.out
    clear H3f y0 y1 y2 y3 y4 y5 e0 e1 e2 e3 e4 e5
    clear hw3 g1 g3
    generalize w1.heap.size = M at H3 HX ⊢
    obtain ⟨⟨v0, v1⟩, -⟩ := (HR.out.2.2.1.grow H3.out.1).two
    obtain ⟨⟨z0, z1⟩, f0, f1⟩ := (HR.out.2.2.2.1.grow H3.out.1).two
    obtain ⟨⟨x0, x1, x2, x3, x4, x5⟩, -⟩ := H3.out.2.six
    have hw := qwith_any w3 _ c L h (RdS.grow HR.out.1 H3.out.1) hL m HM.out ⟨u', d', r', p', q', bs'⟩
    go_wp2_with fail
    refine hw.mono ?_
    rintro e w4 ⟨a2, c2, rfl, r2, g4⟩
    have gg : Grow W w4 := H3.out.1.trans g4
    have hlo : X + 2 ≤ w3.heap.size := by have h1 := HR.out.2.2.2.1.lt; have := H3.out.1.size; omega
    have hX := HR.out.2.2.2.2
    have HF : Hid (VarAt ((w4.setCell ⟨X + 1, 0, none⟩ (.slice a2 L.length c2)).setCell ⟨X + 1, 1, none⟩ (.int .i64 h)) (X + 1) [.slice a2 L.length c2, .int .i64 h] ∧ RdQ pq ((w4.setCell ⟨X + 1, 0, none⟩ (.slice a2 L.length c2)).setCell ⟨X + 1, 1, none⟩ (.int .i64 h)) (.slice a2 L.length c2) (L.set m ⟨u', d', r', p', q', bs'⟩) ∧ Grow w ((w4.setCell ⟨X + 1, 0, none⟩ (.slice a2 L.length c2)).setCell ⟨X + 1, 1, none⟩ (.int .i64 h))) :=
      p_end (HR.out.2.2.2.1.grow gg) (r2.mono (fun i _ hi => ⟨HN.out i (by omega), by omega⟩)) (by have := hX; omega) (HR.out.2.1.trans gg)
    obtain ⟨⟨z0, z1⟩, f0, f1⟩ := (HR.out.2.2.2.1.grow gg).two
    clear hw r2 g4 gg x0 x1 x2 x3 x4 x5 v0 v1
    go_wp2
    exact bodyPost_ret_by (results_cell_tmp2 rfl _ _ _ _ rfl (load_P _ _ _ _ HF.out.1 rfl)) rfl ⟨_, _, rfl, HF.out.2⟩
  · rw [onP_no hf]
    have hfi := qfind_any W _ c L h HR.out.1 hL q
    rw [fndQ_no hf] at hfi
    clear hr hf g0 V0 V1 hk hn
    go_enter Try.func39, Try.ntmps39
    go_upto_region 1 with fail
    (try rw [hW])
    (try rw [hX])
    clear hW hX
    go_wp2_with fail
    refine hfi.mono ?_
    rintro e w1 ⟨rfl, g1⟩
    obtain ⟨⟨v0, v1⟩, -⟩ := (HR.out.2.2.1.grow g1).two
    obtain ⟨⟨z0, z1⟩, f0, f1⟩ := (HR.out.2.2.2.1.grow g1).two
    clear hfi
    have HF : Hid (VarAt ((w1.setCell ⟨X + 1, 0, none⟩ (.slice a L.length c)).setCell ⟨X + 1, 1, none⟩ (.int .i64 h)) (X + 1) [.slice a L.length c, .int .i64 h] ∧ RdQ pq ((w1.setCell ⟨X + 1, 0, none⟩ (.slice a L.length c)).setCell ⟨X + 1, 1, none⟩ (.int .i64 h)) (.slice a L.length c) L ∧ Grow w ((w1.setCell ⟨X + 1, 0, none⟩ (.slice a L.length c)).setCell ⟨X + 1, 1, none⟩ (.int .i64 h))) :=
      p_end (HR.out.2.2.2.1.grow g1) ((RdS.grow HR.out.1 g1).mono (fun i _ hi => ⟨hi.1, by omega⟩)) (by have := HR.out.2.2.2.2; omega) (HR.out.2.1.trans g1)
    go_wp2
    exact bodyPost_ret_by (results_cell_tmp2 rfl _ _ _ _ rfl (load_P _ _ _ _ HF.out.1 rfl)) rfl ⟨_, _, rfl, HF.out.2⟩

set_option maxRecDepth 8000 in
set_option maxHeartbeats 4000000 in
theorem qdo_get {pq : Nat → Prop} (w : World) (a : Option Addr) (c : Nat) (L : List FS) (h : Int) (hr : RdQ pq w (.slice a L.length c) L) (hL : L.length ≤ 64) (hn : ∀ i, w.heap.size ≤ i → pq i) (hk : PtOk L 0) (q : Int) (off n : Int) (ho : (Lit.int .i64 off).wf = true) (hnw : (Lit.int .i64 n).wf = true) : Calls Try.prog 39 #[.agg #[.slice a L.length c, .int .i64 h], .int .i64 2, .int .i64 q, .int .i64 off, .int .i64 n, .slice none 0 0] w fun e w' => ∃ a' c' v', e = .returned (.tuple #[.agg #[.slice a' L.length c', .int .i64 h], v', .int .i64 (getP q off n L).2.2]) ∧ RdQ pq w' (.slice a' L.length c') (getP q off n L).1 ∧ RdV (Value.int .u8) 0 (fun i => w.heap.size ≤ i) w' v' (getP q off n L).2.1 ∧ Grow w w' := by
  obtain ⟨W, hW⟩ : ∃ W, (w.alloc (.cells #[.slice a L.length c, .int .i64 h] 30)).alloc (.cells #[.slice none 0 0, .int .i64 0] 30) = W := ⟨_, rfl⟩
  obtain ⟨X, hX⟩ : ∃ X, w.heap.size = X := ⟨_, rfl⟩
  have g0 : Grow w W := by rw [← hW]; exact ((Grow.refl w).alloc _).alloc _
  have V0 : VarAt W X [.slice a L.length c, .int .i64 h] := by rw [← hW, ← hX]; exact (VarAt.new w [.slice a L.length c, .int .i64 h] 30).old _
  have V1 : VarAt W (X + 1) [.slice none 0 0, .int .i64 0] := by rw [← hW, ← hX]; exact VarAt.new2 w _ [.slice none 0 0, .int .i64 0] 30
  have HR : Hid (RdQ (fun i => pq i ∧ i < X) W (.slice a L.length c) L ∧ Grow w W ∧ VarAt W X [.slice a L.length c, .int .i64 h] ∧ VarAt W (X + 1) [.slice none 0 0, .int .i64 0] ∧ w.heap.size = X) := ⟨by rw [← hX]; exact RdS.grow (rd_old hr) g0, g0, V0, V1, hX⟩
  have HN : Hid (∀ i, w.heap.size ≤ i → pq i) := hn
  obtain ⟨⟨v0, v1⟩, -⟩ := V0.two
  obtain ⟨⟨z0, z1⟩, f0, f1⟩ := V1.two
  by_cases hf : fnd q L < L.length
  · obtain ⟨m, hm0⟩ : ∃ m, fnd q L = m := ⟨_, rfl⟩
    rw [getP_yes hf hm0]
    obtain ⟨b, o, rfl⟩ := rdQ_addr HR.out.1 (by omega)
    have hfi := qfind_any W _ c L h HR.out.1 hL q
    rw [fndQ_yes hf, hm0] at hfi
    rw [hm0] at hf
    have hle : (m : Int) < (L.length : Int) := by omega
    have HQ : Hid (∀ w', Grow W w' → QIn w' b (o + m * 6) (L.getD m FS.empty)) := fun w' g => rdQ_in (RdS.grow HR.out.1 g) hf
    have hl := fun w' (g : Grow W w') => rgetS_any (L.getD m FS.empty) (hk.at hf) w' off n ho hnw
    have HM : Hid (m < L.length) := hf
    skip
    generalize getS (L.getD m FS.empty) off n = T at hl ⊢
    generalize L.getD m FS.empty = s at hl HQ
    obtain ⟨u, d, r, p, qq, bs⟩ := s
    obtain ⟨⟨u', d', r', p', q', bs'⟩, Z, E⟩ := T
    simp only [FS.v] at hl ⊢
    clear hr hf hm0 g0 V0 V1 hk hn
    go_enter Try.func39, Try.ntmps39
    go_upto_region 1 with fail
    (try rw [hW])
    (try rw [hX])
    clear hW hX
    go_wp2_with fail
    refine hfi.mono ?_
    rintro e w1 ⟨rfl, g1⟩
    obtain ⟨⟨v0, v1⟩, -⟩ := (HR.out.2.2.1.grow g1).two
    obtain ⟨⟨z0, z1⟩, f0, f1⟩ := (HR.out.2.2.2.1.grow g1).two
    clear hfi
    obtain ⟨k0, k1, k2, k3, k4, k5⟩ := HQ.out w1 g1
    simp only at k0 k1 k2 k3 k4 k5
    have V2 := VarAt.new w1 [.bool u, .bool d, .bool r, .int .i64 p, .int .i64 qq, .string (strOfNums bs)] 68
    have g2 : Grow W (w1.alloc (.cells #[.bool u, .bool d, .bool r, .int .i64 p, .int .i64 qq, .string (strOfNums bs)] 68)) := g1.alloc _
    have hl1 := hl _ g2
    have HX : Hid (X + 1 < w1.heap.size) := by show X + 1 < _; have h1 := HR.out.2.2.2.1.lt; have := g1.size; omega
    go_wp2_with fail
    refine hl1.mono ?_
    rintro e w2 ⟨vg, rfl, rg, g3⟩
    have V3 := V2.grow g3
    obtain ⟨⟨y0, y1, y2, y3, y4, y5⟩, e0, e1, e2, e3, e4, e5⟩ := VarAt.six V3
    have H3f : Hid (Grow W (put6 w2 w1.heap.size (.bool u') (.bool d') (.bool r') (.int .i64 p') (.int .i64 q') (.string (strOfNums bs'))) ∧ VarAt (put6 w2 w1.heap.size (.bool u') (.bool d') (.bool r') (.int .i64 p') (.int .i64 q') (.string (strOfNums bs'))) w1.heap.size [.bool u', .bool d', .bool r', .int .i64 p', .int .i64 q', .string (strOfNums bs')]) := by
      have hX := HX.out
      have hs := g1.size
      exact ⟨UpdS.new (g2.trans g3) (upd_put6 _ _ _ _ _ _ _ _) (fun i hi => by omega), V3.put6 _ _ _ _ _ _⟩
    clear hl hl1 k0 k1 k2 k3 k4 k5 v0 v1 z0 z1 f0 f1 g2 V2 V3
    go_upto_region 15 with fail
    rw [put6_eq]
    generalize hw3 : put6 w2 w1.heap.size (.bool u') (.bool d') (.bool r') (.int .i64 p') (.int .i64 q') (.string (strOfNums bs')) = w3 at H3f ⊢
    have H3 : Hid (Grow W w3 ∧ VarAt w3 w1.heap.size [.bool u', .bool d', .bool r', .int .i64 p', .int .i64 q', .string (strOfNums bs')]) := H3f.out
    clear H3f y0 y1 y2 y3 y4 y5 e0 e1 e2 e3 e4 e5
    have hrg : RdV (Value.int .u8) 0 (fun i => w.heap.size ≤ i ∧ w1.heap.size < i) w3 vg Z := by
      rw [← hw3]
      have h1 := g1.size
      have h2 := HR.out.2.1.size
      have h3 : (w1.alloc (.cells #[.bool u, .bool d, .bool r, .int .i64 p, .int .i64 qq, .string (strOfNums bs)] 68)).heap.size = w1.heap.size + 1 := World.size_alloc _ _
      exact (rg.upd (upd_put6 _ _ _ _ _ _ _ _) (fun i _ hi => by omega)).mono (fun i _ hi => ⟨by omega, by omega⟩)
    have HV : Hid (RdV (Value.int .u8) 0 (fun i => w.heap.size ≤ i ∧ X + 1 < i) w3 vg Z) := hrg.mono (fun i _ hi => ⟨hi.1, by have := HX.out; omega⟩)
    obtain ⟨ag, cg, hvg⟩ := rg.shape
    generalize Z.length = zl at hvg
    subst hvg
    clear rg hrg
    clear hw3 g1 g3
    generalize w1.heap.size = M at H3 HX ⊢
    obtain ⟨⟨v0, v1⟩, -⟩ := (HR.out.2.2.1.grow H3.out.1).two
    obtain ⟨⟨z0, z1⟩, f0, f1⟩ := (HR.out.2.2.2.1.grow H3.out.1).two
    obtain ⟨⟨x0, x1, x2, x3, x4, x5⟩, -⟩ := H3.out.2.six
    have hw := qwith_any w3 _ c L h (RdS.grow HR.out.1 H3.out.1) hL m HM.out ⟨u', d', r', p', q', bs'⟩
    go_wp2_with fail
    refine hw.mono ?_
    rintro e w4 ⟨a2, c2, rfl, r2, g4⟩
    have gg : Grow W w4 := H3.out.1.trans g4
    have hlo : X + 2 ≤ w3.heap.size := by have h1 := HR.out.2.2.2.1.lt; have := H3.out.1.size; omega
    have hX := HR.out.2.2.2.2
    have HF : Hid (VarAt ((w4.setCell ⟨X + 1, 0, none⟩ (.slice a2 L.length c2)).setCell ⟨X + 1, 1, none⟩ (.int .i64 h)) (X + 1) [.slice a2 L.length c2, .int .i64 h] ∧ RdQ pq ((w4.setCell ⟨X + 1, 0, none⟩ (.slice a2 L.length c2)).setCell ⟨X + 1, 1, none⟩ (.int .i64 h)) (.slice a2 L.length c2) (L.set m ⟨u', d', r', p', q', bs'⟩) ∧ Grow w ((w4.setCell ⟨X + 1, 0, none⟩ (.slice a2 L.length c2)).setCell ⟨X + 1, 1, none⟩ (.int .i64 h))) :=
      p_end (HR.out.2.2.2.1.grow gg) (r2.mono (fun i _ hi => ⟨HN.out i (by omega), by omega⟩)) (by have := hX; omega) (HR.out.2.1.trans gg)
    obtain ⟨⟨z0, z1⟩, f0, f1⟩ := (HR.out.2.2.2.1.grow gg).two
    have HG : Hid (RdV (Value.int .u8) 0 (fun i => w.heap.size ≤ i) ((w4.setCell ⟨X + 1, 0, none⟩ (.slice a2 L.length c2)).setCell ⟨X + 1, 1, none⟩ (.int .i64 h)) (.slice ag zl cg) Z) := ((HV.out.grow g4).upd (upd_pair _ _ _ _) (fun i _ hi => by omega)).mono (fun i _ hi => hi.1)
    clear hw r2 g4 gg x0 x1 x2 x3 x4 x5 v0 v1
    go_wp2
    exact bodyPost_ret_by (results_cell_tmp2 rfl _ _ _ _ rfl (load_P _ _ _ _ HF.out.1 rfl)) rfl ⟨_, _, _, rfl, HF.out.2.1, HG.out, HF.out.2.2⟩
  · rw [getP_no hf]
    have hfi := qfind_any W _ c L h HR.out.1 hL q
    rw [fndQ_no hf] at hfi
    clear hr hf g0 V0 V1 hk hn
    go_enter Try.func39, Try.ntmps39
    go_upto_region 1 with fail
    (try rw [hW])
    (try rw [hX])
    clear hW hX
    go_wp2_with fail
    refine hfi.mono ?_
    rintro e w1 ⟨rfl, g1⟩
    obtain ⟨⟨v0, v1⟩, -⟩ := (HR.out.2.2.1.grow g1).two
    obtain ⟨⟨z0, z1⟩, f0, f1⟩ := (HR.out.2.2.2.1.grow g1).two
    clear hfi
    have HF : Hid (VarAt ((w1.setCell ⟨X + 1, 0, none⟩ (.slice a L.length c)).setCell ⟨X + 1, 1, none⟩ (.int .i64 h)) (X + 1) [.slice a L.length c, .int .i64 h] ∧ RdQ pq ((w1.setCell ⟨X + 1, 0, none⟩ (.slice a L.length c)).setCell ⟨X + 1, 1, none⟩ (.int .i64 h)) (.slice a L.length c) L ∧ Grow w ((w1.setCell ⟨X + 1, 0, none⟩ (.slice a L.length c)).setCell ⟨X + 1, 1, none⟩ (.int .i64 h))) :=
      p_end (HR.out.2.2.2.1.grow g1) ((RdS.grow HR.out.1 g1).mono (fun i _ hi => ⟨hi.1, by omega⟩)) (by have := HR.out.2.2.2.2; omega) (HR.out.2.1.trans g1)
    go_wp2
    exact bodyPost_ret_by (results_cell_tmp2 rfl _ _ _ _ rfl (load_P _ _ _ _ HF.out.1 rfl)) rfl ⟨_, _, _, rfl, HF.out.2.1, RdV.nil _ _ _ _ _ _ (Nat.zero_le _), HF.out.2.2⟩

set_option maxRecDepth 8000 in
set_option maxHeartbeats 4000000 in
theorem qdo_put {pq : Nat → Prop} (w : World) (a : Option Addr) (c : Nat) (L : List FS) (h : Int) (hr : RdQ pq w (.slice a L.length c) L) (hL : L.length ≤ 64) (hn : ∀ i, w.heap.size ≤ i → pq i) (hk : PtOk L 0) (q : Int) (off : Int) (v : Value) (ys : List Int) (t : Nat → Prop) (hy : RdV (Value.int .u8) 0 t w v ys) (ho : (Lit.int .i64 off).wf = true) : Calls Try.prog 39 #[.agg #[.slice a L.length c, .int .i64 h], .int .i64 3, .int .i64 q, .int .i64 off, .int .i64 0, v] w fun e w' => ∃ a' c', e = .returned (.tuple #[.agg #[.slice a' L.length c', .int .i64 h], .slice none 0 0, .int .i64 (onP q (fun s => putS s off ys) L).2]) ∧ RdQ pq w' (.slice a' L.length c') (onP q (fun s => putS s off ys) L).1 ∧ Grow w w' := by
  obtain ⟨W, hW⟩ : ∃ W, (w.alloc (.cells #[.slice a L.length c, .int .i64 h] 30)).alloc (.cells #[.slice none 0 0, .int .i64 0] 30) = W := ⟨_, rfl⟩
  obtain ⟨X, hX⟩ : ∃ X, w.heap.size = X := ⟨_, rfl⟩
  have g0 : Grow w W := by rw [← hW]; exact ((Grow.refl w).alloc _).alloc _
  have V0 : VarAt W X [.slice a L.length c, .int .i64 h] := by rw [← hW, ← hX]; exact (VarAt.new w [.slice a L.length c, .int .i64 h] 30).old _
  have V1 : VarAt W (X + 1) [.slice none 0 0, .int .i64 0] := by rw [← hW, ← hX]; exact VarAt.new2 w _ [.slice none 0 0, .int .i64 0] 30
  have HR : Hid (RdQ (fun i => pq i ∧ i < X) W (.slice a L.length c) L ∧ Grow w W ∧ VarAt W X [.slice a L.length c, .int .i64 h] ∧ VarAt W (X + 1) [.slice none 0 0, .int .i64 0] ∧ w.heap.size = X) := ⟨by rw [← hX]; exact RdS.grow (rd_old hr) g0, g0, V0, V1, hX⟩
  have HN : Hid (∀ i, w.heap.size ≤ i → pq i) := hn
  obtain ⟨⟨v0, v1⟩, -⟩ := V0.two
  obtain ⟨⟨z0, z1⟩, f0, f1⟩ := V1.two
  obtain ⟨av, cv, hv⟩ := hy.shape
  subst hv
  by_cases hf : fnd q L < L.length
  · obtain ⟨m, hm0⟩ : ∃ m, fnd q L = m := ⟨_, rfl⟩
    rw [onP_yes hf hm0]
    obtain ⟨b, o, rfl⟩ := rdQ_addr HR.out.1 (by omega)
    have hfi := qfind_any W _ c L h HR.out.1 hL q
    rw [fndQ_yes hf, hm0] at hfi
    rw [hm0] at hf
    have hle : (m : Int) < (L.length : Int) := by omega
    have HQ : Hid (∀ w', Grow W w' → QIn w' b (o + m * 6) (L.getD m FS.empty)) := fun w' g => rdQ_in (RdS.grow HR.out.1 g) hf
    have hl := fun w' (g : Grow W w') => rputS_any (L.getD m FS.empty) (hk.at hf) w' off _ ys t (hy.grow (HR.out.2.1.trans g)) ho
    have HM : Hid (m < L.length) := hf
    simp only []
    generalize putS (L.getD m FS.empty) off ys = T at hl ⊢
    generalize L.getD m FS.empty = s at hl HQ
    obtain ⟨u, d, r, p, qq, bs⟩ := s
    obtain ⟨⟨u', d', r', p', q', bs'⟩, E⟩ := T
    simp only [FS.v] at hl ⊢
    clear hr hf hm0 g0 V0 V1 hk hn hy
    go_enter Try.func39, Try.ntmps39
    go_upto_region 1 with fail
    (try rw [hW])
    (try rw [hX])
    clear hW hX
    go_wp2_with fail
    refine hfi.mono ?_
    rintro e w1 ⟨rfl, g1⟩
    obtain ⟨⟨v0, v1⟩, -⟩ := (HR.out.2.2.1.grow g1).two
    obtain ⟨⟨z0, z1⟩, f0, f1⟩ := (HR.out.2.2.2.1.grow g1).two
    clear hfi
    obtain ⟨k0, k1, k2, k3, k4, k5⟩ := HQ.out w1 g1
    simp only at k0 k1 k2 k3 k4 k5
    have V2 := VarAt.new w1 [.bool u, .bool d, .bool r, .int .i64 p, .int .i64 qq, .string (strOfNums bs)] 68
    have g2 : Grow W (w1.alloc (.cells #[.bool u, .bool d, .bool r, .int .i64 p, .int .i64 qq, .string (strOfNums bs)] 68)) := g1.alloc _
    have hl1 := hl _ g2
    have HX : Hid (X + 1 < w1.heap.size) := by show X + 1 < _; have h1 := HR.out.2.2.2.1.lt; have := g1.size; omega
    go_wp2_with fail
    refine hl1.mono ?_
    rintro e w2 ⟨rfl, g3⟩
    have V3 := V2.grow g3
    obtain ⟨⟨y0, y1, y2, y3, y4, y5⟩, e0, e1, e2, e3, e4, e5⟩ := VarAt.six V3
    have H3f : Hid (Grow W (put6 w2 w1.heap.size (.bool u') (.bool d') (.bool r') (.int .i64 p') (.int .i64 q') (.string (strOfNums bs'))) ∧ VarAt (put6 w2 w1.heap.size (.bool u') (.bool d') (.bool r') (.int .i64 p') (.int .i64 q') (.string (strOfNums bs'))) w1.heap.size [.bool u', .bool d', .bool r', .int .i64 p', .int .i64 q', .string (strOfNums bs')]) := by
      have hX := HX.out
      have hs := g1.size
      exact ⟨UpdS.new (g2.trans g3) (upd_put6 _ _ _ _ _ _ _ _) (fun i hi => by omega), V3.put6 _ _ _ _ _ _⟩
    clear hl hl1 k0 k1 k2 k3 k4 k5 v0 v1 z0 z1 f0 f1 g2 V2 V3
    go_upto_region 15 with fail
    rw [put6_eq]
    generalize hw3 : put6 w2 w1.heap.size (.bool u') (.bool d') (.bool r') (.int .i64 p') (.int .i64 q') (.string (strOfNums bs')) = w3 at H3f ⊢
    have H3 : Hid (Grow W w3 ∧ VarAt w3 w1.heap.size [.bool u', .bool d', .bool r', .int .i64 p', .int .i64 q', .string (strOfNums bs')]) := H3f.out
    clear H3f y0 y1 y2 y3 y4 y5 e0 e1 e2 e3 e4 e5
    clear hw3 g1 g3
    generalize w1.heap.size = M at H3 HX ⊢
    obtain ⟨⟨v0, v1⟩, -⟩ := (HR.out.2.2.1.grow H3.out.1).two
    obtain ⟨⟨z0, z1⟩, f0, f1⟩ := (HR.out.2.2.2.1.grow H3.out.1).two
    obtain ⟨⟨x0, x1, x2, x3, x4, x5⟩, -⟩ := H3.out.2.six
    have hw := qwith_any w3 _ c L h (RdS.grow HR.out.1 H3.out.1) hL m HM.out ⟨u', d', r', p', q', bs'⟩
    go_wp2_with fail
    refine hw.mono ?_
    rintro e w4 ⟨a2, c2, rfl, r2, g4⟩
    have gg : Grow W w4 := H3.out.1.trans g4
    have hlo : X + 2 ≤ w3.heap.size := by have h1 := HR.out.2.2.2.1.lt; have := H3.out.1.size; omega
    have hX := HR.out.2.2.2.2
    have HF : Hid (VarAt ((w4.setCell ⟨X + 1, 0, none⟩ (.slice a2 L.length c2)).setCell ⟨X + 1, 1, none⟩ (.int .i64 h)) (X + 1) [.slice a2 L.length c2, .int .i64 h] ∧ RdQ pq ((w4.setCell ⟨X + 1, 0, none⟩ (.slice a2 L.length c2)).setCell ⟨X + 1, 1, none⟩ (.int .i64 h)) (.slice a2 L.length c2) (L.set m ⟨u', d', r', p', q', bs'⟩) ∧ Grow w ((w4.setCell ⟨X + 1, 0, none⟩ (.slice a2 L.length c2)).setCell ⟨X + 1, 1, none⟩ (.int .i64 h))) :=
      p_end (HR.out.2.2.2.1.grow gg) (r2.mono (fun i _ hi => ⟨HN.out i (by omega), by omega⟩)) (by have := hX; omega) (HR.out.2.1.trans gg)
    obtain ⟨⟨z0, z1⟩, f0, f1⟩ := (HR.out.2.2.2.1.grow gg).two
    clear hw r2 g4 gg x0 x1 x2 x3 x4 x5 v0 v1
    go_wp2
    exact bodyPost_ret_by (results_cell_tmp2 rfl _ _ _ _ rfl (load_P _ _ _ _ HF.out.1 rfl)) rfl ⟨_, _, rfl, HF.out.2⟩
  · rw [onP_no hf]
    have hfi := qfind_any W _ c L h HR.out.1 hL q
    rw [fndQ_no hf] at hfi
    clear hr hf g0 V0 V1 hk hn hy
    go_enter Try.func39, Try.ntmps39
    go_upto_region 1 with fail
    (try rw [hW])
    (try rw [hX])
    clear hW hX
    go_wp2_with fail
    refine hfi.mono ?_
    rintro e w1 ⟨rfl, g1⟩
    obtain ⟨⟨v0, v1⟩, -⟩ := (HR.out.2.2.1.grow g1).two
    obtain ⟨⟨z0, z1⟩, f0, f1⟩ := (HR.out.2.2.2.1.grow g1).two
    clear hfi
    have HF : Hid (VarAt ((w1.setCell ⟨X + 1, 0, none⟩ (.slice a L.length c)).setCell ⟨X + 1, 1, none⟩ (.int .i64 h)) (X + 1) [.slice a L.length c, .int .i64 h] ∧ RdQ pq ((w1.setCell ⟨X + 1, 0, none⟩ (.slice a L.length c)).setCell ⟨X + 1, 1, none⟩ (.int .i64 h)) (.slice a L.length c) L ∧ Grow w ((w1.setCell ⟨X + 1, 0, none⟩ (.slice a L.length c)).setCell ⟨X + 1, 1, none⟩ (.int .i64 h))) :=
      p_end (HR.out.2.2.2.1.grow g1) ((RdS.grow HR.out.1 g1).mono (fun i _ hi => ⟨hi.1, by omega⟩)) (by have := HR.out.2.2.2.2; omega) (HR.out.2.1.trans g1)
    go_wp2
    exact bodyPost_ret_by (results_cell_tmp2 rfl _ _ _ _ rfl (load_P _ _ _ _ HF.out.1 rfl)) rfl ⟨_, _, rfl, HF.out.2⟩
end Go.Proofs.Ythdhfojogckflaa
