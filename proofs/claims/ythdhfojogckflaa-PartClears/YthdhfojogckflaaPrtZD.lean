/-
  The walk of the law's 'does'. Conditions: each theorem's own.
-/
import Derived.Test.YthdhfojogckflaaPrtZ
namespace Go.Proofs.Ythdhfojogckflaa
open Go.RowKit
set_option linter.unusedVariables false
set_option linter.unusedSimpArgs false

set_option maxRecDepth 16000 in
set_option maxHeartbeats 8000000 in
theorem does_12 (w : World) (P b o : Nat) (L : List FS) (h : Nat) (k : PtO w P b o L h) (hk : PtOk L h) (a : Option Addr) (c : Nat) (pq : Nat → Prop) (hpq : ∀ i, pq i → i ≠ P ∧ i ≠ b) (hpn : ∀ i, w.heap.size ≤ i → pq i) (hr : RdQ pq w (.slice a L.length c) L) (dd ii pg off n : Int) (bv : Value) (ys : List Int) (hy : RdV (Value.int .u8) 0 (fun i => i ≠ P ∧ i ≠ b) w bv ys) (hdd : (Lit.int .i64 dd).wf = true) (hii : (Lit.int .i64 ii).wf = true) (hpg : (Lit.int .i64 pg).wf = true) (hof : (Lit.int .i64 off).wf = true) (hnw : (Lit.int .i64 n).wf = true) (hkk : around dd 13 = 12) : Calls Try.prog 12 #[.pointer (some ⟨P, 0, none⟩), .agg #[.slice a L.length c, .int .i64 h], .agg #[.int .i64 dd, .int .i64 ii, .int .i64 pg, .int .i64 off, .int .i64 n, bv]] w fun e w' => ∃ a' c', e = .returned (.tuple #[.agg #[.slice a' L.length c', .int .i64 0], .bool true]) ∧ RdQ pq w' (.slice a' L.length c') (List.replicate L.length FS.empty) ∧ PtO w' P b o (List.replicate L.length FS.empty) 0 ∧ UpdS (fun i => i = P ∨ i = b) w w' := by
  obtain ⟨ab, cb, hbv⟩ := hy.shape
  subst hbv
  obtain ⟨W, hW⟩ : ∃ W, ((w.alloc (.cells #[.slice a L.length c, .int .i64 h] 30)).alloc (.cells #[.int .i64 dd, .int .i64 ii, .int .i64 pg, .int .i64 off, .int .i64 n, .slice ab ys.length cb] 36)).alloc (.cells #[.slice none 0 0, .int .i64 0] 30) = W := ⟨_, rfl⟩
  obtain ⟨X, hX⟩ : ∃ X, w.heap.size = X := ⟨_, rfl⟩
  have g0 : Grow w W := by rw [← hW]; exact (((Grow.refl w).alloc _).alloc _).alloc _
  have V0 : VarAt W X [.slice a L.length c, .int .i64 h] := by rw [← hW, ← hX]; exact ((VarAt.new w [.slice a L.length c, .int .i64 h] 30).old _).old _
  have O0 : VarAt W (X + 1) [.int .i64 dd, .int .i64 ii, .int .i64 pg, .int .i64 off, .int .i64 n, .slice ab ys.length cb] := by rw [← hW, ← hX]; exact (VarAt.new2 w _ [.int .i64 dd, .int .i64 ii, .int .i64 pg, .int .i64 off, .int .i64 n, .slice ab ys.length cb] 36).old _
  have Z0 : VarAt W (X + 1 + 1) [.slice none 0 0, .int .i64 0] := by rw [← hW, ← hX]; exact VarAt.new3 w _ _ [.slice none 0 0, .int .i64 0] 30
  have hL := hk.2.2
  have hPX : P < X := by rw [← hX]; exact k.lt
  have hbX : b < X := by rw [← hX]; exact k.2.2.1
  have HR : Hid (Grow w W ∧ VarAt W X [.slice a L.length c, .int .i64 h] ∧ VarAt W (X + 1) [.int .i64 dd, .int .i64 ii, .int .i64 pg, .int .i64 off, .int .i64 n, .slice ab ys.length cb] ∧ VarAt W (X + 1 + 1) [.slice none 0 0, .int .i64 0] ∧ w.heap.size = X ∧ PtO W P b o L h ∧ P < X ∧ b < X ∧ P ≠ b ∧ RdQ (fun i => pq i ∧ i ≠ X + 1 + 1) W (.slice a L.length c) L) := ⟨g0, V0, O0, Z0, hX, k.grow g0, hPX, hbX, k.2.1, (RdS.grow (rd_old hr) g0).mono (fun i _ hi => ⟨hi.1, by have := hi.2; omega⟩)⟩
  have HP : Hid ((∀ i, pq i → i ≠ P ∧ i ≠ b) ∧ (∀ i, w.heap.size ≤ i → pq i)) := ⟨hpq, hpn⟩
  have HY : Hid (RdV (Value.int .u8) 0 (fun i => i ≠ P ∧ i ≠ b) W (.slice ab ys.length cb) ys) := hy.grow g0
  have hk0 : PtOk L 0 := ⟨hk.1, by have := hk.2.1; omega, hk.2.2⟩
  have HN : Hid (∀ w', Grow W w' → ∀ i, w'.heap.size ≤ i → pq i ∧ i ≠ X + 1 + 1) := fun w' g i hi => ⟨hpn i (by have := g.size; have := Z0.lt; omega), by have := g.size; have := Z0.lt; omega⟩
  have c1 := qframe_any dd ii pg off n ab ys.length cb W hii L.length (by omega)
  have c2 := fun w' => around_any pg 5 w' hpg (by omega) (by omega)
  have c3 := fun w' => qkind_any dd ii pg off n ab ys.length cb w' hdd
  generalize (around ii ((L.length : Int) + 2) - 1) = I at c1 ⊢
  generalize (around pg 5) = Q at c2 ⊢
  rw [hkk] at c3
  have hq0 := fun w' => qnew_any L.length w' hL
  have hp0 := fun w' (k' : PtO w' P b o L h) => clear_any w' P b o L h k' (by have := hk.2.1; omega)
  obtain ⟨⟨v0, v1⟩, -⟩ := V0.two
  obtain ⟨⟨o0, o1, o2, o3, o4, o5⟩, -⟩ := VarAt.six O0
  clear V0 O0 Z0 g0 hr hy k hk hk0 hkk hpq hpn
  go_enter Try.func12, Try.ntmps12
  go_upto_region 1 with fail
  (try rw [hW])
  (try rw [hX])
  clear hW hX
  go_wp2_with fail
  refine c1.mono ?_
  rintro e w1 ⟨rfl, g1⟩
  obtain ⟨⟨v0, v1⟩, -⟩ := (HR.out.2.1.grow g1).two
  obtain ⟨⟨o0, o1, o2, o3, o4, o5⟩, -⟩ := VarAt.six (HR.out.2.2.1.grow g1)
  clear c1
  go_wp2_with fail
  refine (c2 _).mono ?_
  rintro e w1' ⟨rfl, rfl⟩
  clear c2
  go_wp2_with fail
  refine (c3 _).mono ?_
  rintro e w2 ⟨rfl, g2⟩
  have HW : Hid (Grow W w2) := g1.trans g2
  obtain ⟨⟨v0, v1⟩, -⟩ := (HR.out.2.1.grow HW.out).two
  obtain ⟨⟨o0, o1, o2, o3, o4, o5⟩, -⟩ := VarAt.six (HR.out.2.2.1.grow HW.out)
  clear c3 g1 g2
  have hp := hp0 w2 (HR.out.2.2.2.2.2.1.grow HW.out)
  clear hp0
  go_wp2_with fail
  refine hp.mono ?_
  rintro e w3 ⟨rfl, k3, u3⟩
  have V3 := (HR.out.2.1.grow HW.out).upd u3 (by have := HR.out; omega)
  obtain ⟨⟨v0, v1⟩, -⟩ := V3.two
  have hq := hq0 w3
  clear hp hq0 V3 o0 o1 o2 o3 o4 o5
  go_wp2_with fail
  refine hq.mono ?_
  rintro e w6 ⟨a2, c2, rfl, r2, g6⟩
  have k6 := k3.grow g6
  have u6 : UpdS (fun i => i = P ∨ i = b) W w6 := UpdS.trans (UpdS.trans HW.out.s u3) g6.s
  have HF : Hid (VarAt ((w6.setCell ⟨X + 1 + 1, 0, none⟩ (.slice a2 L.length c2)).setCell ⟨X + 1 + 1, 1, none⟩ (.int .i64 0)) (X + 1 + 1) [.slice a2 L.length c2, .int .i64 0] ∧ RdQ pq ((w6.setCell ⟨X + 1 + 1, 0, none⟩ (.slice a2 L.length c2)).setCell ⟨X + 1 + 1, 1, none⟩ (.int .i64 0)) (.slice a2 L.length c2) (List.replicate L.length FS.empty) ∧ PtO ((w6.setCell ⟨X + 1 + 1, 0, none⟩ (.slice a2 L.length c2)).setCell ⟨X + 1 + 1, 1, none⟩ (.int .i64 0)) P b o (List.replicate L.length FS.empty) 0 ∧ UpdS (fun i => i = P ∨ i = b) w ((w6.setCell ⟨X + 1 + 1, 0, none⟩ (.slice a2 L.length c2)).setCell ⟨X + 1 + 1, 1, none⟩ (.int .i64 0))) := by
    have hx := HR.out
    have u2 := upd_pair w6 (X + 1 + 1) (.slice a2 L.length c2) (.int .i64 0)
    have hlt := hx.2.2.2.1.lt
    have hs := HW.out.size
    have hs3 := u3.size
    exact ⟨(hx.2.2.2.1.upd u6 (by omega)).set2 _ _, (RdS.upd r2 u2 (fun i _ hi => by omega)).mono (fun i _ hi => HP.out.2 i (by have := hx.1.size; omega)), k6.upd u2 (by omega) (by omega), (UpdS.trans hx.1.s u6).more u2 (fun i hi => by omega)⟩
  obtain ⟨⟨z0, z1⟩, f0, f1⟩ := (HR.out.2.2.2.1.upd u6 (by have := HR.out; omega)).two
  clear hq k3 u3 k6 u6 r2 g6 v0 v1
  go_wp2
  exact bodyPost_ret_by (results_cell_tmp rfl _ _ _ _ rfl (load_P _ _ _ _ HF.out.1 rfl)) rfl ⟨_, _, rfl, HF.out.2⟩

set_option maxRecDepth 16000 in
set_option maxHeartbeats 8000000 in
theorem does_3 (w : World) (P b o : Nat) (L : List FS) (h : Nat) (k : PtO w P b o L h) (hk : PtOk L h) (a : Option Addr) (c : Nat) (pq : Nat → Prop) (hpq : ∀ i, pq i → i ≠ P ∧ i ≠ b) (hpn : ∀ i, w.heap.size ≤ i → pq i) (hr : RdQ pq w (.slice a L.length c) L) (dd ii pg off n : Int) (bv : Value) (ys : List Int) (hy : RdV (Value.int .u8) 0 (fun i => i ≠ P ∧ i ≠ b) w bv ys) (hdd : (Lit.int .i64 dd).wf = true) (hii : (Lit.int .i64 ii).wf = true) (hpg : (Lit.int .i64 pg).wf = true) (hof : (Lit.int .i64 off).wf = true) (hnw : (Lit.int .i64 n).wf = true) (hkk : around dd 13 = 3) : Calls Try.prog 12 #[.pointer (some ⟨P, 0, none⟩), .agg #[.slice a L.length c, .int .i64 h], .agg #[.int .i64 dd, .int .i64 ii, .int .i64 pg, .int .i64 off, .int .i64 n, bv]] w fun e w' => ∃ a' c', e = .returned (.tuple #[.agg #[.slice a' L.length c', .int .i64 ((hnd (flsL L) h) : Nat)], .bool true]) ∧ RdQ pq w' (.slice a' L.length c') (vicL L h) ∧ PtO w' P b o (vicL L h) (hnd (flsL L) h) ∧ UpdS (fun i => i = P ∨ i = b) w w' := by
  obtain ⟨ab, cb, hbv⟩ := hy.shape
  subst hbv
  obtain ⟨W, hW⟩ : ∃ W, ((w.alloc (.cells #[.slice a L.length c, .int .i64 h] 30)).alloc (.cells #[.int .i64 dd, .int .i64 ii, .int .i64 pg, .int .i64 off, .int .i64 n, .slice ab ys.length cb] 36)).alloc (.cells #[.slice none 0 0, .int .i64 0] 30) = W := ⟨_, rfl⟩
  obtain ⟨X, hX⟩ : ∃ X, w.heap.size = X := ⟨_, rfl⟩
  have g0 : Grow w W := by rw [← hW]; exact (((Grow.refl w).alloc _).alloc _).alloc _
  have V0 : VarAt W X [.slice a L.length c, .int .i64 h] := by rw [← hW, ← hX]; exact ((VarAt.new w [.slice a L.length c, .int .i64 h] 30).old _).old _
  have O0 : VarAt W (X + 1) [.int .i64 dd, .int .i64 ii, .int .i64 pg, .int .i64 off, .int .i64 n, .slice ab ys.length cb] := by rw [← hW, ← hX]; exact (VarAt.new2 w _ [.int .i64 dd, .int .i64 ii, .int .i64 pg, .int .i64 off, .int .i64 n, .slice ab ys.length cb] 36).old _
  have Z0 : VarAt W (X + 1 + 1) [.slice none 0 0, .int .i64 0] := by rw [← hW, ← hX]; exact VarAt.new3 w _ _ [.slice none 0 0, .int .i64 0] 30
  have hL := hk.2.2
  have hPX : P < X := by rw [← hX]; exact k.lt
  have hbX : b < X := by rw [← hX]; exact k.2.2.1
  have HR : Hid (Grow w W ∧ VarAt W X [.slice a L.length c, .int .i64 h] ∧ VarAt W (X + 1) [.int .i64 dd, .int .i64 ii, .int .i64 pg, .int .i64 off, .int .i64 n, .slice ab ys.length cb] ∧ VarAt W (X + 1 + 1) [.slice none 0 0, .int .i64 0] ∧ w.heap.size = X ∧ PtO W P b o L h ∧ P < X ∧ b < X ∧ P ≠ b ∧ RdQ (fun i => pq i ∧ i ≠ X + 1 + 1) W (.slice a L.length c) L) := ⟨g0, V0, O0, Z0, hX, k.grow g0, hPX, hbX, k.2.1, (RdS.grow (rd_old hr) g0).mono (fun i _ hi => ⟨hi.1, by have := hi.2; omega⟩)⟩
  have HP : Hid ((∀ i, pq i → i ≠ P ∧ i ≠ b) ∧ (∀ i, w.heap.size ≤ i → pq i)) := ⟨hpq, hpn⟩
  have HY : Hid (RdV (Value.int .u8) 0 (fun i => i ≠ P ∧ i ≠ b) W (.slice ab ys.length cb) ys) := hy.grow g0
  have hk0 : PtOk L 0 := ⟨hk.1, by have := hk.2.1; omega, hk.2.2⟩
  have HN : Hid (∀ w', Grow W w' → ∀ i, w'.heap.size ≤ i → pq i ∧ i ≠ X + 1 + 1) := fun w' g i hi => ⟨hpn i (by have := g.size; have := Z0.lt; omega), by have := g.size; have := Z0.lt; omega⟩
  have c1 := qframe_any dd ii pg off n ab ys.length cb W hii L.length (by omega)
  have c2 := fun w' => around_any pg 5 w' hpg (by omega) (by omega)
  have c3 := fun w' => qkind_any dd ii pg off n ab ys.length cb w' hdd
  generalize (around ii ((L.length : Int) + 2) - 1) = I at c1 ⊢
  generalize (around pg 5) = Q at c2 ⊢
  rw [hkk] at c3
  have hq0 := fun w' (g : Grow W w') => qvictim_any w' a c L h (RdS.grow HR.out.2.2.2.2.2.2.2.2.2 g) hL (HN.out w' g) hk
  have hp0 := fun w' (k' : PtO w' P b o L h) => victim_any w' P b o L h k' hk
  have HV : Hid (((trn (flsL L) h).1 = 0 → vicQ L h = -1 ∧ (vic (flsL L) h : Int) = 0) ∧ (¬ (trn (flsL L) h).1 = 0 → vicQ L h = (vic (flsL L) h : Int)) ∧ 0 ≤ (vic (flsL L) h : Int)) :=
    ⟨fun e => ⟨if_pos e, by have : vic (flsL L) h = 0 := if_pos e; omega⟩, fun e => if_neg e, by omega⟩
  generalize vicL L h = L' at hq0 hp0 ⊢
  generalize vicQ L h = VQ at HV hq0 ⊢
  generalize hnd (flsL L) h = H1 at hq0 hp0 ⊢
  generalize (vic (flsL L) h : Int) = V at HV hp0
  generalize (trn (flsL L) h).1 = K at HV hp0
  obtain ⟨⟨v0, v1⟩, -⟩ := V0.two
  obtain ⟨⟨o0, o1, o2, o3, o4, o5⟩, -⟩ := VarAt.six O0
  clear V0 O0 Z0 g0 hr hy k hk hk0 hkk hpq hpn
  go_enter Try.func12, Try.ntmps12
  go_upto_region 1 with fail
  (try rw [hW])
  (try rw [hX])
  clear hW hX
  go_wp2_with fail
  refine c1.mono ?_
  rintro e w1 ⟨rfl, g1⟩
  obtain ⟨⟨v0, v1⟩, -⟩ := (HR.out.2.1.grow g1).two
  obtain ⟨⟨o0, o1, o2, o3, o4, o5⟩, -⟩ := VarAt.six (HR.out.2.2.1.grow g1)
  clear c1
  go_wp2_with fail
  refine (c2 _).mono ?_
  rintro e w1' ⟨rfl, rfl⟩
  clear c2
  go_wp2_with fail
  refine (c3 _).mono ?_
  rintro e w2 ⟨rfl, g2⟩
  have HW : Hid (Grow W w2) := g1.trans g2
  obtain ⟨⟨v0, v1⟩, -⟩ := (HR.out.2.1.grow HW.out).two
  obtain ⟨⟨o0, o1, o2, o3, o4, o5⟩, -⟩ := VarAt.six (HR.out.2.2.1.grow HW.out)
  clear c3 g1 g2
  have hq := hq0 w2 HW.out
  clear hq0
  go_wp2_with fail
  refine hq.mono ?_
  rintro e w3 ⟨a2, c2, rfl, r2, g3⟩
  have gW : Grow W w3 := HW.out.trans g3
  clear hq
  have HM0 : Hid (∀ W5, w3.alloc (.cells #[.slice a2 L.length c2, .int .i64 H1] 30) = W5 → (Grow W W5 ∧ VarAt W5 w3.heap.size [.slice a2 L.length c2, .int .i64 H1] ∧ RdQ (fun i => pq i ∧ i ≠ X + 1 + 1) W5 (.slice a2 L.length c2) L' ∧ X + 1 + 1 < w3.heap.size ∧ Grow w3 W5)) := fun W5 e => by
    rw [← e]
    exact ⟨gW.alloc _, VarAt.new w3 [.slice a2 L.length c2, .int .i64 H1] 30, RdS.grow r2 ((Grow.refl w3).alloc _), by have := HR.out.2.2.2.1.lt; have := gW.size; omega, (Grow.refl w3).alloc _⟩
  clear v0 v1 o0 o1 o2 o3 o4 o5 r2 gW g3
  go_upto_region 7 with fail
  generalize hW5 : w3.alloc (.cells #[.slice a2 L.length c2, .int .i64 H1] 30) = W5
  have HM1 := HM0.out W5 hW5
  clear hW5 HM0
  obtain ⟨M, hM⟩ : ∃ M, w3.heap.size = M := ⟨_, rfl⟩
  rw [hM] at HM1 ⊢
  have HM : Hid (Grow W W5 ∧ VarAt W5 M [.slice a2 L.length c2, .int .i64 H1] ∧ RdQ (fun i => pq i ∧ i ≠ X + 1 + 1) W5 (.slice a2 L.length c2) L' ∧ X + 1 + 1 < M) := ⟨HM1.1, HM1.2.1, HM1.2.2.1, HM1.2.2.2.1⟩
  clear hM HM1
  have hp := hp0 W5 (HR.out.2.2.2.2.2.1.grow HM.out.1)
  clear hp0
  by_cases hK : K = 0
  · obtain ⟨e1, e2⟩ := HV.out.1 hK
    rw [decide_eq_false (by omega)] at hp
    subst e1 e2
    clear hK HV
    go_wp2_with fail
    refine hp.mono ?_
    rintro e w6 ⟨rfl, k6, u6⟩
    have HD := d_end (HR.out.1.trans HM.out.1) HM.out.2.2.1 (HR.out.2.2.2.1.grow HM.out.1) HP.out.1 (by have := HR.out; omega) HR.out.2.2.2.2.2.2.1 HR.out.2.2.2.2.2.2.2.1 k6 u6
    have HF := hid HD.1
    obtain ⟨⟨z0, z1⟩, f0, f1⟩ := HD.2
    obtain ⟨⟨q0, q1⟩, -⟩ := (HM.out.2.1.upd u6 (by have := HM.out.2.2.2; have := HR.out; omega)).two
    clear HD hp k6 u6
    go_wp2
    exact bodyPost_ret_by (results_cell_tmp rfl _ _ _ _ rfl (load_P _ _ _ _ HF.out.1 rfl)) rfl ⟨_, _, rfl, HF.out.2⟩
  · have e1 := HV.out.2.1 hK
    have e2 := HV.out.2.2
    rw [decide_eq_true (by omega)] at hp
    have e3 : decide (0 ≤ V) = true := decide_eq_true e2
    subst e1
    clear hK HV
    go_wp2_with fail
    refine hp.mono ?_
    rintro e w6 ⟨rfl, k6, u6⟩
    have HD := d_end (HR.out.1.trans HM.out.1) HM.out.2.2.1 (HR.out.2.2.2.1.grow HM.out.1) HP.out.1 (by have := HR.out; omega) HR.out.2.2.2.2.2.2.1 HR.out.2.2.2.2.2.2.2.1 k6 u6
    have HF := hid HD.1
    obtain ⟨⟨z0, z1⟩, f0, f1⟩ := HD.2
    obtain ⟨⟨q0, q1⟩, -⟩ := (HM.out.2.1.upd u6 (by have := HM.out.2.2.2; have := HR.out; omega)).two
    clear HD hp k6 u6
    go_wp2
    exact bodyPost_ret_by (results_cell_tmp rfl _ _ _ _ rfl (load_P _ _ _ _ HF.out.1 rfl)) rfl ⟨_, _, rfl, HF.out.2⟩

set_option maxRecDepth 16000 in
set_option maxHeartbeats 8000000 in
theorem does_9 (w : World) (P b o : Nat) (L : List FS) (h : Nat) (k : PtO w P b o L h) (hk : PtOk L h) (a : Option Addr) (c : Nat) (pq : Nat → Prop) (hpq : ∀ i, pq i → i ≠ P ∧ i ≠ b) (hpn : ∀ i, w.heap.size ≤ i → pq i) (hr : RdQ pq w (.slice a L.length c) L) (dd ii pg off n : Int) (bv : Value) (ys : List Int) (hy : RdV (Value.int .u8) 0 (fun i => i ≠ P ∧ i ≠ b) w bv ys) (hdd : (Lit.int .i64 dd).wf = true) (hii : (Lit.int .i64 ii).wf = true) (hpg : (Lit.int .i64 pg).wf = true) (hof : (Lit.int .i64 off).wf = true) (hnw : (Lit.int .i64 n).wf = true) (hkk : around dd 13 = 9) : Calls Try.prog 12 #[.pointer (some ⟨P, 0, none⟩), .agg #[.slice a L.length c, .int .i64 h], .agg #[.int .i64 dd, .int .i64 ii, .int .i64 pg, .int .i64 off, .int .i64 n, bv]] w fun e w' => ∃ a' c', e = .returned (.tuple #[.agg #[.slice a' L.length c', .int .i64 (h : Nat)], .bool true]) ∧ RdQ pq w' (.slice a' L.length c') (getP (around pg 5) off n L).1 ∧ PtO w' P b o (getP (around pg 5) off n L).1 h ∧ UpdS (fun i => i = P ∨ i = b) w w' := by
  obtain ⟨ab, cb, hbv⟩ := hy.shape
  subst hbv
  obtain ⟨W, hW⟩ : ∃ W, ((w.alloc (.cells #[.slice a L.length c, .int .i64 h] 30)).alloc (.cells #[.int .i64 dd, .int .i64 ii, .int .i64 pg, .int .i64 off, .int .i64 n, .slice ab ys.length cb] 36)).alloc (.cells #[.slice none 0 0, .int .i64 0] 30) = W := ⟨_, rfl⟩
  obtain ⟨X, hX⟩ : ∃ X, w.heap.size = X := ⟨_, rfl⟩
  have g0 : Grow w W := by rw [← hW]; exact (((Grow.refl w).alloc _).alloc _).alloc _
  have V0 : VarAt W X [.slice a L.length c, .int .i64 h] := by rw [← hW, ← hX]; exact ((VarAt.new w [.slice a L.length c, .int .i64 h] 30).old _).old _
  have O0 : VarAt W (X + 1) [.int .i64 dd, .int .i64 ii, .int .i64 pg, .int .i64 off, .int .i64 n, .slice ab ys.length cb] := by rw [← hW, ← hX]; exact (VarAt.new2 w _ [.int .i64 dd, .int .i64 ii, .int .i64 pg, .int .i64 off, .int .i64 n, .slice ab ys.length cb] 36).old _
  have Z0 : VarAt W (X + 1 + 1) [.slice none 0 0, .int .i64 0] := by rw [← hW, ← hX]; exact VarAt.new3 w _ _ [.slice none 0 0, .int .i64 0] 30
  have hL := hk.2.2
  have hPX : P < X := by rw [← hX]; exact k.lt
  have hbX : b < X := by rw [← hX]; exact k.2.2.1
  have HR : Hid (Grow w W ∧ VarAt W X [.slice a L.length c, .int .i64 h] ∧ VarAt W (X + 1) [.int .i64 dd, .int .i64 ii, .int .i64 pg, .int .i64 off, .int .i64 n, .slice ab ys.length cb] ∧ VarAt W (X + 1 + 1) [.slice none 0 0, .int .i64 0] ∧ w.heap.size = X ∧ PtO W P b o L h ∧ P < X ∧ b < X ∧ P ≠ b ∧ RdQ (fun i => pq i ∧ i ≠ X + 1 + 1) W (.slice a L.length c) L) := ⟨g0, V0, O0, Z0, hX, k.grow g0, hPX, hbX, k.2.1, (RdS.grow (rd_old hr) g0).mono (fun i _ hi => ⟨hi.1, by have := hi.2; omega⟩)⟩
  have HP : Hid ((∀ i, pq i → i ≠ P ∧ i ≠ b) ∧ (∀ i, w.heap.size ≤ i → pq i)) := ⟨hpq, hpn⟩
  have HY : Hid (RdV (Value.int .u8) 0 (fun i => i ≠ P ∧ i ≠ b) W (.slice ab ys.length cb) ys) := hy.grow g0
  have hk0 : PtOk L 0 := ⟨hk.1, by have := hk.2.1; omega, hk.2.2⟩
  have HN : Hid (∀ w', Grow W w' → ∀ i, w'.heap.size ≤ i → pq i ∧ i ≠ X + 1 + 1) := fun w' g i hi => ⟨hpn i (by have := g.size; have := Z0.lt; omega), by have := g.size; have := Z0.lt; omega⟩
  have c1 := qframe_any dd ii pg off n ab ys.length cb W hii L.length (by omega)
  have c2 := fun w' => around_any pg 5 w' hpg (by omega) (by omega)
  have c3 := fun w' => qkind_any dd ii pg off n ab ys.length cb w' hdd
  generalize (around ii ((L.length : Int) + 2) - 1) = I at c1 ⊢
  generalize (around pg 5) = Q at c2 ⊢
  rw [hkk] at c3
  have hq0 := fun w' (g : Grow W w') => qdo_get w' a c L h (RdS.grow HR.out.2.2.2.2.2.2.2.2.2 g) hL (HN.out w' g) hk0 Q off n hof hnw
  have hp0 := fun w' (k' : PtO w' P b o L h) => pget_any w' P b o L h k' hk Q off n hof hnw
  generalize getP Q off n L = T at hq0 hp0 ⊢
  obtain ⟨L', Z, E⟩ := T
  simp only at hq0 hp0 ⊢
  obtain ⟨⟨v0, v1⟩, -⟩ := V0.two
  obtain ⟨⟨o0, o1, o2, o3, o4, o5⟩, -⟩ := VarAt.six O0
  clear V0 O0 Z0 g0 hr hy k hk hk0 hkk hpq hpn
  go_enter Try.func12, Try.ntmps12
  go_upto_region 1 with fail
  (try rw [hW])
  (try rw [hX])
  clear hW hX
  go_wp2_with fail
  refine c1.mono ?_
  rintro e w1 ⟨rfl, g1⟩
  obtain ⟨⟨v0, v1⟩, -⟩ := (HR.out.2.1.grow g1).two
  obtain ⟨⟨o0, o1, o2, o3, o4, o5⟩, -⟩ := VarAt.six (HR.out.2.2.1.grow g1)
  clear c1
  go_wp2_with fail
  refine (c2 _).mono ?_
  rintro e w1' ⟨rfl, rfl⟩
  clear c2
  go_wp2_with fail
  refine (c3 _).mono ?_
  rintro e w2 ⟨rfl, g2⟩
  have HW : Hid (Grow W w2) := g1.trans g2
  obtain ⟨⟨v0, v1⟩, -⟩ := (HR.out.2.1.grow HW.out).two
  obtain ⟨⟨o0, o1, o2, o3, o4, o5⟩, -⟩ := VarAt.six (HR.out.2.2.1.grow HW.out)
  clear c3 g1 g2
  have hq := hq0 w2 HW.out
  clear hq0
  go_wp2_with fail
  refine hq.mono ?_
  rintro e w3 ⟨a2, c2, vg, rfl, r2, rg, g3⟩
  have gW : Grow W w3 := HW.out.trans g3
  have HG3 : Hid (RdV (Value.int .u8) 0 (fun i => W.heap.size ≤ i) w3 vg Z) := rg.mono (fun i _ hi => by have := HW.out.size; omega)
  obtain ⟨ag, cg, hvg⟩ := rg.shape
  generalize Z.length = zl at hvg
  subst hvg
  clear hq rg
  have HM0 : Hid (∀ W5, w3.alloc (.cells #[.slice a2 L.length c2, .int .i64 h] 30) = W5 → (Grow W W5 ∧ VarAt W5 w3.heap.size [.slice a2 L.length c2, .int .i64 h] ∧ RdQ (fun i => pq i ∧ i ≠ X + 1 + 1) W5 (.slice a2 L.length c2) L' ∧ X + 1 + 1 < w3.heap.size ∧ Grow w3 W5)) := fun W5 e => by
    rw [← e]
    exact ⟨gW.alloc _, VarAt.new w3 [.slice a2 L.length c2, .int .i64 h] 30, RdS.grow r2 ((Grow.refl w3).alloc _), by have := HR.out.2.2.2.1.lt; have := gW.size; omega, (Grow.refl w3).alloc _⟩
  clear v0 v1 o0 o1 o2 o3 o4 o5 r2 gW g3
  go_upto_region 24 with fail
  generalize hW5 : w3.alloc (.cells #[.slice a2 L.length c2, .int .i64 h] 30) = W5
  have HM1 := HM0.out W5 hW5
  clear hW5 HM0
  have HG5 : Hid (RdV (Value.int .u8) 0 (fun i => W.heap.size ≤ i) W5 (.slice ag zl cg) Z) := HG3.out.grow HM1.2.2.2.2
  clear HG3
  obtain ⟨M, hM⟩ : ∃ M, w3.heap.size = M := ⟨_, rfl⟩
  rw [hM] at HM1 ⊢
  have HM : Hid (Grow W W5 ∧ VarAt W5 M [.slice a2 L.length c2, .int .i64 h] ∧ RdQ (fun i => pq i ∧ i ≠ X + 1 + 1) W5 (.slice a2 L.length c2) L' ∧ X + 1 + 1 < M) := ⟨HM1.1, HM1.2.1, HM1.2.2.1, HM1.2.2.2.1⟩
  clear hM HM1
  have hp := hp0 W5 (HR.out.2.2.2.2.2.1.grow HM.out.1)
  obtain ⟨⟨o0, o1, o2, o3, o4, o5⟩, -⟩ := VarAt.six (HR.out.2.2.1.grow HM.out.1)
  clear hp0
  go_wp2_with fail
  refine hp.mono ?_
  rintro e w6 ⟨vh, rfl, rh, k6, u6⟩
  obtain ⟨ah, ch, hvh⟩ := rh.shape
  generalize Z.length = zm at hvh
  subst hvh
  have hWX : X + 1 + 1 < W.heap.size := HR.out.2.2.2.1.lt
  have gd : Grow w6 w6.drew := (Grow.refl w6).drew
  have HD := d_end (HR.out.1.trans HM.out.1) HM.out.2.2.1 (HR.out.2.2.2.1.grow HM.out.1) HP.out.1 (by have := HR.out; omega) HR.out.2.2.2.2.2.2.1 HR.out.2.2.2.2.2.2.2.1 (k6.grow gd) (UpdS.trans u6 gd.s)
  have HF := hid HD.1
  have HD0 := d_end (HR.out.1.trans HM.out.1) HM.out.2.2.1 (HR.out.2.2.2.1.grow HM.out.1) HP.out.1 (by have := HR.out; omega) HR.out.2.2.2.2.2.2.1 HR.out.2.2.2.2.2.2.2.1 k6 u6
  obtain ⟨⟨z0, z1⟩, f0, f1⟩ := HD0.2
  clear HD0
  have km1 : ∀ w', UpdS (fun i => i = X + 1 + 1) w6.drew w' → (convert 34 9 (.slice ag zl cg)).run Try.prog w' = .ok (.string (strOfNums Z)) w' := fun w' g => (((HG5.out.upd u6 (fun i _ hi => by have := HR.out; omega)).grow gd).upd g (fun i _ hi => by omega)).i.string 34 9 5 Try.underlying34 Try.underlying5 Try.underlying9
  have km2 : ∀ w', UpdS (fun i => i = X + 1 + 1) w6.drew w' → (convert 34 9 (.slice ah zm ch)).run Try.prog w' = .ok (.string (strOfNums Z)) w' := fun w' g => ((rh.grow gd).upd g (fun i _ hi => by have := HM.out.1.size; omega)).i.string 34 9 5 Try.underlying34 Try.underlying5 Try.underlying9
  have fx : ∀ w', UpdS (fun i => i = X + 1 + 1) w6.drew w' → (w'.cell? ⟨M, 0, none⟩ = some (.slice a2 L.length c2) ∧ w'.cell? ⟨M, 1, none⟩ = some (.int .i64 h)) := fun w' g => (((HM.out.2.1.upd u6 (by have := HM.out.2.2.2; have := HR.out; omega)).grow gd).upd g (by have := HM.out.2.2.2; omega)).two.1
  clear HD hp k6 u6 o0 o1 o2 o3 o4 o5 rh
  go_wp2
  refine wp_region_schedG (UpdS (fun i => i = X + 1 + 1)) (UpdS.refl _) (fun _ _ _ => UpdS.trans) (by kernel_rfl) [(0, false), (1, false), (2, false), (3, false), (4, false), (5, false), (6, false), (7, false), (8, false), (9, false), (10, false), (11, true), (12, false)] (by kernel_rfl) (by kernel_rfl) rfl (fun _ _ d _ _ h => by cases d <;> exact h) ?_
  simp only [inOrder, List.filterMap_cons, List.filterMap_nil, List.getElem?_toArray, List.getElem?_cons_zero, List.getElem?_cons_succ, Option.map_some]
  repeat (first
    | (refine wpS_move rfl ?_; simp only [Act.eval, Act.put, Array.getD_eq_getD_getElem?, List.getElem?_toArray, List.getElem?_cons_zero, List.getElem?_cons_succ, Option.getD_some, List.setIfInBounds_toArray, List.set_cons_zero, List.set_cons_succ])
    | (refine wpS_assign rfl ?_; simp only [Act.eval, Act.put, Array.getD_eq_getD_getElem?, List.getElem?_toArray, List.getElem?_cons_zero, List.getElem?_cons_succ, Option.getD_some, List.setIfInBounds_toArray, List.set_cons_zero, List.set_cons_succ])
    | (refine wpS_read (v := ?_) rfl ?_ ?_; rotate_left; (focus (intro w' hG; obtain ⟨q0, q1⟩ := fx w' hG; have q2 := km1 w' hG; have q3 := km2 w' hG; go_simp; try (with_reducible rfl))); simp only [Act.put, List.setIfInBounds_toArray, List.set_cons_zero, List.set_cons_succ])
    | (refine wpS_skip rfl ?_; simp only [Act.put, List.setIfInBounds_toArray, List.set_cons_zero, List.set_cons_succ]))
  refine wpS_store (w' := (w6.drew.setCell ⟨X + 1 + 1, 0, none⟩ (.slice a2 L.length c2)).setCell ⟨X + 1 + 1, 1, none⟩ (.int .i64 h)) (by rfl) (by go_simp) (upd_pair _ _ _ _) ?_
  simp only [Act.put, List.setIfInBounds_toArray, List.set_cons_zero, List.set_cons_succ]
  repeat (first
    | (refine wpS_move rfl ?_; simp only [Act.eval, Act.put, Array.getD_eq_getD_getElem?, List.getElem?_toArray, List.getElem?_cons_zero, List.getElem?_cons_succ, Option.getD_some, List.setIfInBounds_toArray, List.set_cons_zero, List.set_cons_succ])
    | (refine wpS_assign rfl ?_; simp only [Act.eval, Act.put, Array.getD_eq_getD_getElem?, List.getElem?_toArray, List.getElem?_cons_zero, List.getElem?_cons_succ, Option.getD_some, List.setIfInBounds_toArray, List.set_cons_zero, List.set_cons_succ])
    | (refine wpS_read (v := ?_) rfl ?_ ?_; rotate_left; (focus (intro w' hG; skip; go_simp; try (with_reducible rfl))); simp only [Act.put, List.setIfInBounds_toArray, List.set_cons_zero, List.set_cons_succ])
    | (refine wpS_skip rfl ?_; simp only [Act.put, List.setIfInBounds_toArray, List.set_cons_zero, List.set_cons_succ]))
  refine wpS_nil ?_
  generalize (w6.drew.setCell ⟨X + 1 + 1, 0, none⟩ (.slice a2 L.length c2)).setCell ⟨X + 1 + 1, 1, none⟩ (.int .i64 h) = w7 at HF ⊢
  clear fx km1 km2 z0 z1 f0 f1 gd
  go_wp2
  exact bodyPost_ret_by (results_cell_tmp rfl _ _ _ _ rfl (load_P _ _ _ _ HF.out.1 rfl)) rfl ⟨_, _, rfl, HF.out.2⟩

end Go.Proofs.Ythdhfojogckflaa
