/-
  The walk of the law's 'do'. Conditions: each theorem's own.
-/
import Derived.Test.YtcmehefaceaioaaFraQ
namespace Go.Proofs.Ytcmehefaceaioaa
open Go.RowKit
set_option linter.unusedVariables false
set_option linter.unusedSimpArgs false

set_option maxRecDepth 8000 in
set_option maxHeartbeats 4000000 in
theorem ldo_2 (s : FS) (hs : s.Ok) (b : Nat) (dd pg off n : Int) (hdd : (Lit.int .i64 dd).wf = true) (hof : (Lit.int .i64 off).wf = true) (hnw : (Lit.int .i64 n).wf = true) (bv : Value) (ys : List Int) (w : World) (h : FrS w b s) (hy : RdV (Value.int .u8) 0 (fun i => i ≠ b) w bv ys) (hyo : Oct ys) (hk : around dd 10 = 2) : Calls Try.prog 11 #[.pointer (some ⟨b, 0, none⟩), .agg #[.int .i64 dd, .int .i64 pg, .int .i64 off, .int .i64 n, bv]] w fun e w' => e = .returned (.tuple #[.string (strOfNums (doS (around dd 10) s pg off n ys).2.1), .int .i64 (doS (around dd 10) s pg off n ys).2.2]) ∧ FrS w' b (doS (around dd 10) s pg off n ys).1 ∧ UpdS (fun i => i = b) w w' := by
  obtain ⟨ab, cb, hbv⟩ := hy.shape
  subst hbv
  obtain ⟨W0, hW0⟩ : ∃ W0, w.alloc (.cells #[.int .i64 dd, .int .i64 pg, .int .i64 off, .int .i64 n, .slice ab ys.length cb] 37) = W0 := ⟨_, rfl⟩
  obtain ⟨X, hX⟩ : ∃ X, w.heap.size = X := ⟨_, rfl⟩
  have g0 : Grow w W0 := by rw [← hW0]; exact (Grow.refl w).alloc _
  have O0 : VarAt W0 X [.int .i64 dd, .int .i64 pg, .int .i64 off, .int .i64 n, .slice ab ys.length cb] := by rw [← hW0, ← hX]; exact VarAt.new w [.int .i64 dd, .int .i64 pg, .int .i64 off, .int .i64 n, .slice ab ys.length cb] 37
  have F0 : FrS W0 b s := FrAt.grow h g0
  have hblt : b < w.heap.size := FrAt.lt h
  have H0 : Hid (FrS W0 b s ∧ VarAt W0 X [.int .i64 dd, .int .i64 pg, .int .i64 off, .int .i64 n, .slice ab ys.length cb] ∧ Grow w W0 ∧ w.heap.size = X ∧ b < X ∧ X < W0.heap.size) := ⟨F0, O0, g0, hX, by omega, O0.lt⟩
  have HY : Hid (RdV (Value.int .u8) 0 (fun i => i ≠ b) W0 (.slice ab ys.length cb) ys) := hy.grow g0
  have r3 := around_any dd 10 W0 hdd (by omega) (by omega)
  rw [hk] at r3
  rw [hk, doS_pin _ _ _ _ _ (by omega)]
  have hc := pinS_any s hs W0 b F0
  generalize pinS s = T at hc ⊢
  obtain ⟨s', E⟩ := T
  obtain ⟨o0, o1, o2, o3, o4⟩ := O0.fives
  clear O0 g0 hy hk h F0 hblt
  go_enter Try.func11, Try.ntmps11
  go_upto_region 1 with fail
  (try rw [hW0])
  (try rw [hX])
  clear hW0 hX
  go_wp2_with fail
  refine r3.mono ?_
  rintro e w0 ⟨rfl, rfl⟩
  clear r3
  go_wp2_with fail
  refine hc.mono ?_
  rintro e w1 ⟨rfl, F1, u1⟩
  have HF : Hid (FrS w1 b s' ∧ UpdS (fun i => i = b) w w1) := ⟨F1, UpdS.trans H0.out.2.2.1.s u1⟩
  clear hc F1 u1 o0 o1 o2 o3 o4
  go_wp2
  go_ret2
  exact ⟨rfl, HF.out⟩

set_option maxRecDepth 8000 in
set_option maxHeartbeats 4000000 in
theorem ldo_3 (s : FS) (hs : s.Ok) (b : Nat) (dd pg off n : Int) (hdd : (Lit.int .i64 dd).wf = true) (hof : (Lit.int .i64 off).wf = true) (hnw : (Lit.int .i64 n).wf = true) (bv : Value) (ys : List Int) (w : World) (h : FrS w b s) (hy : RdV (Value.int .u8) 0 (fun i => i ≠ b) w bv ys) (hyo : Oct ys) (hk : around dd 10 = 3) : Calls Try.prog 11 #[.pointer (some ⟨b, 0, none⟩), .agg #[.int .i64 dd, .int .i64 pg, .int .i64 off, .int .i64 n, bv]] w fun e w' => e = .returned (.tuple #[.string (strOfNums (doS (around dd 10) s pg off n ys).2.1), .int .i64 (doS (around dd 10) s pg off n ys).2.2]) ∧ FrS w' b (doS (around dd 10) s pg off n ys).1 ∧ UpdS (fun i => i = b) w w' := by
  obtain ⟨ab, cb, hbv⟩ := hy.shape
  subst hbv
  obtain ⟨W0, hW0⟩ : ∃ W0, w.alloc (.cells #[.int .i64 dd, .int .i64 pg, .int .i64 off, .int .i64 n, .slice ab ys.length cb] 37) = W0 := ⟨_, rfl⟩
  obtain ⟨X, hX⟩ : ∃ X, w.heap.size = X := ⟨_, rfl⟩
  have g0 : Grow w W0 := by rw [← hW0]; exact (Grow.refl w).alloc _
  have O0 : VarAt W0 X [.int .i64 dd, .int .i64 pg, .int .i64 off, .int .i64 n, .slice ab ys.length cb] := by rw [← hW0, ← hX]; exact VarAt.new w [.int .i64 dd, .int .i64 pg, .int .i64 off, .int .i64 n, .slice ab ys.length cb] 37
  have F0 : FrS W0 b s := FrAt.grow h g0
  have hblt : b < w.heap.size := FrAt.lt h
  have H0 : Hid (FrS W0 b s ∧ VarAt W0 X [.int .i64 dd, .int .i64 pg, .int .i64 off, .int .i64 n, .slice ab ys.length cb] ∧ Grow w W0 ∧ w.heap.size = X ∧ b < X ∧ X < W0.heap.size) := ⟨F0, O0, g0, hX, by omega, O0.lt⟩
  have HY : Hid (RdV (Value.int .u8) 0 (fun i => i ≠ b) W0 (.slice ab ys.length cb) ys) := hy.grow g0
  have r3 := around_any dd 10 W0 hdd (by omega) (by omega)
  rw [hk] at r3
  rw [hk, doS_pin _ _ _ _ _ (by omega)]
  have hc := pinS_any s hs W0 b F0
  generalize pinS s = T at hc ⊢
  obtain ⟨s', E⟩ := T
  obtain ⟨o0, o1, o2, o3, o4⟩ := O0.fives
  clear O0 g0 hy hk h F0 hblt
  go_enter Try.func11, Try.ntmps11
  go_upto_region 1 with fail
  (try rw [hW0])
  (try rw [hX])
  clear hW0 hX
  go_wp2_with fail
  refine r3.mono ?_
  rintro e w0 ⟨rfl, rfl⟩
  clear r3
  go_wp2_with fail
  refine hc.mono ?_
  rintro e w1 ⟨rfl, F1, u1⟩
  have HF : Hid (FrS w1 b s' ∧ UpdS (fun i => i = b) w w1) := ⟨F1, UpdS.trans H0.out.2.2.1.s u1⟩
  clear hc F1 u1 o0 o1 o2 o3 o4
  go_wp2
  go_ret2
  exact ⟨rfl, HF.out⟩

set_option maxRecDepth 8000 in
set_option maxHeartbeats 4000000 in
theorem ldo_4 (s : FS) (hs : s.Ok) (b : Nat) (dd pg off n : Int) (hdd : (Lit.int .i64 dd).wf = true) (hof : (Lit.int .i64 off).wf = true) (hnw : (Lit.int .i64 n).wf = true) (bv : Value) (ys : List Int) (w : World) (h : FrS w b s) (hy : RdV (Value.int .u8) 0 (fun i => i ≠ b) w bv ys) (hyo : Oct ys) (hk : around dd 10 = 4) : Calls Try.prog 11 #[.pointer (some ⟨b, 0, none⟩), .agg #[.int .i64 dd, .int .i64 pg, .int .i64 off, .int .i64 n, bv]] w fun e w' => e = .returned (.tuple #[.string (strOfNums (doS (around dd 10) s pg off n ys).2.1), .int .i64 (doS (around dd 10) s pg off n ys).2.2]) ∧ FrS w' b (doS (around dd 10) s pg off n ys).1 ∧ UpdS (fun i => i = b) w w' := by
  obtain ⟨ab, cb, hbv⟩ := hy.shape
  subst hbv
  obtain ⟨W0, hW0⟩ : ∃ W0, w.alloc (.cells #[.int .i64 dd, .int .i64 pg, .int .i64 off, .int .i64 n, .slice ab ys.length cb] 37) = W0 := ⟨_, rfl⟩
  obtain ⟨X, hX⟩ : ∃ X, w.heap.size = X := ⟨_, rfl⟩
  have g0 : Grow w W0 := by rw [← hW0]; exact (Grow.refl w).alloc _
  have O0 : VarAt W0 X [.int .i64 dd, .int .i64 pg, .int .i64 off, .int .i64 n, .slice ab ys.length cb] := by rw [← hW0, ← hX]; exact VarAt.new w [.int .i64 dd, .int .i64 pg, .int .i64 off, .int .i64 n, .slice ab ys.length cb] 37
  have F0 : FrS W0 b s := FrAt.grow h g0
  have hblt : b < w.heap.size := FrAt.lt h
  have H0 : Hid (FrS W0 b s ∧ VarAt W0 X [.int .i64 dd, .int .i64 pg, .int .i64 off, .int .i64 n, .slice ab ys.length cb] ∧ Grow w W0 ∧ w.heap.size = X ∧ b < X ∧ X < W0.heap.size) := ⟨F0, O0, g0, hX, by omega, O0.lt⟩
  have HY : Hid (RdV (Value.int .u8) 0 (fun i => i ≠ b) W0 (.slice ab ys.length cb) ys) := hy.grow g0
  have r3 := around_any dd 10 W0 hdd (by omega) (by omega)
  rw [hk] at r3
  rw [hk, doS_pin _ _ _ _ _ (by omega)]
  have hc := pinS_any s hs W0 b F0
  generalize pinS s = T at hc ⊢
  obtain ⟨s', E⟩ := T
  obtain ⟨o0, o1, o2, o3, o4⟩ := O0.fives
  clear O0 g0 hy hk h F0 hblt
  go_enter Try.func11, Try.ntmps11
  go_upto_region 1 with fail
  (try rw [hW0])
  (try rw [hX])
  clear hW0 hX
  go_wp2_with fail
  refine r3.mono ?_
  rintro e w0 ⟨rfl, rfl⟩
  clear r3
  go_wp2_with fail
  refine hc.mono ?_
  rintro e w1 ⟨rfl, F1, u1⟩
  have HF : Hid (FrS w1 b s' ∧ UpdS (fun i => i = b) w w1) := ⟨F1, UpdS.trans H0.out.2.2.1.s u1⟩
  clear hc F1 u1 o0 o1 o2 o3 o4
  go_wp2
  go_ret2
  exact ⟨rfl, HF.out⟩

set_option maxRecDepth 8000 in
set_option maxHeartbeats 4000000 in
theorem ldo_5 (s : FS) (hs : s.Ok) (b : Nat) (dd pg off n : Int) (hdd : (Lit.int .i64 dd).wf = true) (hof : (Lit.int .i64 off).wf = true) (hnw : (Lit.int .i64 n).wf = true) (bv : Value) (ys : List Int) (w : World) (h : FrS w b s) (hy : RdV (Value.int .u8) 0 (fun i => i ≠ b) w bv ys) (hyo : Oct ys) (hk : around dd 10 = 5) : Calls Try.prog 11 #[.pointer (some ⟨b, 0, none⟩), .agg #[.int .i64 dd, .int .i64 pg, .int .i64 off, .int .i64 n, bv]] w fun e w' => e = .returned (.tuple #[.string (strOfNums (doS (around dd 10) s pg off n ys).2.1), .int .i64 (doS (around dd 10) s pg off n ys).2.2]) ∧ FrS w' b (doS (around dd 10) s pg off n ys).1 ∧ UpdS (fun i => i = b) w w' := by
  obtain ⟨ab, cb, hbv⟩ := hy.shape
  subst hbv
  obtain ⟨W0, hW0⟩ : ∃ W0, w.alloc (.cells #[.int .i64 dd, .int .i64 pg, .int .i64 off, .int .i64 n, .slice ab ys.length cb] 37) = W0 := ⟨_, rfl⟩
  obtain ⟨X, hX⟩ : ∃ X, w.heap.size = X := ⟨_, rfl⟩
  have g0 : Grow w W0 := by rw [← hW0]; exact (Grow.refl w).alloc _
  have O0 : VarAt W0 X [.int .i64 dd, .int .i64 pg, .int .i64 off, .int .i64 n, .slice ab ys.length cb] := by rw [← hW0, ← hX]; exact VarAt.new w [.int .i64 dd, .int .i64 pg, .int .i64 off, .int .i64 n, .slice ab ys.length cb] 37
  have F0 : FrS W0 b s := FrAt.grow h g0
  have hblt : b < w.heap.size := FrAt.lt h
  have H0 : Hid (FrS W0 b s ∧ VarAt W0 X [.int .i64 dd, .int .i64 pg, .int .i64 off, .int .i64 n, .slice ab ys.length cb] ∧ Grow w W0 ∧ w.heap.size = X ∧ b < X ∧ X < W0.heap.size) := ⟨F0, O0, g0, hX, by omega, O0.lt⟩
  have HY : Hid (RdV (Value.int .u8) 0 (fun i => i ≠ b) W0 (.slice ab ys.length cb) ys) := hy.grow g0
  have r3 := around_any dd 10 W0 hdd (by omega) (by omega)
  rw [hk] at r3
  rw [hk, doS_unpin _ _ _ _ _ rfl]
  have hc := unpinS_any s hs W0 b F0
  generalize unpinS s = T at hc ⊢
  obtain ⟨s', E⟩ := T
  obtain ⟨o0, o1, o2, o3, o4⟩ := O0.fives
  clear O0 g0 hy hk h F0 hblt
  go_enter Try.func11, Try.ntmps11
  go_upto_region 1 with fail
  (try rw [hW0])
  (try rw [hX])
  clear hW0 hX
  go_wp2_with fail
  refine r3.mono ?_
  rintro e w0 ⟨rfl, rfl⟩
  clear r3
  go_wp2_with fail
  refine hc.mono ?_
  rintro e w1 ⟨rfl, F1, u1⟩
  have HF : Hid (FrS w1 b s' ∧ UpdS (fun i => i = b) w w1) := ⟨F1, UpdS.trans H0.out.2.2.1.s u1⟩
  clear hc F1 u1 o0 o1 o2 o3 o4
  go_wp2
  go_ret2
  exact ⟨rfl, HF.out⟩

set_option maxRecDepth 8000 in
set_option maxHeartbeats 4000000 in
theorem ldo_6 (s : FS) (hs : s.Ok) (b : Nat) (dd pg off n : Int) (hdd : (Lit.int .i64 dd).wf = true) (hof : (Lit.int .i64 off).wf = true) (hnw : (Lit.int .i64 n).wf = true) (bv : Value) (ys : List Int) (w : World) (h : FrS w b s) (hy : RdV (Value.int .u8) 0 (fun i => i ≠ b) w bv ys) (hyo : Oct ys) (hk : around dd 10 = 6) : Calls Try.prog 11 #[.pointer (some ⟨b, 0, none⟩), .agg #[.int .i64 dd, .int .i64 pg, .int .i64 off, .int .i64 n, bv]] w fun e w' => e = .returned (.tuple #[.string (strOfNums (doS (around dd 10) s pg off n ys).2.1), .int .i64 (doS (around dd 10) s pg off n ys).2.2]) ∧ FrS w' b (doS (around dd 10) s pg off n ys).1 ∧ UpdS (fun i => i = b) w w' := by
  obtain ⟨ab, cb, hbv⟩ := hy.shape
  subst hbv
  obtain ⟨W0, hW0⟩ : ∃ W0, w.alloc (.cells #[.int .i64 dd, .int .i64 pg, .int .i64 off, .int .i64 n, .slice ab ys.length cb] 37) = W0 := ⟨_, rfl⟩
  obtain ⟨X, hX⟩ : ∃ X, w.heap.size = X := ⟨_, rfl⟩
  have g0 : Grow w W0 := by rw [← hW0]; exact (Grow.refl w).alloc _
  have O0 : VarAt W0 X [.int .i64 dd, .int .i64 pg, .int .i64 off, .int .i64 n, .slice ab ys.length cb] := by rw [← hW0, ← hX]; exact VarAt.new w [.int .i64 dd, .int .i64 pg, .int .i64 off, .int .i64 n, .slice ab ys.length cb] 37
  have F0 : FrS W0 b s := FrAt.grow h g0
  have hblt : b < w.heap.size := FrAt.lt h
  have H0 : Hid (FrS W0 b s ∧ VarAt W0 X [.int .i64 dd, .int .i64 pg, .int .i64 off, .int .i64 n, .slice ab ys.length cb] ∧ Grow w W0 ∧ w.heap.size = X ∧ b < X ∧ X < W0.heap.size) := ⟨F0, O0, g0, hX, by omega, O0.lt⟩
  have HY : Hid (RdV (Value.int .u8) 0 (fun i => i ≠ b) W0 (.slice ab ys.length cb) ys) := hy.grow g0
  have r3 := around_any dd 10 W0 hdd (by omega) (by omega)
  rw [hk] at r3
  rw [hk, doS_get _ _ _ _ _ rfl]
  have hc := getS_any s hs W0 b F0 off n hof hnw
  generalize getS s off n = T at hc ⊢
  obtain ⟨s', Z, E⟩ := T
  obtain ⟨o0, o1, o2, o3, o4⟩ := O0.fives
  clear O0 g0 hy hk h F0 hblt
  go_enter Try.func11, Try.ntmps11
  go_upto_region 1 with fail
  (try rw [hW0])
  (try rw [hX])
  clear hW0 hX
  go_wp2_with fail
  refine r3.mono ?_
  rintro e w0 ⟨rfl, rfl⟩
  clear r3
  go_wp2_with fail
  refine hc.mono ?_
  rintro e w1 ⟨v1, rfl, r1, F1, u1⟩
  have HF : Hid (FrS w1 b s' ∧ UpdS (fun i => i = b) w w1) := ⟨F1, UpdS.trans H0.out.2.2.1.s u1⟩
  obtain ⟨a1, c1, rfl⟩ := r1.shape
  have kc : (convert 35 9 (.slice a1 Z.length c1)).run Try.prog w1 = .ok (.string (strOfNums Z)) w1 := r1.i.string 35 9 5 Try.underlying35 Try.underlying5 Try.underlying9
  clear hc F1 u1 o0 o1 o2 o3 o4 r1
  go_wp2
  go_ret2
  exact ⟨rfl, HF.out⟩

set_option maxRecDepth 8000 in
set_option maxHeartbeats 4000000 in
theorem ldo_9 (s : FS) (hs : s.Ok) (b : Nat) (dd pg off n : Int) (hdd : (Lit.int .i64 dd).wf = true) (hof : (Lit.int .i64 off).wf = true) (hnw : (Lit.int .i64 n).wf = true) (bv : Value) (ys : List Int) (w : World) (h : FrS w b s) (hy : RdV (Value.int .u8) 0 (fun i => i ≠ b) w bv ys) (hyo : Oct ys) (hk : around dd 10 = 9) : Calls Try.prog 11 #[.pointer (some ⟨b, 0, none⟩), .agg #[.int .i64 dd, .int .i64 pg, .int .i64 off, .int .i64 n, bv]] w fun e w' => e = .returned (.tuple #[.string (strOfNums (doS (around dd 10) s pg off n ys).2.1), .int .i64 (doS (around dd 10) s pg off n ys).2.2]) ∧ FrS w' b (doS (around dd 10) s pg off n ys).1 ∧ UpdS (fun i => i = b) w w' := by
  obtain ⟨ab, cb, hbv⟩ := hy.shape
  subst hbv
  obtain ⟨W0, hW0⟩ : ∃ W0, w.alloc (.cells #[.int .i64 dd, .int .i64 pg, .int .i64 off, .int .i64 n, .slice ab ys.length cb] 37) = W0 := ⟨_, rfl⟩
  obtain ⟨X, hX⟩ : ∃ X, w.heap.size = X := ⟨_, rfl⟩
  have g0 : Grow w W0 := by rw [← hW0]; exact (Grow.refl w).alloc _
  have O0 : VarAt W0 X [.int .i64 dd, .int .i64 pg, .int .i64 off, .int .i64 n, .slice ab ys.length cb] := by rw [← hW0, ← hX]; exact VarAt.new w [.int .i64 dd, .int .i64 pg, .int .i64 off, .int .i64 n, .slice ab ys.length cb] 37
  have F0 : FrS W0 b s := FrAt.grow h g0
  have hblt : b < w.heap.size := FrAt.lt h
  have H0 : Hid (FrS W0 b s ∧ VarAt W0 X [.int .i64 dd, .int .i64 pg, .int .i64 off, .int .i64 n, .slice ab ys.length cb] ∧ Grow w W0 ∧ w.heap.size = X ∧ b < X ∧ X < W0.heap.size) := ⟨F0, O0, g0, hX, by omega, O0.lt⟩
  have HY : Hid (RdV (Value.int .u8) 0 (fun i => i ≠ b) W0 (.slice ab ys.length cb) ys) := hy.grow g0
  have r3 := around_any dd 10 W0 hdd (by omega) (by omega)
  rw [hk] at r3
  rw [hk, doS_zero _ _ _ _ _ rfl]
  have hc := zero_any W0 b _ _ _ _ _ _ F0
  obtain ⟨o0, o1, o2, o3, o4⟩ := O0.fives
  clear O0 g0 hy hk h F0 hblt
  go_enter Try.func11, Try.ntmps11
  go_upto_region 1 with fail
  (try rw [hW0])
  (try rw [hX])
  clear hW0 hX
  go_wp2_with fail
  refine r3.mono ?_
  rintro e w0 ⟨rfl, rfl⟩
  clear r3
  go_wp2_with fail
  refine hc.mono ?_
  rintro e w1 ⟨rfl, F1, u1⟩
  have HF : Hid (FrS w1 b FS.empty ∧ UpdS (fun i => i = b) w w1) := ⟨F1, UpdS.trans H0.out.2.2.1.s u1⟩
  clear hc F1 u1 o0 o1 o2 o3 o4
  go_wp2
  go_ret2
  exact ⟨rfl, HF.out⟩

set_option maxRecDepth 8000 in
set_option maxHeartbeats 4000000 in
theorem ldo_7 (s : FS) (hs : s.Ok) (b : Nat) (dd pg off n : Int) (hdd : (Lit.int .i64 dd).wf = true) (hof : (Lit.int .i64 off).wf = true) (hnw : (Lit.int .i64 n).wf = true) (bv : Value) (ys : List Int) (w : World) (h : FrS w b s) (hy : RdV (Value.int .u8) 0 (fun i => i ≠ b) w bv ys) (hyo : Oct ys) (hk : around dd 10 = 7) : Calls Try.prog 11 #[.pointer (some ⟨b, 0, none⟩), .agg #[.int .i64 dd, .int .i64 pg, .int .i64 off, .int .i64 n, bv]] w fun e w' => e = .returned (.tuple #[.string (strOfNums (doS (around dd 10) s pg off n ys).2.1), .int .i64 (doS (around dd 10) s pg off n ys).2.2]) ∧ FrS w' b (doS (around dd 10) s pg off n ys).1 ∧ UpdS (fun i => i = b) w w' := by
  obtain ⟨ab, cb, hbv⟩ := hy.shape
  subst hbv
  obtain ⟨W0, hW0⟩ : ∃ W0, w.alloc (.cells #[.int .i64 dd, .int .i64 pg, .int .i64 off, .int .i64 n, .slice ab ys.length cb] 37) = W0 := ⟨_, rfl⟩
  obtain ⟨X, hX⟩ : ∃ X, w.heap.size = X := ⟨_, rfl⟩
  have g0 : Grow w W0 := by rw [← hW0]; exact (Grow.refl w).alloc _
  have O0 : VarAt W0 X [.int .i64 dd, .int .i64 pg, .int .i64 off, .int .i64 n, .slice ab ys.length cb] := by rw [← hW0, ← hX]; exact VarAt.new w [.int .i64 dd, .int .i64 pg, .int .i64 off, .int .i64 n, .slice ab ys.length cb] 37
  have F0 : FrS W0 b s := FrAt.grow h g0
  have hblt : b < w.heap.size := FrAt.lt h
  have H0 : Hid (FrS W0 b s ∧ VarAt W0 X [.int .i64 dd, .int .i64 pg, .int .i64 off, .int .i64 n, .slice ab ys.length cb] ∧ Grow w W0 ∧ w.heap.size = X ∧ b < X ∧ X < W0.heap.size) := ⟨F0, O0, g0, hX, by omega, O0.lt⟩
  have HY : Hid (RdV (Value.int .u8) 0 (fun i => i ≠ b) W0 (.slice ab ys.length cb) ys) := hy.grow g0
  have r3 := around_any dd 10 W0 hdd (by omega) (by omega)
  rw [hk] at r3
  rw [hk, doS_put _ _ _ _ _ (by omega)]
  have hfw := fewB_any _ ys 40 40 _ W0.drew rfl (HY.out.grow (Grow.refl W0).drew).i (by omega)
  have hc := fun w' (hf : FrS w' b s) v t (hv : RdV (Value.int .u8) 0 t w' v (ys.take 40)) => putS_any s hs w' b hf off v (ys.take 40) t hv hof
  generalize putS s off (ys.take 40) = T at hc ⊢
  obtain ⟨s', E⟩ := T
  generalize ys.take 40 = A at hc hfw
  obtain ⟨o0, o1, o2, o3, o4⟩ := O0.fives
  clear O0 g0 hy hk h F0 hblt
  go_enter Try.func11, Try.ntmps11
  go_upto_region 1 with fail
  (try rw [hW0])
  (try rw [hX])
  clear hW0 hX
  go_wp2_with fail
  refine r3.mono ?_
  rintro e w0 ⟨rfl, rfl⟩
  clear r3
  have gd : Grow W0 W0.drew := (Grow.refl W0).drew
  have fx : ∀ w', UpdS (fun i => i = b) W0.drew w' → (w'.cell? ⟨X, 0, none⟩ = some (.int .i64 dd) ∧ w'.cell? ⟨X, 1, none⟩ = some (.int .i64 pg) ∧ w'.cell? ⟨X, 2, none⟩ = some (.int .i64 off) ∧ w'.cell? ⟨X, 3, none⟩ = some (.int .i64 n) ∧ w'.cell? ⟨X, 4, none⟩ = some (.slice ab ys.length cb)) := fun w' g =>
    ((H0.out.2.1.grow gd).upd g (by have := H0.out.2.2.2.2; omega)).fives
  go_wp2
  refine wp_region_schedG (UpdS (fun i => i = b)) (UpdS.refl _) (fun _ _ _ => UpdS.trans) (by kernel_rfl) [(0, false), (1, false), (2, false), (3, false), (4, false), (5, true), (6, true), (7, false), (8, false)] (by kernel_rfl) (by kernel_rfl) rfl (fun _ _ d _ _ h => by cases d <;> exact h) ?_
  simp only [inOrder, List.filterMap_cons, List.filterMap_nil, List.getElem?_toArray, List.getElem?_cons_zero, List.getElem?_cons_succ, Option.map_some]
  repeat (first
    | (refine wpS_move rfl ?_; simp only [Act.eval, Act.put, Array.getD_eq_getD_getElem?, List.getElem?_toArray, List.getElem?_cons_zero, List.getElem?_cons_succ, Option.getD_some, List.setIfInBounds_toArray, List.set_cons_zero, List.set_cons_succ])
    | (refine wpS_assign rfl ?_; simp only [Act.eval, Act.put, Array.getD_eq_getD_getElem?, List.getElem?_toArray, List.getElem?_cons_zero, List.getElem?_cons_succ, Option.getD_some, List.setIfInBounds_toArray, List.set_cons_zero, List.set_cons_succ])
    | (refine wpS_read (v := ?_) rfl ?_ ?_; rotate_left; (focus (intro w' hG; obtain ⟨p0, p1, p2, p3, p4⟩ := fx w' hG; go_simp; try (with_reducible rfl))); simp only [Act.put, List.setIfInBounds_toArray, List.set_cons_zero, List.set_cons_succ])
    | (refine wpS_skip rfl ?_; simp only [Act.put, List.setIfInBounds_toArray, List.set_cons_zero, List.set_cons_succ]))
  refine wpS_call (f := ?_) (args := ?_) (by rfl) ?_ ?_
  rotate_left 2; focus (go_simp; constructor <;> with_reducible rfl)
  refine (hfw).mono ?_
  rintro e w1 ⟨v1, rfl, o1, g1⟩
  refine ⟨_, rfl, Grow.s g1, ?_⟩
  simp only [Act.put, List.setIfInBounds_toArray, List.set_cons_zero, List.set_cons_succ]
  obtain ⟨a1, c1, rfl⟩ := o1.v.shape
  have hq := hc w1 ((FrAt.grow H0.out.1 gd).grow g1) _ _ o1.v.rd
  repeat (first
    | (refine wpS_move rfl ?_; simp only [Act.eval, Act.put, Array.getD_eq_getD_getElem?, List.getElem?_toArray, List.getElem?_cons_zero, List.getElem?_cons_succ, Option.getD_some, List.setIfInBounds_toArray, List.set_cons_zero, List.set_cons_succ])
    | (refine wpS_assign rfl ?_; simp only [Act.eval, Act.put, Array.getD_eq_getD_getElem?, List.getElem?_toArray, List.getElem?_cons_zero, List.getElem?_cons_succ, Option.getD_some, List.setIfInBounds_toArray, List.set_cons_zero, List.set_cons_succ])
    | (refine wpS_read (v := ?_) rfl ?_ ?_; rotate_left; (focus (intro w' hG; skip; go_simp; try (with_reducible rfl))); simp only [Act.put, List.setIfInBounds_toArray, List.set_cons_zero, List.set_cons_succ])
    | (refine wpS_skip rfl ?_; simp only [Act.put, List.setIfInBounds_toArray, List.set_cons_zero, List.set_cons_succ]))
  refine wpS_call (f := ?_) (args := ?_) (by rfl) ?_ ?_
  rotate_left 2; focus (go_simp; constructor <;> with_reducible rfl)
  refine (hq).mono ?_
  rintro e w2 ⟨rfl, F2, u2⟩
  refine ⟨_, rfl, u2, ?_⟩
  simp only [Act.put, List.setIfInBounds_toArray, List.set_cons_zero, List.set_cons_succ]
  have HF : Hid (FrS w2 b s' ∧ UpdS (fun i => i = b) w w2) := ⟨F2, UpdS.trans ((H0.out.2.2.1.trans gd).trans g1).s u2⟩
  clear fx F2 u2 hq o1 g1 hfw hc
  repeat (first
    | (refine wpS_move rfl ?_; simp only [Act.eval, Act.put, Array.getD_eq_getD_getElem?, List.getElem?_toArray, List.getElem?_cons_zero, List.getElem?_cons_succ, Option.getD_some, List.setIfInBounds_toArray, List.set_cons_zero, List.set_cons_succ])
    | (refine wpS_assign rfl ?_; simp only [Act.eval, Act.put, Array.getD_eq_getD_getElem?, List.getElem?_toArray, List.getElem?_cons_zero, List.getElem?_cons_succ, Option.getD_some, List.setIfInBounds_toArray, List.set_cons_zero, List.set_cons_succ])
    | (refine wpS_read (v := ?_) rfl ?_ ?_; rotate_left; (focus (intro w' hG; skip; go_simp; try (with_reducible rfl))); simp only [Act.put, List.setIfInBounds_toArray, List.set_cons_zero, List.set_cons_succ])
    | (refine wpS_skip rfl ?_; simp only [Act.put, List.setIfInBounds_toArray, List.set_cons_zero, List.set_cons_succ]))
  refine wpS_nil ?_
  go_wp2
  go_ret2
  exact ⟨rfl, HF.out⟩

set_option maxRecDepth 8000 in
set_option maxHeartbeats 4000000 in
theorem ldo_8 (s : FS) (hs : s.Ok) (b : Nat) (dd pg off n : Int) (hdd : (Lit.int .i64 dd).wf = true) (hof : (Lit.int .i64 off).wf = true) (hnw : (Lit.int .i64 n).wf = true) (bv : Value) (ys : List Int) (w : World) (h : FrS w b s) (hy : RdV (Value.int .u8) 0 (fun i => i ≠ b) w bv ys) (hyo : Oct ys) (hk : around dd 10 = 8) : Calls Try.prog 11 #[.pointer (some ⟨b, 0, none⟩), .agg #[.int .i64 dd, .int .i64 pg, .int .i64 off, .int .i64 n, bv]] w fun e w' => e = .returned (.tuple #[.string (strOfNums (doS (around dd 10) s pg off n ys).2.1), .int .i64 (doS (around dd 10) s pg off n ys).2.2]) ∧ FrS w' b (doS (around dd 10) s pg off n ys).1 ∧ UpdS (fun i => i = b) w w' := by
  obtain ⟨ab, cb, hbv⟩ := hy.shape
  subst hbv
  obtain ⟨W0, hW0⟩ : ∃ W0, w.alloc (.cells #[.int .i64 dd, .int .i64 pg, .int .i64 off, .int .i64 n, .slice ab ys.length cb] 37) = W0 := ⟨_, rfl⟩
  obtain ⟨X, hX⟩ : ∃ X, w.heap.size = X := ⟨_, rfl⟩
  have g0 : Grow w W0 := by rw [← hW0]; exact (Grow.refl w).alloc _
  have O0 : VarAt W0 X [.int .i64 dd, .int .i64 pg, .int .i64 off, .int .i64 n, .slice ab ys.length cb] := by rw [← hW0, ← hX]; exact VarAt.new w [.int .i64 dd, .int .i64 pg, .int .i64 off, .int .i64 n, .slice ab ys.length cb] 37
  have F0 : FrS W0 b s := FrAt.grow h g0
  have hblt : b < w.heap.size := FrAt.lt h
  have H0 : Hid (FrS W0 b s ∧ VarAt W0 X [.int .i64 dd, .int .i64 pg, .int .i64 off, .int .i64 n, .slice ab ys.length cb] ∧ Grow w W0 ∧ w.heap.size = X ∧ b < X ∧ X < W0.heap.size) := ⟨F0, O0, g0, hX, by omega, O0.lt⟩
  have HY : Hid (RdV (Value.int .u8) 0 (fun i => i ≠ b) W0 (.slice ab ys.length cb) ys) := hy.grow g0
  have r3 := around_any dd 10 W0 hdd (by omega) (by omega)
  rw [hk] at r3
  rw [hk, doS_put _ _ _ _ _ (by omega)]
  have hfw := fewB_any _ ys 40 40 _ W0.drew rfl (HY.out.grow (Grow.refl W0).drew).i (by omega)
  have hc := fun w' (hf : FrS w' b s) v t (hv : RdV (Value.int .u8) 0 t w' v (ys.take 40)) => putS_any s hs w' b hf off v (ys.take 40) t hv hof
  generalize putS s off (ys.take 40) = T at hc ⊢
  obtain ⟨s', E⟩ := T
  generalize ys.take 40 = A at hc hfw
  obtain ⟨o0, o1, o2, o3, o4⟩ := O0.fives
  clear O0 g0 hy hk h F0 hblt
  go_enter Try.func11, Try.ntmps11
  go_upto_region 1 with fail
  (try rw [hW0])
  (try rw [hX])
  clear hW0 hX
  go_wp2_with fail
  refine r3.mono ?_
  rintro e w0 ⟨rfl, rfl⟩
  clear r3
  have gd : Grow W0 W0.drew := (Grow.refl W0).drew
  have fx : ∀ w', UpdS (fun i => i = b) W0.drew w' → (w'.cell? ⟨X, 0, none⟩ = some (.int .i64 dd) ∧ w'.cell? ⟨X, 1, none⟩ = some (.int .i64 pg) ∧ w'.cell? ⟨X, 2, none⟩ = some (.int .i64 off) ∧ w'.cell? ⟨X, 3, none⟩ = some (.int .i64 n) ∧ w'.cell? ⟨X, 4, none⟩ = some (.slice ab ys.length cb)) := fun w' g =>
    ((H0.out.2.1.grow gd).upd g (by have := H0.out.2.2.2.2; omega)).fives
  go_wp2
  refine wp_region_schedG (UpdS (fun i => i = b)) (UpdS.refl _) (fun _ _ _ => UpdS.trans) (by kernel_rfl) [(0, false), (1, false), (2, false), (3, false), (4, false), (5, true), (6, true), (7, false), (8, false)] (by kernel_rfl) (by kernel_rfl) rfl (fun _ _ d _ _ h => by cases d <;> exact h) ?_
  simp only [inOrder, List.filterMap_cons, List.filterMap_nil, List.getElem?_toArray, List.getElem?_cons_zero, List.getElem?_cons_succ, Option.map_some]
  repeat (first
    | (refine wpS_move rfl ?_; simp only [Act.eval, Act.put, Array.getD_eq_getD_getElem?, List.getElem?_toArray, List.getElem?_cons_zero, List.getElem?_cons_succ, Option.getD_some, List.setIfInBounds_toArray, List.set_cons_zero, List.set_cons_succ])
    | (refine wpS_assign rfl ?_; simp only [Act.eval, Act.put, Array.getD_eq_getD_getElem?, List.getElem?_toArray, List.getElem?_cons_zero, List.getElem?_cons_succ, Option.getD_some, List.setIfInBounds_toArray, List.set_cons_zero, List.set_cons_succ])
    | (refine wpS_read (v := ?_) rfl ?_ ?_; rotate_left; (focus (intro w' hG; obtain ⟨p0, p1, p2, p3, p4⟩ := fx w' hG; go_simp; try (with_reducible rfl))); simp only [Act.put, List.setIfInBounds_toArray, List.set_cons_zero, List.set_cons_succ])
    | (refine wpS_skip rfl ?_; simp only [Act.put, List.setIfInBounds_toArray, List.set_cons_zero, List.set_cons_succ]))
  refine wpS_call (f := ?_) (args := ?_) (by rfl) ?_ ?_
  rotate_left 2; focus (go_simp; constructor <;> with_reducible rfl)
  refine (hfw).mono ?_
  rintro e w1 ⟨v1, rfl, o1, g1⟩
  refine ⟨_, rfl, Grow.s g1, ?_⟩
  simp only [Act.put, List.setIfInBounds_toArray, List.set_cons_zero, List.set_cons_succ]
  obtain ⟨a1, c1, rfl⟩ := o1.v.shape
  have hq := hc w1 ((FrAt.grow H0.out.1 gd).grow g1) _ _ o1.v.rd
  repeat (first
    | (refine wpS_move rfl ?_; simp only [Act.eval, Act.put, Array.getD_eq_getD_getElem?, List.getElem?_toArray, List.getElem?_cons_zero, List.getElem?_cons_succ, Option.getD_some, List.setIfInBounds_toArray, List.set_cons_zero, List.set_cons_succ])
    | (refine wpS_assign rfl ?_; simp only [Act.eval, Act.put, Array.getD_eq_getD_getElem?, List.getElem?_toArray, List.getElem?_cons_zero, List.getElem?_cons_succ, Option.getD_some, List.setIfInBounds_toArray, List.set_cons_zero, List.set_cons_succ])
    | (refine wpS_read (v := ?_) rfl ?_ ?_; rotate_left; (focus (intro w' hG; skip; go_simp; try (with_reducible rfl))); simp only [Act.put, List.setIfInBounds_toArray, List.set_cons_zero, List.set_cons_succ])
    | (refine wpS_skip rfl ?_; simp only [Act.put, List.setIfInBounds_toArray, List.set_cons_zero, List.set_cons_succ]))
  refine wpS_call (f := ?_) (args := ?_) (by rfl) ?_ ?_
  rotate_left 2; focus (go_simp; constructor <;> with_reducible rfl)
  refine (hq).mono ?_
  rintro e w2 ⟨rfl, F2, u2⟩
  refine ⟨_, rfl, u2, ?_⟩
  simp only [Act.put, List.setIfInBounds_toArray, List.set_cons_zero, List.set_cons_succ]
  have HF : Hid (FrS w2 b s' ∧ UpdS (fun i => i = b) w w2) := ⟨F2, UpdS.trans ((H0.out.2.2.1.trans gd).trans g1).s u2⟩
  clear fx F2 u2 hq o1 g1 hfw hc
  repeat (first
    | (refine wpS_move rfl ?_; simp only [Act.eval, Act.put, Array.getD_eq_getD_getElem?, List.getElem?_toArray, List.getElem?_cons_zero, List.getElem?_cons_succ, Option.getD_some, List.setIfInBounds_toArray, List.set_cons_zero, List.set_cons_succ])
    | (refine wpS_assign rfl ?_; simp only [Act.eval, Act.put, Array.getD_eq_getD_getElem?, List.getElem?_toArray, List.getElem?_cons_zero, List.getElem?_cons_succ, Option.getD_some, List.setIfInBounds_toArray, List.set_cons_zero, List.set_cons_succ])
    | (refine wpS_read (v := ?_) rfl ?_ ?_; rotate_left; (focus (intro w' hG; skip; go_simp; try (with_reducible rfl))); simp only [Act.put, List.setIfInBounds_toArray, List.set_cons_zero, List.set_cons_succ])
    | (refine wpS_skip rfl ?_; simp only [Act.put, List.setIfInBounds_toArray, List.set_cons_zero, List.set_cons_succ]))
  refine wpS_nil ?_
  go_wp2
  go_ret2
  exact ⟨rfl, HF.out⟩

set_option maxRecDepth 8000 in
set_option maxHeartbeats 4000000 in
theorem ldo_0f (s : FS) (hs : s.Ok) (b : Nat) (dd pg off n : Int) (hdd : (Lit.int .i64 dd).wf = true) (hof : (Lit.int .i64 off).wf = true) (hnw : (Lit.int .i64 n).wf = true) (bv : Value) (ys : List Int) (w : World) (h : FrS w b s) (hy : RdV (Value.int .u8) 0 (fun i => i ≠ b) w bv ys) (hyo : Oct ys) (hn5 : Int.tmod n 5 = 4) (hk : around dd 10 = 0) : Calls Try.prog 11 #[.pointer (some ⟨b, 0, none⟩), .agg #[.int .i64 dd, .int .i64 pg, .int .i64 off, .int .i64 n, bv]] w fun e w' => e = .returned (.tuple #[.string (strOfNums (doS (around dd 10) s pg off n ys).2.1), .int .i64 (doS (around dd 10) s pg off n ys).2.2]) ∧ FrS w' b (doS (around dd 10) s pg off n ys).1 ∧ UpdS (fun i => i = b) w w' := by
  obtain ⟨ab, cb, hbv⟩ := hy.shape
  subst hbv
  obtain ⟨W0, hW0⟩ : ∃ W0, w.alloc (.cells #[.int .i64 dd, .int .i64 pg, .int .i64 off, .int .i64 n, .slice ab ys.length cb] 37) = W0 := ⟨_, rfl⟩
  obtain ⟨X, hX⟩ : ∃ X, w.heap.size = X := ⟨_, rfl⟩
  have g0 : Grow w W0 := by rw [← hW0]; exact (Grow.refl w).alloc _
  have O0 : VarAt W0 X [.int .i64 dd, .int .i64 pg, .int .i64 off, .int .i64 n, .slice ab ys.length cb] := by rw [← hW0, ← hX]; exact VarAt.new w [.int .i64 dd, .int .i64 pg, .int .i64 off, .int .i64 n, .slice ab ys.length cb] 37
  have F0 : FrS W0 b s := FrAt.grow h g0
  have hblt : b < w.heap.size := FrAt.lt h
  have H0 : Hid (FrS W0 b s ∧ VarAt W0 X [.int .i64 dd, .int .i64 pg, .int .i64 off, .int .i64 n, .slice ab ys.length cb] ∧ Grow w W0 ∧ w.heap.size = X ∧ b < X ∧ X < W0.heap.size) := ⟨F0, O0, g0, hX, by omega, O0.lt⟩
  have HY : Hid (RdV (Value.int .u8) 0 (fun i => i ≠ b) W0 (.slice ab ys.length cb) ys) := hy.grow g0
  have r3 := around_any dd 10 W0 hdd (by omega) (by omega)
  rw [hk] at r3
  rw [hk, doS_load4 _ _ _ _ _ (by omega) hn5]
  have hfl := fill_any _ ys 32 32 _ W0 rfl HY.out.i (by omega)
  have hfw := fun w' (g : Grow W0 w') => fewB_any _ ys 40 40 _ w' rfl (HY.out.grow g).i (by omega)
  have hc := fun w' (hf : FrS w' b s) v (hv : RdV (Value.int .u8) 0 (fun i => i ≠ b) w' v (ys.take 40)) => loadS_any s hs w' b hf pg v (ys.take 40) hv
  generalize loadS s pg (ys.take 40) = T at hc ⊢
  obtain ⟨s', E⟩ := T
  generalize ys.take 40 = A at hc hfw
  generalize fillL ys 32 = fs at hfl
  obtain ⟨o0, o1, o2, o3, o4⟩ := O0.fives
  clear O0 g0 hy hk h F0 hblt
  go_enter Try.func11, Try.ntmps11
  go_upto_region 1 with fail
  (try rw [hW0])
  (try rw [hX])
  clear hW0 hX
  go_wp2_with fail
  refine r3.mono ?_
  rintro e w0 ⟨rfl, rfl⟩
  clear r3
  obtain ⟨m5, hm5⟩ : ∃ m, Int.tmod n 5 = m := ⟨_, rfl⟩
  have hb5 := tmod5 n
  rw [hm5] at hn5 hb5
  go_wp2_with fail
  refine hfl.mono ?_
  rintro e wf ⟨vf, rfl, of, gf⟩
  obtain ⟨af, cf, rfl⟩ := of.v.shape
  obtain ⟨o0, o1, o2, o3, o4⟩ := (H0.out.2.1.grow gf).fives
  have hw := hfw wf gf
  subst hn5
  clear hfl of
  go_wp2_with fail
  refine hw.mono ?_
  rintro e wg ⟨vg, rfl, og, gg⟩
  obtain ⟨ag, cg, rfl⟩ := og.v.shape
  have hl := hc wg (FrAt.grow H0.out.1 (gf.trans gg)) _ (og.v.rd.mono (fun i _ hi => by have h1 := gf.size; have h2 := H0.out.2.2.2.2; omega))
  have g3 : Grow W0 wg := gf.trans gg
  obtain ⟨o0, o1, o2, o3, o4⟩ := (H0.out.2.1.grow g3).fives
  clear hw og hfw hc
  go_wp2_with fail
  refine hl.mono ?_
  rintro e w1 ⟨rfl, F1, u1⟩
  have HF : Hid (FrS w1 b s' ∧ UpdS (fun i => i = b) w w1) := ⟨F1, UpdS.trans (H0.out.2.2.1.trans g3).s u1⟩
  clear hl F1 u1 o0 o1 o2 o3 o4
  go_wp2
  go_ret2
  exact ⟨rfl, HF.out⟩

set_option maxRecDepth 8000 in
set_option maxHeartbeats 4000000 in
theorem ldo_0 (s : FS) (hs : s.Ok) (b : Nat) (dd pg off n : Int) (hdd : (Lit.int .i64 dd).wf = true) (hof : (Lit.int .i64 off).wf = true) (hnw : (Lit.int .i64 n).wf = true) (bv : Value) (ys : List Int) (w : World) (h : FrS w b s) (hy : RdV (Value.int .u8) 0 (fun i => i ≠ b) w bv ys) (hyo : Oct ys) (hn5 : ¬ Int.tmod n 5 = 4) (hk : around dd 10 = 0) : Calls Try.prog 11 #[.pointer (some ⟨b, 0, none⟩), .agg #[.int .i64 dd, .int .i64 pg, .int .i64 off, .int .i64 n, bv]] w fun e w' => e = .returned (.tuple #[.string (strOfNums (doS (around dd 10) s pg off n ys).2.1), .int .i64 (doS (around dd 10) s pg off n ys).2.2]) ∧ FrS w' b (doS (around dd 10) s pg off n ys).1 ∧ UpdS (fun i => i = b) w w' := by
  obtain ⟨ab, cb, hbv⟩ := hy.shape
  subst hbv
  obtain ⟨W0, hW0⟩ : ∃ W0, w.alloc (.cells #[.int .i64 dd, .int .i64 pg, .int .i64 off, .int .i64 n, .slice ab ys.length cb] 37) = W0 := ⟨_, rfl⟩
  obtain ⟨X, hX⟩ : ∃ X, w.heap.size = X := ⟨_, rfl⟩
  have g0 : Grow w W0 := by rw [← hW0]; exact (Grow.refl w).alloc _
  have O0 : VarAt W0 X [.int .i64 dd, .int .i64 pg, .int .i64 off, .int .i64 n, .slice ab ys.length cb] := by rw [← hW0, ← hX]; exact VarAt.new w [.int .i64 dd, .int .i64 pg, .int .i64 off, .int .i64 n, .slice ab ys.length cb] 37
  have F0 : FrS W0 b s := FrAt.grow h g0
  have hblt : b < w.heap.size := FrAt.lt h
  have H0 : Hid (FrS W0 b s ∧ VarAt W0 X [.int .i64 dd, .int .i64 pg, .int .i64 off, .int .i64 n, .slice ab ys.length cb] ∧ Grow w W0 ∧ w.heap.size = X ∧ b < X ∧ X < W0.heap.size) := ⟨F0, O0, g0, hX, by omega, O0.lt⟩
  have HY : Hid (RdV (Value.int .u8) 0 (fun i => i ≠ b) W0 (.slice ab ys.length cb) ys) := hy.grow g0
  have r3 := around_any dd 10 W0 hdd (by omega) (by omega)
  rw [hk] at r3
  rw [hk, doS_load _ _ _ _ _ (by omega) hn5]
  have hfl := fill_any _ ys 32 32 _ W0 rfl HY.out.i (by omega)
  have hfw := fun w' (g : Grow W0 w') => fewB_any _ ys 40 40 _ w' rfl (HY.out.grow g).i (by omega)
  have hc := fun w' (hf : FrS w' b s) v (hv : RdV (Value.int .u8) 0 (fun i => i ≠ b) w' v (fillL ys 32)) => loadS_any s hs w' b hf pg v (fillL ys 32) hv
  generalize loadS s pg (fillL ys 32) = T at hc ⊢
  obtain ⟨s', E⟩ := T
  generalize ys.take 40 = fs at hfw
  generalize fillL ys 32 = A at hc hfl
  obtain ⟨o0, o1, o2, o3, o4⟩ := O0.fives
  clear O0 g0 hy hk h F0 hblt
  go_enter Try.func11, Try.ntmps11
  go_upto_region 1 with fail
  (try rw [hW0])
  (try rw [hX])
  clear hW0 hX
  go_wp2_with fail
  refine r3.mono ?_
  rintro e w0 ⟨rfl, rfl⟩
  clear r3
  obtain ⟨m5, hm5⟩ : ∃ m, Int.tmod n 5 = m := ⟨_, rfl⟩
  have hb5 := tmod5 n
  rw [hm5] at hn5 hb5
  go_wp2_with fail
  refine hfl.mono ?_
  rintro e wf ⟨vf, rfl, of, gf⟩
  obtain ⟨af, cf, rfl⟩ := of.v.shape
  obtain ⟨o0, o1, o2, o3, o4⟩ := (H0.out.2.1.grow gf).fives
  have hl := hc wf (FrAt.grow H0.out.1 gf) _ (of.v.rd.mono (fun i _ hi => by have h2 := H0.out.2.2.2.2; omega))
  have g3 : Grow W0 wf := gf
  have hne5 : ¬ Int.tmod n 5 = 4 := by rw [hm5]; exact hn5
  clear hfl of hfw hc
  go_wp2_with fail
  refine hl.mono ?_
  rintro e w1 ⟨rfl, F1, u1⟩
  have HF : Hid (FrS w1 b s' ∧ UpdS (fun i => i = b) w w1) := ⟨F1, UpdS.trans (H0.out.2.2.1.trans g3).s u1⟩
  clear hl F1 u1 o0 o1 o2 o3 o4
  go_wp2
  go_ret2
  exact ⟨rfl, HF.out⟩

set_option maxRecDepth 8000 in
set_option maxHeartbeats 4000000 in
theorem ldo_1f (s : FS) (hs : s.Ok) (b : Nat) (dd pg off n : Int) (hdd : (Lit.int .i64 dd).wf = true) (hof : (Lit.int .i64 off).wf = true) (hnw : (Lit.int .i64 n).wf = true) (bv : Value) (ys : List Int) (w : World) (h : FrS w b s) (hy : RdV (Value.int .u8) 0 (fun i => i ≠ b) w bv ys) (hyo : Oct ys) (hn5 : Int.tmod n 5 = 4) (hk : around dd 10 = 1) : Calls Try.prog 11 #[.pointer (some ⟨b, 0, none⟩), .agg #[.int .i64 dd, .int .i64 pg, .int .i64 off, .int .i64 n, bv]] w fun e w' => e = .returned (.tuple #[.string (strOfNums (doS (around dd 10) s pg off n ys).2.1), .int .i64 (doS (around dd 10) s pg off n ys).2.2]) ∧ FrS w' b (doS (around dd 10) s pg off n ys).1 ∧ UpdS (fun i => i = b) w w' := by
  obtain ⟨ab, cb, hbv⟩ := hy.shape
  subst hbv
  obtain ⟨W0, hW0⟩ : ∃ W0, w.alloc (.cells #[.int .i64 dd, .int .i64 pg, .int .i64 off, .int .i64 n, .slice ab ys.length cb] 37) = W0 := ⟨_, rfl⟩
  obtain ⟨X, hX⟩ : ∃ X, w.heap.size = X := ⟨_, rfl⟩
  have g0 : Grow w W0 := by rw [← hW0]; exact (Grow.refl w).alloc _
  have O0 : VarAt W0 X [.int .i64 dd, .int .i64 pg, .int .i64 off, .int .i64 n, .slice ab ys.length cb] := by rw [← hW0, ← hX]; exact VarAt.new w [.int .i64 dd, .int .i64 pg, .int .i64 off, .int .i64 n, .slice ab ys.length cb] 37
  have F0 : FrS W0 b s := FrAt.grow h g0
  have hblt : b < w.heap.size := FrAt.lt h
  have H0 : Hid (FrS W0 b s ∧ VarAt W0 X [.int .i64 dd, .int .i64 pg, .int .i64 off, .int .i64 n, .slice ab ys.length cb] ∧ Grow w W0 ∧ w.heap.size = X ∧ b < X ∧ X < W0.heap.size) := ⟨F0, O0, g0, hX, by omega, O0.lt⟩
  have HY : Hid (RdV (Value.int .u8) 0 (fun i => i ≠ b) W0 (.slice ab ys.length cb) ys) := hy.grow g0
  have r3 := around_any dd 10 W0 hdd (by omega) (by omega)
  rw [hk] at r3
  rw [hk, doS_load4 _ _ _ _ _ (by omega) hn5]
  have hfl := fill_any _ ys 32 32 _ W0 rfl HY.out.i (by omega)
  have hfw := fun w' (g : Grow W0 w') => fewB_any _ ys 40 40 _ w' rfl (HY.out.grow g).i (by omega)
  have hc := fun w' (hf : FrS w' b s) v (hv : RdV (Value.int .u8) 0 (fun i => i ≠ b) w' v (ys.take 40)) => loadS_any s hs w' b hf pg v (ys.take 40) hv
  generalize loadS s pg (ys.take 40) = T at hc ⊢
  obtain ⟨s', E⟩ := T
  generalize ys.take 40 = A at hc hfw
  generalize fillL ys 32 = fs at hfl
  obtain ⟨o0, o1, o2, o3, o4⟩ := O0.fives
  clear O0 g0 hy hk h F0 hblt
  go_enter Try.func11, Try.ntmps11
  go_upto_region 1 with fail
  (try rw [hW0])
  (try rw [hX])
  clear hW0 hX
  go_wp2_with fail
  refine r3.mono ?_
  rintro e w0 ⟨rfl, rfl⟩
  clear r3
  obtain ⟨m5, hm5⟩ : ∃ m, Int.tmod n 5 = m := ⟨_, rfl⟩
  have hb5 := tmod5 n
  rw [hm5] at hn5 hb5
  go_wp2_with fail
  refine hfl.mono ?_
  rintro e wf ⟨vf, rfl, of, gf⟩
  obtain ⟨af, cf, rfl⟩ := of.v.shape
  obtain ⟨o0, o1, o2, o3, o4⟩ := (H0.out.2.1.grow gf).fives
  have hw := hfw wf gf
  subst hn5
  clear hfl of
  go_wp2_with fail
  refine hw.mono ?_
  rintro e wg ⟨vg, rfl, og, gg⟩
  obtain ⟨ag, cg, rfl⟩ := og.v.shape
  have hl := hc wg (FrAt.grow H0.out.1 (gf.trans gg)) _ (og.v.rd.mono (fun i _ hi => by have h1 := gf.size; have h2 := H0.out.2.2.2.2; omega))
  have g3 : Grow W0 wg := gf.trans gg
  obtain ⟨o0, o1, o2, o3, o4⟩ := (H0.out.2.1.grow g3).fives
  clear hw og hfw hc
  go_wp2_with fail
  refine hl.mono ?_
  rintro e w1 ⟨rfl, F1, u1⟩
  have HF : Hid (FrS w1 b s' ∧ UpdS (fun i => i = b) w w1) := ⟨F1, UpdS.trans (H0.out.2.2.1.trans g3).s u1⟩
  clear hl F1 u1 o0 o1 o2 o3 o4
  go_wp2
  go_ret2
  exact ⟨rfl, HF.out⟩

set_option maxRecDepth 8000 in
set_option maxHeartbeats 4000000 in
theorem ldo_1 (s : FS) (hs : s.Ok) (b : Nat) (dd pg off n : Int) (hdd : (Lit.int .i64 dd).wf = true) (hof : (Lit.int .i64 off).wf = true) (hnw : (Lit.int .i64 n).wf = true) (bv : Value) (ys : List Int) (w : World) (h : FrS w b s) (hy : RdV (Value.int .u8) 0 (fun i => i ≠ b) w bv ys) (hyo : Oct ys) (hn5 : ¬ Int.tmod n 5 = 4) (hk : around dd 10 = 1) : Calls Try.prog 11 #[.pointer (some ⟨b, 0, none⟩), .agg #[.int .i64 dd, .int .i64 pg, .int .i64 off, .int .i64 n, bv]] w fun e w' => e = .returned (.tuple #[.string (strOfNums (doS (around dd 10) s pg off n ys).2.1), .int .i64 (doS (around dd 10) s pg off n ys).2.2]) ∧ FrS w' b (doS (around dd 10) s pg off n ys).1 ∧ UpdS (fun i => i = b) w w' := by
  obtain ⟨ab, cb, hbv⟩ := hy.shape
  subst hbv
  obtain ⟨W0, hW0⟩ : ∃ W0, w.alloc (.cells #[.int .i64 dd, .int .i64 pg, .int .i64 off, .int .i64 n, .slice ab ys.length cb] 37) = W0 := ⟨_, rfl⟩
  obtain ⟨X, hX⟩ : ∃ X, w.heap.size = X := ⟨_, rfl⟩
  have g0 : Grow w W0 := by rw [← hW0]; exact (Grow.refl w).alloc _
  have O0 : VarAt W0 X [.int .i64 dd, .int .i64 pg, .int .i64 off, .int .i64 n, .slice ab ys.length cb] := by rw [← hW0, ← hX]; exact VarAt.new w [.int .i64 dd, .int .i64 pg, .int .i64 off, .int .i64 n, .slice ab ys.length cb] 37
  have F0 : FrS W0 b s := FrAt.grow h g0
  have hblt : b < w.heap.size := FrAt.lt h
  have H0 : Hid (FrS W0 b s ∧ VarAt W0 X [.int .i64 dd, .int .i64 pg, .int .i64 off, .int .i64 n, .slice ab ys.length cb] ∧ Grow w W0 ∧ w.heap.size = X ∧ b < X ∧ X < W0.heap.size) := ⟨F0, O0, g0, hX, by omega, O0.lt⟩
  have HY : Hid (RdV (Value.int .u8) 0 (fun i => i ≠ b) W0 (.slice ab ys.length cb) ys) := hy.grow g0
  have r3 := around_any dd 10 W0 hdd (by omega) (by omega)
  rw [hk] at r3
  rw [hk, doS_load _ _ _ _ _ (by omega) hn5]
  have hfl := fill_any _ ys 32 32 _ W0 rfl HY.out.i (by omega)
  have hfw := fun w' (g : Grow W0 w') => fewB_any _ ys 40 40 _ w' rfl (HY.out.grow g).i (by omega)
  have hc := fun w' (hf : FrS w' b s) v (hv : RdV (Value.int .u8) 0 (fun i => i ≠ b) w' v (fillL ys 32)) => loadS_any s hs w' b hf pg v (fillL ys 32) hv
  generalize loadS s pg (fillL ys 32) = T at hc ⊢
  obtain ⟨s', E⟩ := T
  generalize ys.take 40 = fs at hfw
  generalize fillL ys 32 = A at hc hfl
  obtain ⟨o0, o1, o2, o3, o4⟩ := O0.fives
  clear O0 g0 hy hk h F0 hblt
  go_enter Try.func11, Try.ntmps11
  go_upto_region 1 with fail
  (try rw [hW0])
  (try rw [hX])
  clear hW0 hX
  go_wp2_with fail
  refine r3.mono ?_
  rintro e w0 ⟨rfl, rfl⟩
  clear r3
  obtain ⟨m5, hm5⟩ : ∃ m, Int.tmod n 5 = m := ⟨_, rfl⟩
  have hb5 := tmod5 n
  rw [hm5] at hn5 hb5
  go_wp2_with fail
  refine hfl.mono ?_
  rintro e wf ⟨vf, rfl, of, gf⟩
  obtain ⟨af, cf, rfl⟩ := of.v.shape
  obtain ⟨o0, o1, o2, o3, o4⟩ := (H0.out.2.1.grow gf).fives
  have hl := hc wf (FrAt.grow H0.out.1 gf) _ (of.v.rd.mono (fun i _ hi => by have h2 := H0.out.2.2.2.2; omega))
  have g3 : Grow W0 wf := gf
  have hne5 : ¬ Int.tmod n 5 = 4 := by rw [hm5]; exact hn5
  clear hfl of hfw hc
  go_wp2_with fail
  refine hl.mono ?_
  rintro e w1 ⟨rfl, F1, u1⟩
  have HF : Hid (FrS w1 b s' ∧ UpdS (fun i => i = b) w w1) := ⟨F1, UpdS.trans (H0.out.2.2.1.trans g3).s u1⟩
  clear hl F1 u1 o0 o1 o2 o3 o4
  go_wp2
  go_ret2
  exact ⟨rfl, HF.out⟩

theorem ten {k : Int} (h : 0 ≤ k ∧ k < 10) : k = 0 ∨ k = 1 ∨ k = 2 ∨ k = 3 ∨ k = 4 ∨ k = 5 ∨ k = 6 ∨ k = 7 ∨ k = 8 ∨ k = 9 := by omega
theorem ldo_any (s : FS) (hs : s.Ok) (b : Nat) (dd pg off n : Int) (hdd : (Lit.int .i64 dd).wf = true) (hof : (Lit.int .i64 off).wf = true) (hnw : (Lit.int .i64 n).wf = true) (bv : Value) (ys : List Int) (w : World) (h : FrS w b s) (hy : RdV (Value.int .u8) 0 (fun i => i ≠ b) w bv ys) (hyo : Oct ys) : Calls Try.prog 11 #[.pointer (some ⟨b, 0, none⟩), .agg #[.int .i64 dd, .int .i64 pg, .int .i64 off, .int .i64 n, bv]] w fun e w' => e = .returned (.tuple #[.string (strOfNums (doS (around dd 10) s pg off n ys).2.1), .int .i64 (doS (around dd 10) s pg off n ys).2.2]) ∧ FrS w' b (doS (around dd 10) s pg off n ys).1 ∧ UpdS (fun i => i = b) w w' := by
  by_cases hn5 : Int.tmod n 5 = 4
  · rcases ten (around_bd dd 10 (by omega)) with hk | hk | hk | hk | hk | hk | hk | hk | hk | hk
    · exact ldo_0f s hs b dd pg off n hdd hof hnw bv ys w h hy hyo hn5 hk
    · exact ldo_1f s hs b dd pg off n hdd hof hnw bv ys w h hy hyo hn5 hk
    · exact ldo_2 s hs b dd pg off n hdd hof hnw bv ys w h hy hyo hk
    · exact ldo_3 s hs b dd pg off n hdd hof hnw bv ys w h hy hyo hk
    · exact ldo_4 s hs b dd pg off n hdd hof hnw bv ys w h hy hyo hk
    · exact ldo_5 s hs b dd pg off n hdd hof hnw bv ys w h hy hyo hk
    · exact ldo_6 s hs b dd pg off n hdd hof hnw bv ys w h hy hyo hk
    · exact ldo_7 s hs b dd pg off n hdd hof hnw bv ys w h hy hyo hk
    · exact ldo_8 s hs b dd pg off n hdd hof hnw bv ys w h hy hyo hk
    · exact ldo_9 s hs b dd pg off n hdd hof hnw bv ys w h hy hyo hk
  · rcases ten (around_bd dd 10 (by omega)) with hk | hk | hk | hk | hk | hk | hk | hk | hk | hk
    · exact ldo_0 s hs b dd pg off n hdd hof hnw bv ys w h hy hyo hn5 hk
    · exact ldo_1 s hs b dd pg off n hdd hof hnw bv ys w h hy hyo hn5 hk
    · exact ldo_2 s hs b dd pg off n hdd hof hnw bv ys w h hy hyo hk
    · exact ldo_3 s hs b dd pg off n hdd hof hnw bv ys w h hy hyo hk
    · exact ldo_4 s hs b dd pg off n hdd hof hnw bv ys w h hy hyo hk
    · exact ldo_5 s hs b dd pg off n hdd hof hnw bv ys w h hy hyo hk
    · exact ldo_6 s hs b dd pg off n hdd hof hnw bv ys w h hy hyo hk
    · exact ldo_7 s hs b dd pg off n hdd hof hnw bv ys w h hy hyo hk
    · exact ldo_8 s hs b dd pg off n hdd hof hnw bv ys w h hy hyo hk
    · exact ldo_9 s hs b dd pg off n hdd hof hnw bv ys w h hy hyo hk
end Go.Proofs.Ytcmehefaceaioaa
