/-
  What is done with a frame, as a function; the walk of the document's Do. Conditions: each theorem's own.
-/
import Derived.Test.YtcmehefaceaioaaFraS
import Derived.Test.YtcmehefaceaioaaCelFill
import Derived.Test.YtcmehefaceaioaaBase
import Derived.Test.YtcmehefaceaioaaTree
import Derived.Deep.CutRange
namespace Go.Proofs.Ytcmehefaceaioaa
open Go.RowKit
set_option linter.unusedVariables false
set_option linter.unusedSimpArgs false

/-- what is done; what is told -/
def doS (k : Int) (s : FS) (pg off n : Int) (ys : List Int) : FS × List Int × Int :=
  if k = 2 ∨ k = 3 ∨ k = 4 then ((pinS s).1, [], (pinS s).2)
  else if k = 5 then ((unpinS s).1, [], (unpinS s).2)
  else if k = 6 then getS s off n
  else if k = 7 ∨ k = 8 then ((putS s off (ys.take 40)).1, [], (putS s off (ys.take 40)).2)
  else if k = 9 then (FS.empty, [], 0)
  else ((loadS s pg (if Int.tmod n 5 = 4 then ys.take 40 else fillL ys 32)).1, [], (loadS s pg (if Int.tmod n 5 = 4 then ys.take 40 else fillL ys 32)).2)
section
variable {k : Int} (s : FS) (pg off n : Int) (ys : List Int)
theorem doS_pin (h : k = 2 ∨ k = 3 ∨ k = 4) : doS k s pg off n ys = ((pinS s).1, [], (pinS s).2) := by unfold doS; rw [if_pos h]
theorem doS_unpin (h : k = 5) : doS k s pg off n ys = ((unpinS s).1, [], (unpinS s).2) := by unfold doS; rw [if_neg (by omega), if_pos h]
theorem doS_get (h : k = 6) : doS k s pg off n ys = getS s off n := by unfold doS; rw [if_neg (by omega), if_neg (by omega), if_pos h]
theorem doS_put (h : k = 7 ∨ k = 8) : doS k s pg off n ys = ((putS s off (ys.take 40)).1, [], (putS s off (ys.take 40)).2) := by unfold doS; rw [if_neg (by omega), if_neg (by omega), if_neg (by omega), if_pos h]
theorem doS_zero (h : k = 9) : doS k s pg off n ys = (FS.empty, [], 0) := by unfold doS; rw [if_neg (by omega), if_neg (by omega), if_neg (by omega), if_neg (by omega), if_pos h]
theorem doS_load4 (h : k = 0 ∨ k = 1) (hn : Int.tmod n 5 = 4) : doS k s pg off n ys = ((loadS s pg (ys.take 40)).1, [], (loadS s pg (ys.take 40)).2) := by unfold doS; rw [if_neg (by omega), if_neg (by omega), if_neg (by omega), if_neg (by omega), if_neg (by omega), if_pos hn]
theorem doS_load (h : k = 0 ∨ k = 1) (hn : ¬ Int.tmod n 5 = 4) : doS k s pg off n ys = ((loadS s pg (fillL ys 32)).1, [], (loadS s pg (fillL ys 32)).2) := by unfold doS; rw [if_neg (by omega), if_neg (by omega), if_neg (by omega), if_neg (by omega), if_neg (by omega), if_neg hn]
end
theorem doS_ok {k : Int} {s : FS} (h : s.Ok) (pg off n : Int) {ys : List Int} (hy : Oct ys) : (doS k s pg off n ys).1.Ok := by
  unfold doS
  split
  · exact pinS_ok h
  · split
    · exact unpinS_ok h
    · split
      · exact getS_ok h _ _
      · split
        · exact putS_ok h _ (hy.take _)
        · split
          · exact FS.empty_ok
          · refine loadS_ok h _ ?_
            split
            · exact hy.take _
            · exact oct_fill hy _
theorem tmod5 (x : Int) : -5 < Int.tmod x 5 ∧ Int.tmod x 5 < 5 := by
  have h := Int.natAbs_tmod x 5
  have h2 : x.natAbs % (5 : Int).natAbs < 5 := Nat.mod_lt _ (by decide)
  omega
theorem exec_allocF {P : Program} {w : World} {ev : Operand → Value} {d : Option Tmp} {t ty : TypeId} {p : String} {af : Array Edge} {g : Option (Nat × Bool)} (cs : Array Value) (hz : ∀ w, (zeroValue t).run P w = .ok (.agg cs) w) :
    (execOp ev ⟨d, .alloc t, ty, p, af, g⟩).run P w = .ok (.value (.pointer (some ⟨w.heap.size, 0, none⟩))) (w.alloc (.cells cs t)) := by
  have hrun : (Instr.alloc t true (.tuple #[])).run P w = .ok (.pointer (some ⟨w.heap.size, 0, none⟩)) (w.alloc (.cells cs t)) := by
    simp [Instr.alloc, hz, newVar, newRow, Value.cells, Result.andThen]
  simp [execOp, hrun, Result.andThen]
theorem zeroRF (w : World) : (zeroValue 30).run Try.prog w = .ok (.agg #[.bool false, .bool false, .bool false, .int .i64 0, .int .i64 0, .string ⟨#[]⟩]) w := by kernel_rfl
theorem VarAt.fives {w : World} {b : Nat} {x y z t u : Value} (h : VarAt w b [x, y, z, t, u]) : w.cell? ⟨b, 0, none⟩ = some x ∧ w.cell? ⟨b, 1, none⟩ = some y ∧ w.cell? ⟨b, 2, none⟩ = some z ∧ w.cell? ⟨b, 3, none⟩ = some t ∧ w.cell? ⟨b, 4, none⟩ = some u :=
  ⟨(h.2 0 (by simp)).1, (h.2 1 (by simp)).1, (h.2 2 (by simp)).1, (h.2 3 (by simp)).1, (h.2 4 (by simp)).1⟩

set_option maxRecDepth 8000 in
set_option maxHeartbeats 4000000 in
theorem rdo_2 (s : FS) (hs : s.Ok) (dd pg off n : Int) (hdd : (Lit.int .i64 dd).wf = true) (hof : (Lit.int .i64 off).wf = true) (hnw : (Lit.int .i64 n).wf = true) (bv : Value) (ys : List Int) (w : World) (hy : RdV (Value.int .u8) 0 (fun i => i < w.heap.size) w bv ys) (hyo : Oct ys) (hk : around dd 10 = 2) : Calls Try.prog 10 #[s.v, .agg #[.int .i64 dd, .int .i64 pg, .int .i64 off, .int .i64 n, bv]] w fun e w' => e = .returned (.tuple #[(doS (around dd 10) s pg off n ys).1.v, .string (strOfNums (doS (around dd 10) s pg off n ys).2.1), .int .i64 (doS (around dd 10) s pg off n ys).2.2]) ∧ Grow w w' := by
  obtain ⟨ab, cb, hbv⟩ := hy.shape
  subst hbv
  obtain ⟨u, d, r, p, q, bs⟩ := s
  obtain ⟨W0, hW0⟩ : ∃ W0, ((w.alloc (.cells #[.bool u, .bool d, .bool r, .int .i64 p, .int .i64 q, .string (strOfNums bs)] 30)).alloc (.cells #[.int .i64 dd, .int .i64 pg, .int .i64 off, .int .i64 n, .slice ab ys.length cb] 37)).alloc (.cells #[.bool false, .bool false, .bool false, .int .i64 0, .int .i64 0, .string ⟨#[]⟩] 30) = W0 := ⟨_, rfl⟩
  obtain ⟨X, hX⟩ : ∃ X, w.heap.size = X := ⟨_, rfl⟩
  have g0 : Grow w W0 := by rw [← hW0]; exact (((Grow.refl w).alloc _).alloc _).alloc _
  have V0 : VarAt W0 X [.bool u, .bool d, .bool r, .int .i64 p, .int .i64 q, .string (strOfNums bs)] := by rw [← hW0, ← hX]; exact ((VarAt.new w [.bool u, .bool d, .bool r, .int .i64 p, .int .i64 q, .string (strOfNums bs)] 30).old _).old _
  have O0 : VarAt W0 (X + 1) [.int .i64 dd, .int .i64 pg, .int .i64 off, .int .i64 n, .slice ab ys.length cb] := by rw [← hW0, ← hX]; exact (VarAt.new2 w _ [.int .i64 dd, .int .i64 pg, .int .i64 off, .int .i64 n, .slice ab ys.length cb] 37).old _
  have Z0 : VarAt W0 (X + 1 + 1) [.bool false, .bool false, .bool false, .int .i64 0, .int .i64 0, .string ⟨#[]⟩] := by rw [← hW0, ← hX]; exact VarAt.new3 w _ _ [.bool false, .bool false, .bool false, .int .i64 0, .int .i64 0, .string ⟨#[]⟩] 30
  have H0 : Hid (VarAt W0 X [.bool u, .bool d, .bool r, .int .i64 p, .int .i64 q, .string (strOfNums bs)] ∧ VarAt W0 (X + 1) [.int .i64 dd, .int .i64 pg, .int .i64 off, .int .i64 n, .slice ab ys.length cb] ∧ VarAt W0 (X + 1 + 1) [.bool false, .bool false, .bool false, .int .i64 0, .int .i64 0, .string ⟨#[]⟩] ∧ Grow w W0 ∧ w.heap.size = X) := ⟨V0, O0, Z0, g0, hX⟩
  have HY : Hid (RdV (Value.int .u8) 0 (fun i => i < W0.heap.size) W0 (.slice ab ys.length cb) ys) := (hy.mono (fun i hi _ => by have := g0.size; omega)).grow g0
  have r3 := around_any dd 10 W0 hdd (by omega) (by omega)
  rw [hk] at r3
  rw [hk, doS_pin _ _ _ _ _ (by omega)]
  have hc := rpinS_any ⟨u, d, r, p, q, bs⟩ hs W0
  generalize pinS ⟨u, d, r, p, q, bs⟩ = T at hc ⊢
  obtain ⟨⟨u', d', r', p', q', bs'⟩, E⟩ := T
  simp only [FS.v] at hc ⊢
  obtain ⟨⟨x0, x1, x2, x3, x4, x5⟩, -⟩ := V0.six
  obtain ⟨o0, o1, o2, o3, o4⟩ := O0.fives
  clear V0 O0 Z0 g0 hy hk
  go_enter Try.func10, Try.ntmps10
  go_upto_region 1 with fail
  (try rw [hW0])
  (try rw [hX])
  clear hW0 hX
  go_wp2_with fail
  refine r3.mono ?_
  rintro e w0 ⟨rfl, rfl⟩
  clear r3
  go_wp2_with fail
  refine hc.mono ?_
  rintro e w1 ⟨rfl, g1⟩
  clear hc x0 x1 x2 x3 x4 x5 o0 o1 o2 o3 o4
  obtain ⟨W2, hW2⟩ : ∃ W2, w1.alloc (.cells #[.bool u', .bool d', .bool r', .int .i64 p', .int .i64 q', .string (strOfNums bs')] 30) = W2 := ⟨_, rfl⟩
  obtain ⟨M, hM⟩ : ∃ M, w1.heap.size = M := ⟨_, rfl⟩
  have V2 : VarAt W2 M [.bool u', .bool d', .bool r', .int .i64 p', .int .i64 q', .string (strOfNums bs')] := by rw [← hW2, ← hM]; exact VarAt.new w1 [.bool u', .bool d', .bool r', .int .i64 p', .int .i64 q', .string (strOfNums bs')] 30
  have g2 : Grow W0 W2 := by rw [← hW2]; exact g1.alloc _
  have Z2 := H0.out.2.2.1.grow g2
  have H2 : Hid (VarAt W2 M [.bool u', .bool d', .bool r', .int .i64 p', .int .i64 q', .string (strOfNums bs')] ∧ VarAt W2 (X + 1 + 1) [.bool false, .bool false, .bool false, .int .i64 0, .int .i64 0, .string ⟨#[]⟩] ∧ Grow w W2) := ⟨V2, Z2, H0.out.2.2.2.1.trans g2⟩
  clear V2 Z2 g2 g1
  go_upto_region 6 with fail
  (try rw [hW2])
  (try rw [hM])
  clear hW2 hM
  obtain ⟨⟨x0, x1, x2, x3, x4, x5⟩, -⟩ := H2.out.1.six
  obtain ⟨⟨y0, y1, y2, y3, y4, y5⟩, f0, f1, f2, f3, f4, f5⟩ := H2.out.2.1.six
  have HF : Hid (VarAt (put6 W2 (X + 1 + 1) (.bool u') (.bool d') (.bool r') (.int .i64 p') (.int .i64 q') (.string (strOfNums bs'))) (X + 1 + 1) [.bool u', .bool d', .bool r', .int .i64 p', .int .i64 q', .string (strOfNums bs')] ∧ Grow w (put6 W2 (X + 1 + 1) (.bool u') (.bool d') (.bool r') (.int .i64 p') (.int .i64 q') (.string (strOfNums bs')))) := ⟨H2.out.2.1.put6 _ _ _ _ _ _, UpdS.new H2.out.2.2 (upd_put6 _ _ _ _ _ _ _ _) (fun i hi => by have := H0.out.2.2.2.2; omega)⟩
  unfold put6 at HF
  go_wp2
  exact bodyPost_ret_by (results_cell_tmp2 rfl _ _ _ _ rfl (load_F _ _ _ _ _ _ _ _ HF.out.1)) rfl ⟨rfl, HF.out.2⟩

set_option maxRecDepth 8000 in
set_option maxHeartbeats 4000000 in
theorem rdo_3 (s : FS) (hs : s.Ok) (dd pg off n : Int) (hdd : (Lit.int .i64 dd).wf = true) (hof : (Lit.int .i64 off).wf = true) (hnw : (Lit.int .i64 n).wf = true) (bv : Value) (ys : List Int) (w : World) (hy : RdV (Value.int .u8) 0 (fun i => i < w.heap.size) w bv ys) (hyo : Oct ys) (hk : around dd 10 = 3) : Calls Try.prog 10 #[s.v, .agg #[.int .i64 dd, .int .i64 pg, .int .i64 off, .int .i64 n, bv]] w fun e w' => e = .returned (.tuple #[(doS (around dd 10) s pg off n ys).1.v, .string (strOfNums (doS (around dd 10) s pg off n ys).2.1), .int .i64 (doS (around dd 10) s pg off n ys).2.2]) ∧ Grow w w' := by
  obtain ⟨ab, cb, hbv⟩ := hy.shape
  subst hbv
  obtain ⟨u, d, r, p, q, bs⟩ := s
  obtain ⟨W0, hW0⟩ : ∃ W0, ((w.alloc (.cells #[.bool u, .bool d, .bool r, .int .i64 p, .int .i64 q, .string (strOfNums bs)] 30)).alloc (.cells #[.int .i64 dd, .int .i64 pg, .int .i64 off, .int .i64 n, .slice ab ys.length cb] 37)).alloc (.cells #[.bool false, .bool false, .bool false, .int .i64 0, .int .i64 0, .string ⟨#[]⟩] 30) = W0 := ⟨_, rfl⟩
  obtain ⟨X, hX⟩ : ∃ X, w.heap.size = X := ⟨_, rfl⟩
  have g0 : Grow w W0 := by rw [← hW0]; exact (((Grow.refl w).alloc _).alloc _).alloc _
  have V0 : VarAt W0 X [.bool u, .bool d, .bool r, .int .i64 p, .int .i64 q, .string (strOfNums bs)] := by rw [← hW0, ← hX]; exact ((VarAt.new w [.bool u, .bool d, .bool r, .int .i64 p, .int .i64 q, .string (strOfNums bs)] 30).old _).old _
  have O0 : VarAt W0 (X + 1) [.int .i64 dd, .int .i64 pg, .int .i64 off, .int .i64 n, .slice ab ys.length cb] := by rw [← hW0, ← hX]; exact (VarAt.new2 w _ [.int .i64 dd, .int .i64 pg, .int .i64 off, .int .i64 n, .slice ab ys.length cb] 37).old _
  have Z0 : VarAt W0 (X + 1 + 1) [.bool false, .bool false, .bool false, .int .i64 0, .int .i64 0, .string ⟨#[]⟩] := by rw [← hW0, ← hX]; exact VarAt.new3 w _ _ [.bool false, .bool false, .bool false, .int .i64 0, .int .i64 0, .string ⟨#[]⟩] 30
  have H0 : Hid (VarAt W0 X [.bool u, .bool d, .bool r, .int .i64 p, .int .i64 q, .string (strOfNums bs)] ∧ VarAt W0 (X + 1) [.int .i64 dd, .int .i64 pg, .int .i64 off, .int .i64 n, .slice ab ys.length cb] ∧ VarAt W0 (X + 1 + 1) [.bool false, .bool false, .bool false, .int .i64 0, .int .i64 0, .string ⟨#[]⟩] ∧ Grow w W0 ∧ w.heap.size = X) := ⟨V0, O0, Z0, g0, hX⟩
  have HY : Hid (RdV (Value.int .u8) 0 (fun i => i < W0.heap.size) W0 (.slice ab ys.length cb) ys) := (hy.mono (fun i hi _ => by have := g0.size; omega)).grow g0
  have r3 := around_any dd 10 W0 hdd (by omega) (by omega)
  rw [hk] at r3
  rw [hk, doS_pin _ _ _ _ _ (by omega)]
  have hc := rpinS_any ⟨u, d, r, p, q, bs⟩ hs W0
  generalize pinS ⟨u, d, r, p, q, bs⟩ = T at hc ⊢
  obtain ⟨⟨u', d', r', p', q', bs'⟩, E⟩ := T
  simp only [FS.v] at hc ⊢
  obtain ⟨⟨x0, x1, x2, x3, x4, x5⟩, -⟩ := V0.six
  obtain ⟨o0, o1, o2, o3, o4⟩ := O0.fives
  clear V0 O0 Z0 g0 hy hk
  go_enter Try.func10, Try.ntmps10
  go_upto_region 1 with fail
  (try rw [hW0])
  (try rw [hX])
  clear hW0 hX
  go_wp2_with fail
  refine r3.mono ?_
  rintro e w0 ⟨rfl, rfl⟩
  clear r3
  go_wp2_with fail
  refine hc.mono ?_
  rintro e w1 ⟨rfl, g1⟩
  clear hc x0 x1 x2 x3 x4 x5 o0 o1 o2 o3 o4
  obtain ⟨W2, hW2⟩ : ∃ W2, w1.alloc (.cells #[.bool u', .bool d', .bool r', .int .i64 p', .int .i64 q', .string (strOfNums bs')] 30) = W2 := ⟨_, rfl⟩
  obtain ⟨M, hM⟩ : ∃ M, w1.heap.size = M := ⟨_, rfl⟩
  have V2 : VarAt W2 M [.bool u', .bool d', .bool r', .int .i64 p', .int .i64 q', .string (strOfNums bs')] := by rw [← hW2, ← hM]; exact VarAt.new w1 [.bool u', .bool d', .bool r', .int .i64 p', .int .i64 q', .string (strOfNums bs')] 30
  have g2 : Grow W0 W2 := by rw [← hW2]; exact g1.alloc _
  have Z2 := H0.out.2.2.1.grow g2
  have H2 : Hid (VarAt W2 M [.bool u', .bool d', .bool r', .int .i64 p', .int .i64 q', .string (strOfNums bs')] ∧ VarAt W2 (X + 1 + 1) [.bool false, .bool false, .bool false, .int .i64 0, .int .i64 0, .string ⟨#[]⟩] ∧ Grow w W2) := ⟨V2, Z2, H0.out.2.2.2.1.trans g2⟩
  clear V2 Z2 g2 g1
  go_upto_region 6 with fail
  (try rw [hW2])
  (try rw [hM])
  clear hW2 hM
  obtain ⟨⟨x0, x1, x2, x3, x4, x5⟩, -⟩ := H2.out.1.six
  obtain ⟨⟨y0, y1, y2, y3, y4, y5⟩, f0, f1, f2, f3, f4, f5⟩ := H2.out.2.1.six
  have HF : Hid (VarAt (put6 W2 (X + 1 + 1) (.bool u') (.bool d') (.bool r') (.int .i64 p') (.int .i64 q') (.string (strOfNums bs'))) (X + 1 + 1) [.bool u', .bool d', .bool r', .int .i64 p', .int .i64 q', .string (strOfNums bs')] ∧ Grow w (put6 W2 (X + 1 + 1) (.bool u') (.bool d') (.bool r') (.int .i64 p') (.int .i64 q') (.string (strOfNums bs')))) := ⟨H2.out.2.1.put6 _ _ _ _ _ _, UpdS.new H2.out.2.2 (upd_put6 _ _ _ _ _ _ _ _) (fun i hi => by have := H0.out.2.2.2.2; omega)⟩
  unfold put6 at HF
  go_wp2
  exact bodyPost_ret_by (results_cell_tmp2 rfl _ _ _ _ rfl (load_F _ _ _ _ _ _ _ _ HF.out.1)) rfl ⟨rfl, HF.out.2⟩

set_option maxRecDepth 8000 in
set_option maxHeartbeats 4000000 in
theorem rdo_4 (s : FS) (hs : s.Ok) (dd pg off n : Int) (hdd : (Lit.int .i64 dd).wf = true) (hof : (Lit.int .i64 off).wf = true) (hnw : (Lit.int .i64 n).wf = true) (bv : Value) (ys : List Int) (w : World) (hy : RdV (Value.int .u8) 0 (fun i => i < w.heap.size) w bv ys) (hyo : Oct ys) (hk : around dd 10 = 4) : Calls Try.prog 10 #[s.v, .agg #[.int .i64 dd, .int .i64 pg, .int .i64 off, .int .i64 n, bv]] w fun e w' => e = .returned (.tuple #[(doS (around dd 10) s pg off n ys).1.v, .string (strOfNums (doS (around dd 10) s pg off n ys).2.1), .int .i64 (doS (around dd 10) s pg off n ys).2.2]) ∧ Grow w w' := by
  obtain ⟨ab, cb, hbv⟩ := hy.shape
  subst hbv
  obtain ⟨u, d, r, p, q, bs⟩ := s
  obtain ⟨W0, hW0⟩ : ∃ W0, ((w.alloc (.cells #[.bool u, .bool d, .bool r, .int .i64 p, .int .i64 q, .string (strOfNums bs)] 30)).alloc (.cells #[.int .i64 dd, .int .i64 pg, .int .i64 off, .int .i64 n, .slice ab ys.length cb] 37)).alloc (.cells #[.bool false, .bool false, .bool false, .int .i64 0, .int .i64 0, .string ⟨#[]⟩] 30) = W0 := ⟨_, rfl⟩
  obtain ⟨X, hX⟩ : ∃ X, w.heap.size = X := ⟨_, rfl⟩
  have g0 : Grow w W0 := by rw [← hW0]; exact (((Grow.refl w).alloc _).alloc _).alloc _
  have V0 : VarAt W0 X [.bool u, .bool d, .bool r, .int .i64 p, .int .i64 q, .string (strOfNums bs)] := by rw [← hW0, ← hX]; exact ((VarAt.new w [.bool u, .bool d, .bool r, .int .i64 p, .int .i64 q, .string (strOfNums bs)] 30).old _).old _
  have O0 : VarAt W0 (X + 1) [.int .i64 dd, .int .i64 pg, .int .i64 off, .int .i64 n, .slice ab ys.length cb] := by rw [← hW0, ← hX]; exact (VarAt.new2 w _ [.int .i64 dd, .int .i64 pg, .int .i64 off, .int .i64 n, .slice ab ys.length cb] 37).old _
  have Z0 : VarAt W0 (X + 1 + 1) [.bool false, .bool false, .bool false, .int .i64 0, .int .i64 0, .string ⟨#[]⟩] := by rw [← hW0, ← hX]; exact VarAt.new3 w _ _ [.bool false, .bool false, .bool false, .int .i64 0, .int .i64 0, .string ⟨#[]⟩] 30
  have H0 : Hid (VarAt W0 X [.bool u, .bool d, .bool r, .int .i64 p, .int .i64 q, .string (strOfNums bs)] ∧ VarAt W0 (X + 1) [.int .i64 dd, .int .i64 pg, .int .i64 off, .int .i64 n, .slice ab ys.length cb] ∧ VarAt W0 (X + 1 + 1) [.bool false, .bool false, .bool false, .int .i64 0, .int .i64 0, .string ⟨#[]⟩] ∧ Grow w W0 ∧ w.heap.size = X) := ⟨V0, O0, Z0, g0, hX⟩
  have HY : Hid (RdV (Value.int .u8) 0 (fun i => i < W0.heap.size) W0 (.slice ab ys.length cb) ys) := (hy.mono (fun i hi _ => by have := g0.size; omega)).grow g0
  have r3 := around_any dd 10 W0 hdd (by omega) (by omega)
  rw [hk] at r3
  rw [hk, doS_pin _ _ _ _ _ (by omega)]
  have hc := rpinS_any ⟨u, d, r, p, q, bs⟩ hs W0
  generalize pinS ⟨u, d, r, p, q, bs⟩ = T at hc ⊢
  obtain ⟨⟨u', d', r', p', q', bs'⟩, E⟩ := T
  simp only [FS.v] at hc ⊢
  obtain ⟨⟨x0, x1, x2, x3, x4, x5⟩, -⟩ := V0.six
  obtain ⟨o0, o1, o2, o3, o4⟩ := O0.fives
  clear V0 O0 Z0 g0 hy hk
  go_enter Try.func10, Try.ntmps10
  go_upto_region 1 with fail
  (try rw [hW0])
  (try rw [hX])
  clear hW0 hX
  go_wp2_with fail
  refine r3.mono ?_
  rintro e w0 ⟨rfl, rfl⟩
  clear r3
  go_wp2_with fail
  refine hc.mono ?_
  rintro e w1 ⟨rfl, g1⟩
  clear hc x0 x1 x2 x3 x4 x5 o0 o1 o2 o3 o4
  obtain ⟨W2, hW2⟩ : ∃ W2, w1.alloc (.cells #[.bool u', .bool d', .bool r', .int .i64 p', .int .i64 q', .string (strOfNums bs')] 30) = W2 := ⟨_, rfl⟩
  obtain ⟨M, hM⟩ : ∃ M, w1.heap.size = M := ⟨_, rfl⟩
  have V2 : VarAt W2 M [.bool u', .bool d', .bool r', .int .i64 p', .int .i64 q', .string (strOfNums bs')] := by rw [← hW2, ← hM]; exact VarAt.new w1 [.bool u', .bool d', .bool r', .int .i64 p', .int .i64 q', .string (strOfNums bs')] 30
  have g2 : Grow W0 W2 := by rw [← hW2]; exact g1.alloc _
  have Z2 := H0.out.2.2.1.grow g2
  have H2 : Hid (VarAt W2 M [.bool u', .bool d', .bool r', .int .i64 p', .int .i64 q', .string (strOfNums bs')] ∧ VarAt W2 (X + 1 + 1) [.bool false, .bool false, .bool false, .int .i64 0, .int .i64 0, .string ⟨#[]⟩] ∧ Grow w W2) := ⟨V2, Z2, H0.out.2.2.2.1.trans g2⟩
  clear V2 Z2 g2 g1
  go_upto_region 6 with fail
  (try rw [hW2])
  (try rw [hM])
  clear hW2 hM
  obtain ⟨⟨x0, x1, x2, x3, x4, x5⟩, -⟩ := H2.out.1.six
  obtain ⟨⟨y0, y1, y2, y3, y4, y5⟩, f0, f1, f2, f3, f4, f5⟩ := H2.out.2.1.six
  have HF : Hid (VarAt (put6 W2 (X + 1 + 1) (.bool u') (.bool d') (.bool r') (.int .i64 p') (.int .i64 q') (.string (strOfNums bs'))) (X + 1 + 1) [.bool u', .bool d', .bool r', .int .i64 p', .int .i64 q', .string (strOfNums bs')] ∧ Grow w (put6 W2 (X + 1 + 1) (.bool u') (.bool d') (.bool r') (.int .i64 p') (.int .i64 q') (.string (strOfNums bs')))) := ⟨H2.out.2.1.put6 _ _ _ _ _ _, UpdS.new H2.out.2.2 (upd_put6 _ _ _ _ _ _ _ _) (fun i hi => by have := H0.out.2.2.2.2; omega)⟩
  unfold put6 at HF
  go_wp2
  exact bodyPost_ret_by (results_cell_tmp2 rfl _ _ _ _ rfl (load_F _ _ _ _ _ _ _ _ HF.out.1)) rfl ⟨rfl, HF.out.2⟩

set_option maxRecDepth 8000 in
set_option maxHeartbeats 4000000 in
theorem rdo_5 (s : FS) (hs : s.Ok) (dd pg off n : Int) (hdd : (Lit.int .i64 dd).wf = true) (hof : (Lit.int .i64 off).wf = true) (hnw : (Lit.int .i64 n).wf = true) (bv : Value) (ys : List Int) (w : World) (hy : RdV (Value.int .u8) 0 (fun i => i < w.heap.size) w bv ys) (hyo : Oct ys) (hk : around dd 10 = 5) : Calls Try.prog 10 #[s.v, .agg #[.int .i64 dd, .int .i64 pg, .int .i64 off, .int .i64 n, bv]] w fun e w' => e = .returned (.tuple #[(doS (around dd 10) s pg off n ys).1.v, .string (strOfNums (doS (around dd 10) s pg off n ys).2.1), .int .i64 (doS (around dd 10) s pg off n ys).2.2]) ∧ Grow w w' := by
  obtain ⟨ab, cb, hbv⟩ := hy.shape
  subst hbv
  obtain ⟨u, d, r, p, q, bs⟩ := s
  obtain ⟨W0, hW0⟩ : ∃ W0, ((w.alloc (.cells #[.bool u, .bool d, .bool r, .int .i64 p, .int .i64 q, .string (strOfNums bs)] 30)).alloc (.cells #[.int .i64 dd, .int .i64 pg, .int .i64 off, .int .i64 n, .slice ab ys.length cb] 37)).alloc (.cells #[.bool false, .bool false, .bool false, .int .i64 0, .int .i64 0, .string ⟨#[]⟩] 30) = W0 := ⟨_, rfl⟩
  obtain ⟨X, hX⟩ : ∃ X, w.heap.size = X := ⟨_, rfl⟩
  have g0 : Grow w W0 := by rw [← hW0]; exact (((Grow.refl w).alloc _).alloc _).alloc _
  have V0 : VarAt W0 X [.bool u, .bool d, .bool r, .int .i64 p, .int .i64 q, .string (strOfNums bs)] := by rw [← hW0, ← hX]; exact ((VarAt.new w [.bool u, .bool d, .bool r, .int .i64 p, .int .i64 q, .string (strOfNums bs)] 30).old _).old _
  have O0 : VarAt W0 (X + 1) [.int .i64 dd, .int .i64 pg, .int .i64 off, .int .i64 n, .slice ab ys.length cb] := by rw [← hW0, ← hX]; exact (VarAt.new2 w _ [.int .i64 dd, .int .i64 pg, .int .i64 off, .int .i64 n, .slice ab ys.length cb] 37).old _
  have Z0 : VarAt W0 (X + 1 + 1) [.bool false, .bool false, .bool false, .int .i64 0, .int .i64 0, .string ⟨#[]⟩] := by rw [← hW0, ← hX]; exact VarAt.new3 w _ _ [.bool false, .bool false, .bool false, .int .i64 0, .int .i64 0, .string ⟨#[]⟩] 30
  have H0 : Hid (VarAt W0 X [.bool u, .bool d, .bool r, .int .i64 p, .int .i64 q, .string (strOfNums bs)] ∧ VarAt W0 (X + 1) [.int .i64 dd, .int .i64 pg, .int .i64 off, .int .i64 n, .slice ab ys.length cb] ∧ VarAt W0 (X + 1 + 1) [.bool false, .bool false, .bool false, .int .i64 0, .int .i64 0, .string ⟨#[]⟩] ∧ Grow w W0 ∧ w.heap.size = X) := ⟨V0, O0, Z0, g0, hX⟩
  have HY : Hid (RdV (Value.int .u8) 0 (fun i => i < W0.heap.size) W0 (.slice ab ys.length cb) ys) := (hy.mono (fun i hi _ => by have := g0.size; omega)).grow g0
  have r3 := around_any dd 10 W0 hdd (by omega) (by omega)
  rw [hk] at r3
  rw [hk, doS_unpin _ _ _ _ _ rfl]
  have hc := runpinS_any ⟨u, d, r, p, q, bs⟩ hs W0
  generalize unpinS ⟨u, d, r, p, q, bs⟩ = T at hc ⊢
  obtain ⟨⟨u', d', r', p', q', bs'⟩, E⟩ := T
  simp only [FS.v] at hc ⊢
  obtain ⟨⟨x0, x1, x2, x3, x4, x5⟩, -⟩ := V0.six
  obtain ⟨o0, o1, o2, o3, o4⟩ := O0.fives
  clear V0 O0 Z0 g0 hy hk
  go_enter Try.func10, Try.ntmps10
  go_upto_region 1 with fail
  (try rw [hW0])
  (try rw [hX])
  clear hW0 hX
  go_wp2_with fail
  refine r3.mono ?_
  rintro e w0 ⟨rfl, rfl⟩
  clear r3
  go_wp2_with fail
  refine hc.mono ?_
  rintro e w1 ⟨rfl, g1⟩
  clear hc x0 x1 x2 x3 x4 x5 o0 o1 o2 o3 o4
  obtain ⟨W2, hW2⟩ : ∃ W2, w1.alloc (.cells #[.bool u', .bool d', .bool r', .int .i64 p', .int .i64 q', .string (strOfNums bs')] 30) = W2 := ⟨_, rfl⟩
  obtain ⟨M, hM⟩ : ∃ M, w1.heap.size = M := ⟨_, rfl⟩
  have V2 : VarAt W2 M [.bool u', .bool d', .bool r', .int .i64 p', .int .i64 q', .string (strOfNums bs')] := by rw [← hW2, ← hM]; exact VarAt.new w1 [.bool u', .bool d', .bool r', .int .i64 p', .int .i64 q', .string (strOfNums bs')] 30
  have g2 : Grow W0 W2 := by rw [← hW2]; exact g1.alloc _
  have Z2 := H0.out.2.2.1.grow g2
  have H2 : Hid (VarAt W2 M [.bool u', .bool d', .bool r', .int .i64 p', .int .i64 q', .string (strOfNums bs')] ∧ VarAt W2 (X + 1 + 1) [.bool false, .bool false, .bool false, .int .i64 0, .int .i64 0, .string ⟨#[]⟩] ∧ Grow w W2) := ⟨V2, Z2, H0.out.2.2.2.1.trans g2⟩
  clear V2 Z2 g2 g1
  go_upto_region 9 with fail
  (try rw [hW2])
  (try rw [hM])
  clear hW2 hM
  obtain ⟨⟨x0, x1, x2, x3, x4, x5⟩, -⟩ := H2.out.1.six
  obtain ⟨⟨y0, y1, y2, y3, y4, y5⟩, f0, f1, f2, f3, f4, f5⟩ := H2.out.2.1.six
  have HF : Hid (VarAt (put6 W2 (X + 1 + 1) (.bool u') (.bool d') (.bool r') (.int .i64 p') (.int .i64 q') (.string (strOfNums bs'))) (X + 1 + 1) [.bool u', .bool d', .bool r', .int .i64 p', .int .i64 q', .string (strOfNums bs')] ∧ Grow w (put6 W2 (X + 1 + 1) (.bool u') (.bool d') (.bool r') (.int .i64 p') (.int .i64 q') (.string (strOfNums bs')))) := ⟨H2.out.2.1.put6 _ _ _ _ _ _, UpdS.new H2.out.2.2 (upd_put6 _ _ _ _ _ _ _ _) (fun i hi => by have := H0.out.2.2.2.2; omega)⟩
  unfold put6 at HF
  go_wp2
  exact bodyPost_ret_by (results_cell_tmp2 rfl _ _ _ _ rfl (load_F _ _ _ _ _ _ _ _ HF.out.1)) rfl ⟨rfl, HF.out.2⟩

end Go.Proofs.Ytcmehefaceaioaa
