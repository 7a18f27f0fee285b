/-
  The walks of the document's Empty, Kind, Frame, Bytes, New, Flags. Conditions: each theorem's own.
-/
import Derived.Test.YthdhfojogckflaaPrtD
namespace Go.Proofs.Ythdhfojogckflaa
open Go.RowKit
set_option linter.unusedVariables false
set_option linter.unusedSimpArgs false

theorem exec_bin {P : Program} {w : World} {o : Oper} {a : Act} {b : BinOp} {t t' : TypeId} {x y : Operand} {vx vy v : Value} (ho : o.op = .binOp b t x y t') (hx : a.eval x = vx) (hy : a.eval y = vy)
    (hg : (eqGuard b t x y vx vy).run P w = .ok () w) (hq : (binOp b t vx vy).run P w = .ok v w) : (execOp a.eval o).run P w = .ok (.value v) w := by
  unfold execOp
  simp only [ho, hx, hy, Sem.run_bind, hg, hq, Result.andThen_ok, Sem.run_pure]
/-- one laid in a new block, and read there -/
theorem exec_oneQ {w : World} {o : Oper} {a : Act} {y : Operand} {x : FS} (ho : o.op = .buildSlice 28 1 #[(0, y)]) (hy : a.eval y = .agg #[.bool x.u, .bool x.d, .bool x.r, .int .i64 x.p, .int .i64 x.q, .string (strOfNums x.bs)]) :
    (execOp a.eval o).run Try.prog w = .ok (.value (.slice (some ⟨w.heap.size, 0, none⟩) 1 1)) (w.alloc (.cells #[.bool x.u, .bool x.d, .bool x.r, .int .i64 x.p, .int .i64 x.q, .string (strOfNums x.bs)] 68)) := by
  generalize a.eval = ev at hy ⊢
  simp only [execOp, ho, hy, List.mapM_cons, Array.map, Array.toList]
  go_simp
theorem rd_oneQ (w : World) (x : FS) : RdQ (fun i => i = w.heap.size) (w.alloc (.cells #[.bool x.u, .bool x.d, .bool x.r, .int .i64 x.p, .int .i64 x.q, .string (strOfNums x.bs)] 68)) (.slice (some ⟨w.heap.size, 0, none⟩) 1 1) [x] :=
  rdS_new (f := FS.rc) (k := 6) w 68 [x] FS.rc_length (by simp [maxLen])
theorem src_oneQ (w : World) (x : FS) : Src Try.prog 6 28 (.slice (some ⟨w.heap.size, 0, none⟩) 1 1) [x].length ([x].flatMap FS.rc) (w.alloc (.cells #[.bool x.u, .bool x.d, .bool x.r, .int .i64 x.p, .int .i64 x.q, .string (strOfNums x.bs)] 68)) := (rd_oneQ w x).src FS.rc_length FS.rc_one Try.underlying28


set_option maxRecDepth 8000 in
set_option maxHeartbeats 2000000 in
theorem qempty_any {pq : Nat → Prop} (w : World) (a : Option Addr) (c : Nat) (L : List FS) (h : Int) (hr : RdQ pq w (.slice a L.length c) L) (hL : L.length ≤ 64) (hok : ∀ s ∈ L, Oct s.bs) : Calls Try.prog 43 #[.agg #[.slice a L.length c, .int .i64 h]] w fun e w' => e = .returned (.bool (emptyL L)) ∧ Grow w w' := by
  obtain ⟨W, hW⟩ : ∃ W, w.alloc (.cells #[.slice a L.length c, .int .i64 h] 30) = W := ⟨_, rfl⟩
  obtain ⟨X, hX⟩ : ∃ X, w.heap.size = X := ⟨_, rfl⟩
  have g0 : Grow w W := by rw [← hW]; exact (Grow.refl w).alloc _
  have V0 : VarAt W X [.slice a L.length c, .int .i64 h] := by rw [← hW, ← hX]; exact VarAt.new w [.slice a L.length c, .int .i64 h] 30
  have HR : Hid (RdQ pq W (.slice a L.length c) L ∧ Grow w W ∧ VarAt W X [.slice a L.length c, .int .i64 h]) := ⟨RdS.grow hr g0, g0, V0⟩
  have HO : Hid (∀ s ∈ L, Oct s.bs) := hok
  clear hr g0 V0 hok
  go_enter Try.func43, Try.ntmps43
  go_upto_region 1 with fail
  (try rw [hW])
  (try rw [hX])
  clear hW hX
  go_wp2
  go_loopg [3] L.length (fun m iv wr => ∃ j : Nat, m = L.length - j ∧ j ≤ L.length ∧ iv = .int .i64 j ∧ Hid (Grow W wr ∧ ∀ i, i < j → (L.getD i FS.empty).emp = true))
  case atStart => exact ⟨0, rfl, by omega, rfl, Grow.refl _, fun i hi => absurd hi (Nat.not_lt_zero _)⟩
  case round =>
    obtain ⟨j, hj, hj2, rfl, HJ⟩ := hrel
    have HG : Hid (gk = L.length - j) := hj
    clear hj
    obtain ⟨⟨v0, -⟩, -⟩ := (HR.out.2.2.grow HJ.out.1).two
    by_cases hlt : j < L.length
    · have hle : (j : Int) < (L.length : Int) := by omega
      obtain ⟨b, o, rfl⟩ := rdQ_addr HR.out.1 (by omega)
      have hin := rdQ_in HR.out.1 hlt
      have hw0 : IntKind.i64.wrap ((j : Int) + 1) = ((j + 1 : Nat) : Int) := by rw [IntKind.wrap_i64]; omega
      have HE : Hid ((L.getD j FS.empty).emp = false → emptyL L = false) := fun h2 => by
        cases h3 : emptyL L with
        | false => rfl
        | true =>
          have := (emptyL_iff L).1 h3 j hlt
          rw [this] at h2; cases h2
      have HN : Hid ((L.getD j FS.empty).emp = true → ∀ i, i < j + 1 → (L.getD i FS.empty).emp = true) := fun h1 i hi => by
        by_cases e : i = j
        · rw [e]; exact h1
        · exact HJ.out.2 i (by omega)
      have hs := HO.out _ (getD_in (d := FS.empty) hlt)
      generalize L.getD j FS.empty = s at hin HE HN hs
      have HI : Hid (j < L.length) := hlt
      have gd : Grow wr wr.drew := (Grow.refl wr).drew
      have fx : ∀ w', Grow wr.drew w' → (w'.cell? ⟨X, 0, none⟩ = some (.slice (some ⟨b, o, none⟩) L.length c) ∧ QIn w' b (o + j * 6) s) := fun w' g => by
        have g2 : Grow W w' := HJ.out.1.trans (gd.trans g)
        obtain ⟨k0, k1, k2, k3, k4, k5⟩ := hin
        have hlt' := World.block_lt_of_cell? _ _ k0
        have hc := fun z => (g2.s (S := fun _ => False)).cell (p := ⟨b, z, none⟩) hlt' (fun f => f)
        exact ⟨(HR.out.2.2.grow g2).two.1.1, by rw [hc]; exact k0, by rw [hc]; exact k1, by rw [hc]; exact k2, by rw [hc]; exact k3, by rw [hc]; exact k4, by rw [hc]; exact k5⟩
      have hem := fun w' => rempty_any w'
      obtain ⟨t, ht⟩ : ∃ t, s.emp = t := ⟨_, rfl⟩
      have hq := fun w' => neq_docs w' s hs
      rw [ht] at hq HE HN
      have HT : Hid (Grow W wr) := HJ.out.1
      clear hin hlt HJ hs ht
      go_wp2
      refine wp_region_sched (by kernel_rfl) [(0, false), (1, false), (2, false), (3, false), (4, false), (5, true), (6, false)] (by kernel_rfl) (by kernel_rfl) rfl (fun _ _ d _ _ h => by cases d <;> exact h) ?_
      simp only [inOrder, List.filterMap_cons, List.filterMap_nil, List.getElem?_toArray, List.getElem?_cons_zero, List.getElem?_cons_succ, Option.map_some]
      repeat (first
        | (refine wpS_move rfl ?_; simp only [Act.eval, Act.put, Array.getD_eq_getD_getElem?, List.getElem?_toArray, List.getElem?_cons_zero, List.getElem?_cons_succ, Option.getD_some, List.setIfInBounds_toArray, List.set_cons_zero, List.set_cons_succ])
        | (refine wpS_assign rfl ?_; simp only [Act.eval, Act.put, Array.getD_eq_getD_getElem?, List.getElem?_toArray, List.getElem?_cons_zero, List.getElem?_cons_succ, Option.getD_some, List.setIfInBounds_toArray, List.set_cons_zero, List.set_cons_succ])
        | (refine wpS_read (v := ?_) rfl ?_ ?_; rotate_left; (focus (intro w' hG; obtain ⟨q0, k0, k1, k2, k3, k4, k5⟩ := fx w' hG; go_simp; try (with_reducible rfl))); simp only [Act.put, List.setIfInBounds_toArray, List.set_cons_zero, List.set_cons_succ])
        | (refine wpS_skip rfl ?_; simp only [Act.put, List.setIfInBounds_toArray, List.set_cons_zero, List.set_cons_succ]))
      have he := hem wr.drew
      refine wpS_call (f := ?_) (args := ?_) (by rfl) ?_ ?_
      rotate_left 2; focus (go_simp; constructor <;> with_reducible rfl)
      refine (he).mono ?_
      rintro e w1 ⟨rfl, g1⟩
      refine ⟨_, rfl, g1, ?_⟩
      simp only [Act.put, List.setIfInBounds_toArray, List.set_cons_zero, List.set_cons_succ]
      refine wpS_read (v := .bool (!t)) rfl (fun w' hG => exec_bin rfl rfl rfl (guard_docs w' _ _ _ _) (hq w')) ?_
      simp only [Act.put, List.setIfInBounds_toArray, List.set_cons_zero, List.set_cons_succ]
      repeat (first
        | (refine wpS_move rfl ?_; simp only [Act.eval, Act.put, Array.getD_eq_getD_getElem?, List.getElem?_toArray, List.getElem?_cons_zero, List.getElem?_cons_succ, Option.getD_some, List.setIfInBounds_toArray, List.set_cons_zero, List.set_cons_succ])
        | (refine wpS_assign rfl ?_; simp only [Act.eval, Act.put, Array.getD_eq_getD_getElem?, List.getElem?_toArray, List.getElem?_cons_zero, List.getElem?_cons_succ, Option.getD_some, List.setIfInBounds_toArray, List.set_cons_zero, List.set_cons_succ])
        | (refine wpS_read (v := ?_) rfl ?_ ?_; rotate_left; (focus (intro w' hG; skip; go_simp; try (with_reducible rfl))); simp only [Act.put, List.setIfInBounds_toArray, List.set_cons_zero, List.set_cons_succ])
        | (refine wpS_skip rfl ?_; simp only [Act.put, List.setIfInBounds_toArray, List.set_cons_zero, List.set_cons_succ]))
      refine wpS_nil ?_
      have HW : Hid (Grow W w1) := HT.out.trans (gd.trans g1)
      clear fx hem hq he g1 gd
      cases t with
      | true =>
        have HN2 : Hid (∀ i, i < j + 1 → (L.getD i FS.empty).emp = true) := HN.out rfl
        clear HN HE
        go_wp2
        go_roundg (L.length - (j + 1))
        case measure => have := HG.out; have := HI.out; omega
        case rel => exact ⟨j + 1, rfl, by have := HI.out; omega, by go_num, HW.out, HN2.out⟩
      | false =>
        have HE2 : Hid (emptyL L = false) := HE.out rfl
        clear HN HE
        go_wp2
        go_ret
        exact ⟨by rw [HE2.out]; rfl, HR.out.2.1.trans HW.out⟩
    · have hge : ¬ (j : Int) < (L.length : Int) := by omega
      have HE : Hid (emptyL L = true) := (emptyL_iff L).2 (fun i hi => (FS.emp_iff _).1 (HJ.out.2 i (by omega)))
      go_wp2
      go_ret
      exact ⟨by rw [HE.out]; rfl, HR.out.2.1.trans HJ.out.1⟩

/-- a deed, by its cells -/
def oC (dd ii pg off n : Int) (bv : Value) : List Value := [.int .i64 dd, .int .i64 ii, .int .i64 pg, .int .i64 off, .int .i64 n, bv]

set_option maxHeartbeats 2000000 in
theorem qkind_any (dd ii pg off n : Int) (a : Option Addr) (m c : Nat) (w : World) (hdd : (Lit.int .i64 dd).wf = true) : Calls Try.prog 34 #[.agg #[.int .i64 dd, .int .i64 ii, .int .i64 pg, .int .i64 off, .int .i64 n, .slice a m c]] w fun e w' => e = .returned (.int .i64 (around dd 13)) ∧ Grow w w' := by
  obtain ⟨W, hW⟩ : ∃ W, w.alloc (.cells #[.int .i64 dd, .int .i64 ii, .int .i64 pg, .int .i64 off, .int .i64 n, .slice a m c] 36) = W := ⟨_, rfl⟩
  obtain ⟨X, hX⟩ : ∃ X, w.heap.size = X := ⟨_, rfl⟩
  have HG : Hid (Grow w W) := by show Grow w W; rw [← hW]; exact (Grow.refl w).alloc _
  have V0 : VarAt W X [.int .i64 dd, .int .i64 ii, .int .i64 pg, .int .i64 off, .int .i64 n, .slice a m c] := by rw [← hW, ← hX]; exact VarAt.new w [.int .i64 dd, .int .i64 ii, .int .i64 pg, .int .i64 off, .int .i64 n, .slice a m c] 36
  obtain ⟨⟨v0, v1, v2, v3, v4, v5⟩, -⟩ := V0.six
  have hr := around_any dd 13 W hdd (by omega) (by omega)
  clear V0
  go_enter Try.func34, Try.ntmps34
  go_upto_region 1 with fail
  (try rw [hW])
  (try rw [hX])
  clear hW hX
  go_wp2_with fail
  refine hr.mono ?_
  rintro e w1 ⟨rfl, rfl⟩
  go_wp2
  go_ret
  exact ⟨rfl, HG.out⟩

set_option maxHeartbeats 2000000 in
theorem qframe_any (dd ii pg off n : Int) (a : Option Addr) (m c : Nat) (w : World) (hii : (Lit.int .i64 ii).wf = true) (k : Nat) (hk : k ≤ 64) : Calls Try.prog 33 #[.agg #[.int .i64 dd, .int .i64 ii, .int .i64 pg, .int .i64 off, .int .i64 n, .slice a m c], .int .i64 k] w fun e w' => e = .returned (.int .i64 (around ii ((k : Int) + 2) - 1)) ∧ Grow w w' := by
  obtain ⟨W, hW⟩ : ∃ W, w.alloc (.cells #[.int .i64 dd, .int .i64 ii, .int .i64 pg, .int .i64 off, .int .i64 n, .slice a m c] 36) = W := ⟨_, rfl⟩
  obtain ⟨X, hX⟩ : ∃ X, w.heap.size = X := ⟨_, rfl⟩
  have HG : Hid (Grow w W) := by show Grow w W; rw [← hW]; exact (Grow.refl w).alloc _
  have V0 : VarAt W X [.int .i64 dd, .int .i64 ii, .int .i64 pg, .int .i64 off, .int .i64 n, .slice a m c] := by rw [← hW, ← hX]; exact VarAt.new w [.int .i64 dd, .int .i64 ii, .int .i64 pg, .int .i64 off, .int .i64 n, .slice a m c] 36
  obtain ⟨⟨v0, v1, v2, v3, v4, v5⟩, -⟩ := V0.six
  have hr := around_any ii ((k : Int) + 2) W hii (by omega) (by omega)
  have hb := around_bd ii ((k : Int) + 2) (by omega)
  generalize around ii ((k : Int) + 2) = z at hr hb ⊢
  have hw0 : IntKind.i64.wrap ((k : Int) + 2) = (k : Int) + 2 := by rw [IntKind.wrap_i64]; omega
  have hw1 : IntKind.i64.wrap (z - 1) = z - 1 := by rw [IntKind.wrap_i64]; omega
  clear V0 hb
  go_enter Try.func33, Try.ntmps33
  go_upto_region 1 with fail
  (try rw [hW])
  (try rw [hX])
  clear hW hX
  go_wp2_with fail
  refine hr.mono ?_
  rintro e w1 ⟨rfl, rfl⟩
  go_wp2
  go_ret
  exact ⟨rfl, HG.out⟩

/-- the bytes of a Load -/
def byL (n : Int) (ys : List Int) : List Int := if Int.tmod n 9 = 8 then ys.take 40 else fillL ys 32
theorem tmod9 (n : Int) : -9 < Int.tmod n 9 ∧ Int.tmod n 9 < 9 := by
  have h1 := Int.tmod_lt_of_pos n (show (0 : Int) < 9 by omega)
  have h2 := Int.lt_tmod_of_pos n (show (0 : Int) < 9 by omega)
  exact ⟨by omega, h1⟩
set_option maxHeartbeats 2000000 in
theorem qbytes_any (dd ii pg off n : Int) (a : Option Addr) (c : Nat) (w : World) (ys : List Int) (t : Nat → Prop) (hy : RdV (Value.int .u8) 0 t w (.slice a ys.length c) ys) (hnw : (Lit.int .i64 n).wf = true) : Calls Try.prog 30 #[.agg #[.int .i64 dd, .int .i64 ii, .int .i64 pg, .int .i64 off, .int .i64 n, .slice a ys.length c]] w fun e w' => ∃ v', e = .returned v' ∧ RdV (Value.int .u8) 0 (fun i => w.heap.size ≤ i) w' v' (byL n ys) ∧ Grow w w' := by
  obtain ⟨W, hW⟩ : ∃ W, w.alloc (.cells #[.int .i64 dd, .int .i64 ii, .int .i64 pg, .int .i64 off, .int .i64 n, .slice a ys.length c] 36) = W := ⟨_, rfl⟩
  obtain ⟨X, hX⟩ : ∃ X, w.heap.size = X := ⟨_, rfl⟩
  have g0 : Grow w W := by rw [← hW]; exact (Grow.refl w).alloc _
  have HG : Hid (Grow w W) := g0
  have V0 : VarAt W X [.int .i64 dd, .int .i64 ii, .int .i64 pg, .int .i64 off, .int .i64 n, .slice a ys.length c] := by rw [← hW, ← hX]; exact VarAt.new w [.int .i64 dd, .int .i64 ii, .int .i64 pg, .int .i64 off, .int .i64 n, .slice a ys.length c] 36
  obtain ⟨⟨v0, v1, v2, v3, v4, v5⟩, -⟩ := V0.six
  have hfl := fill_any _ ys 32 32 _ W rfl (hy.grow g0).i (by omega)
  have hfw := fewB_any _ ys 40 40 _ W rfl (hy.grow g0).i (by omega)
  obtain ⟨m9, hm9⟩ : ∃ m, Int.tmod n 9 = m := ⟨_, rfl⟩
  have hb9 := tmod9 n
  have HB : Hid (byL n ys = if m9 = 8 then ys.take 40 else fillL ys 32) := by show byL n ys = _; unfold byL; rw [hm9]
  rw [hm9] at hb9
  generalize byL n ys = B at HB ⊢
  clear V0 hy g0
  by_cases h8 : m9 = 8
  · have HE : Hid (B = ys.take 40) := by show _ = _; rw [HB.out, if_pos h8]
    subst h8
    generalize ys.take 40 = A at hfw HE
    clear HB hfl
    go_enter Try.func30, Try.ntmps30
    go_upto_region 1 with fail
    (try rw [hW])
    (try rw [hX])
    clear hW hX
    go_wp2_with fail
    refine hfw.mono ?_
    rintro e w1 ⟨v1', rfl, o1, g1⟩
    have HF : Hid (RdV (Value.int .u8) 0 (fun i => w.heap.size ≤ i) w1 v1' B ∧ Grow w w1) := by
      refine ⟨?_, HG.out.trans g1⟩
      rw [HE.out]
      exact o1.v.rd.mono (fun i _ hi => by have := HG.out.size; omega)
    obtain ⟨a1, c1, hv1⟩ := o1.v.shape
    generalize A.length = n1 at hv1
    subst hv1
    clear hfw o1 g1 HE
    go_wp2
    go_ret
    exact ⟨_, rfl, HF.out⟩
  · have HE : Hid (B = fillL ys 32) := by show _ = _; rw [HB.out, if_neg h8]
    have hne : ¬ Int.tmod n 9 = 8 := by rw [hm9]; exact h8
    generalize fillL ys 32 = A at hfl HE
    clear HB hfw
    go_enter Try.func30, Try.ntmps30
    go_upto_region 1 with fail
    (try rw [hW])
    (try rw [hX])
    clear hW hX
    go_wp2_with fail
    refine hfl.mono ?_
    rintro e w1 ⟨v1', rfl, o1, g1⟩
    have HF : Hid (RdV (Value.int .u8) 0 (fun i => w.heap.size ≤ i) w1 v1' B ∧ Grow w w1) := by
      refine ⟨?_, HG.out.trans g1⟩
      rw [HE.out]
      exact o1.v.rd.mono (fun i _ hi => by have := HG.out.size; omega)
    obtain ⟨a1, c1, hv1⟩ := o1.v.shape
    generalize A.length = n1 at hv1
    subst hv1
    clear hfl o1 g1 HE
    go_wp2
    go_ret
    exact ⟨_, rfl, HF.out⟩
end Go.Proofs.Ythdhfojogckflaa
