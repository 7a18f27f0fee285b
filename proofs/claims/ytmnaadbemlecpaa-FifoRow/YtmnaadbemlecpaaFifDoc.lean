/-
  The walks of the document's Put, Take and SameInts. Conditions: each theorem's own.
-/
import Derived.Test.YtmnaadbemlecpaaFifA
import Derived.Test.YtmnaadbemlecpaaWords
import Derived.Test.YtmnaadbemlecpaaLast
import Derived.Deep.LoopGhost
namespace Go.Proofs.Ytmnaadbemlecpaa
open Go.RowKit
set_option linter.unusedVariables false
set_option linter.unusedSimpArgs false

/-- the document's queue, loaded -/
theorem load_Q (b : Nat) (m : Int) (v : Value) (w : World) (h : VarAt w b [.int .i64 m, v]) (hv : v.oneCell' = true) : (loadVar 29 ⟨b, 0, none⟩).run Try.prog w = .ok (.agg #[.int .i64 m, v]) w := by
  obtain ⟨⟨c0, c1⟩, -⟩ := h.two
  go_simp

theorem results_cell_tmp2 {P : Program} {fn : Func} {p t u : Tmp} {ty : TypeId} (h : fn.results = #[.cell p ty, .tmp t, .tmp u]) (tmps : Array Value) (w : World) (x : Addr) (v : Value) (hp : tmps.getD p undef = .pointer (some x))
    (hl : (loadVar ty x).run P w = .ok v w) : (results fn tmps).run P w = .ok (.tuple #[v, tmps.getD t undef, tmps.getD u undef]) w := by
  have hp' : tmps[p]?.getD undef = .pointer (some x) := by simpa using hp
  simp only [results, h]
  simp [hp', asAddr, hl]

set_option maxHeartbeats 1000000 in
theorem samez_any (av bv : Value) (xs ys : List Int) (p q : Nat → Prop) (w : World) (ha : RdV (Value.int .i64) 0 p w av xs) (hb : RdV (Value.int .i64) 0 q w bv ys) :
    Calls Try.prog 17 #[av, bv] w fun e w' => e = .returned (.bool (decide (xs = ys))) ∧ Grow w w' := by
  have la := ha.len
  have lb := hb.len
  unfold maxLen at la lb
  have HA : Hid (RdV (Value.int .i64) 0 p w av xs) := ha
  have HB : Hid (RdV (Value.int .i64) 0 q w bv ys) := hb
  obtain ⟨a1, c1, rfl⟩ := ha.shape
  obtain ⟨a2, c2, rfl⟩ := hb.shape
  clear ha hb
  by_cases hl : xs.length = ys.length
  · have hl' : (xs.length : Int) = (ys.length : Int) := by omega
    have HLL : Hid (xs.length = ys.length) := hl
    go_enter Try.func17, Try.ntmps17
    go_wp2
    go_loopg [5] xs.length (fun k i wr => ∃ j : Nat, k = xs.length - j ∧ j ≤ xs.length ∧ i = .int .i64 j ∧ Hid (xs.take j = ys.take j) ∧ Grow w wr)
    case atStart => exact ⟨0, rfl, Nat.zero_le _, rfl, by simp [Hid], Grow.refl _⟩
    case round =>
      obtain ⟨j, hk, hj, rfl, HE, hg⟩ := hrel
      by_cases hlt : j < xs.length
      · have hlt' : (j : Int) < (xs.length : Int) := by omega
        have hlt2 : (j : Int) < (ys.length : Int) := by omega
        obtain ⟨b1, o1, e1, -, hc1⟩ := (HA.out.grow hg).addr (by omega)
        obtain ⟨b2, o2, e2, -, hc2⟩ := (HB.out.grow hg).addr (by omega)
        have f1 := hc1 j hlt
        have f2 := hc2 j (by omega)
        clear hc1 hc2
        have HT : Hid (xs.take (j + 1) = xs.take j ++ [xs.getD j 0] ∧ ys.take (j + 1) = ys.take j ++ [ys.getD j 0]) := ⟨take_snoc xs 0 j hlt, take_snoc ys 0 j (by omega)⟩
        have hne : ∀ x y : Int, x ≠ y → xs.getD j 0 = x → ys.getD j 0 = y → xs ≠ ys := fun x y h1 h2 h3 h4 => h1 (by rw [← h2, ← h3, h4])
        have HJ : Hid (j < xs.length ∧ gk = xs.length - j) := ⟨hlt, hk⟩
        generalize xs.getD j 0 = x at f1 HT hne
        generalize ys.getD j 0 = y at f2 HT hne
        clear hlt hk hl
        have HN := hne x y
        clear hne
        subst e1 e2
        by_cases hxy : x = y
        · subst hxy
          clear HN
          go_wp2
          go_region
          all_goals
            go_wp2
            go_roundg (xs.length - (j + 1))
            case measure => have := HJ.out; omega
            case rel =>
              refine ⟨j + 1, rfl, HJ.out.1, by go_num, ?_, hg.drew⟩
              show xs.take (j + 1) = ys.take (j + 1)
              rw [HT.out.1, HT.out.2, HE.out]
        · have hns : xs ≠ ys := HN hxy rfl rfl
          have hd : decide (xs = ys) = false := decide_eq_false hns
          clear HN hns
          go_wp2
          go_region
          all_goals
            go_wp2
            go_ret
            exact ⟨ret_bool hd.symm, hg.drew⟩
      · obtain rfl : j = xs.length := by omega
        have he : xs = ys := by
          have := HE.out
          rwa [List.take_length, HLL.out, List.take_length] at this
        have hd : decide (xs = ys) = true := decide_eq_true he
        clear he hl
        go_wp2
        go_ret
        exact ⟨ret_bool hd.symm, hg⟩
  · have hl' : ¬ (xs.length : Int) = (ys.length : Int) := by omega
    have hd : decide (xs = ys) = false := decide_eq_false (fun h => hl (by rw [h]))
    go_enter Try.func17, Try.ntmps17
    go_wp2
    go_ret
    exact ⟨ret_bool hd.symm, Grow.refl _⟩

set_option maxHeartbeats 1000000 in
theorem rtake_any (w : World) (p : Nat → Prop) (m : Int) (v : Value) (zs : List Int) (h : RdV (Value.int .i64) 0 p w v zs) :
    Calls Try.prog 11 #[.agg #[.int .i64 m, v]] w fun e w' => ∃ v', e = .returned (.tuple #[.agg #[.int .i64 m, v'], .int .i64 (zs.getD 0 0), .bool (decide (0 < zs.length))]) ∧ RdV (Value.int .i64) 0 p w' v' (zs.drop 1) ∧ Grow w w' := by
  have hlm := h.len
  unfold maxLen at hlm
  have h' := h
  obtain ⟨a, c, rfl⟩ := h.shape
  by_cases h0 : 0 < zs.length
  · obtain ⟨g, o, rfl, hg, hc⟩ := h.addr h0
    have k0 := hc 0 h0
    rw [Nat.add_zero] at k0
    have H : Hid (RdV (Value.int .i64) 0 p w (.slice (if c = 1 then some ⟨g, o, none⟩ else some ⟨g, o + 1, none⟩) (zs.length - 1) (c - 1)) (zs.drop 1)) := by
      have h1 := h'.drop 1 h0
      simp only [Option.map_some, Addr.add_lit] at h1
      exact h1
    have E : Hid (decide (0 < zs.length) = true) := decide_eq_true h0
    rw [E.out]
    have hl1 : (1 : Int) ≤ (zs.length : Int) := by omega
    have hl0 : 0 < (zs.length : Int) := by omega
    have hne : ((zs.length : Int) == 0) = false := by rw [beq_eq_false_iff_ne]; omega
    have hcc := h.caps
    have hlc : zs.length ≤ c := hcc.2.1
    obtain ⟨A, hA⟩ : ∃ A : Option Addr, A = (if c = 1 then some ⟨g, o, none⟩ else some ⟨g, o + 1, none⟩) := ⟨_, rfl⟩
    rw [← hA] at H
    have hA' := hA.symm
    have HV : Hid (VarAt ((w.alloc (.cells #[.int .i64 m, .slice (some ⟨g, o, none⟩) zs.length c] 29)).alloc (.cells #[.int .i64 0, .slice none 0 0] 29)) w.heap.size [.int .i64 m, .slice (some ⟨g, o, none⟩) zs.length c] ∧ VarAt ((w.alloc (.cells #[.int .i64 m, .slice (some ⟨g, o, none⟩) zs.length c] 29)).alloc (.cells #[.int .i64 0, .slice none 0 0] 29)) (w.heap.size + 1) [.int .i64 0, .slice none 0 0] ∧ Grow w ((w.alloc (.cells #[.int .i64 m, .slice (some ⟨g, o, none⟩) zs.length c] 29)).alloc (.cells #[.int .i64 0, .slice none 0 0] 29))) :=
      ⟨(VarAt.new w [.int .i64 m, .slice (some ⟨g, o, none⟩) zs.length c] 29).old _, VarAt.new2 w _ [.int .i64 0, .slice none 0 0] 29, ((Grow.refl w).alloc _).alloc _⟩
    have HL : Hid (g < w.heap.size ∧ w.cell? ⟨g, o, none⟩ = some (.int .i64 (zs.getD 0 0))) := ⟨World.block_lt_of_cell? _ _ k0, k0⟩
    generalize zs.getD 0 0 = x at HL k0
    generalize zs.length = L at *
    clear h h' hc hA hcc k0 E
    go_enter Try.func11, Try.ntmps11
    obtain ⟨W0, hW0⟩ : ∃ W0, ((w.alloc (.cells #[.int .i64 m, .slice (some ⟨g, o, none⟩) L c] 29)).alloc (.cells #[.int .i64 0, .slice none 0 0] 29)) = W0 := ⟨_, rfl⟩
    rw [hW0] at HV
    obtain ⟨⟨c0, c1⟩, -⟩ := HV.out.1.two
    have gd : Grow W0 W0.drew := (Grow.refl W0).drew
    have fx : ∀ w', UpdS (fun i => i = w.heap.size + 1) W0.drew w' → (w'.cell? ⟨w.heap.size, 0, none⟩ = some (.int .i64 m) ∧ w'.cell? ⟨w.heap.size, 1, none⟩ = some (.slice (some ⟨g, o, none⟩) L c)) ∧ w'.cell? ⟨g, o, none⟩ = some (.int .i64 x) := fun w' hu =>
      ⟨((HV.out.1.grow gd).upd hu (by omega)).two.1, by
        have hb := HL.out.1
        rw [hu.cell (p := ⟨g, o, none⟩) (Nat.lt_of_lt_of_le hb (HV.out.2.2.trans gd).size) (by show ¬ g = _; omega), Below.cell (p := ⟨g, o, none⟩) (HV.out.2.2.trans gd) hb]; exact HL.out.2⟩
    have hz := (HV.out.2.1.grow gd)
    obtain ⟨⟨z0, z1⟩, fz0, fz1⟩ := HV.out.2.1.two
    have HF : Hid (VarAt ((W0.drew.setCell ⟨w.heap.size + 1, 0, none⟩ (.int .i64 m)).setCell ⟨w.heap.size + 1, 1, none⟩ (.slice A (L - 1) (c - 1))) (w.heap.size + 1) [.int .i64 m, .slice A (L - 1) (c - 1)] ∧ RdV (Value.int .i64) 0 p ((W0.drew.setCell ⟨w.heap.size + 1, 0, none⟩ (.int .i64 m)).setCell ⟨w.heap.size + 1, 1, none⟩ (.slice A (L - 1) (c - 1))) (.slice A (L - 1) (c - 1)) (zs.drop 1) ∧ Grow w ((W0.drew.setCell ⟨w.heap.size + 1, 0, none⟩ (.int .i64 m)).setCell ⟨w.heap.size + 1, 1, none⟩ (.slice A (L - 1) (c - 1)))) := by
      have g3 : Grow w ((W0.drew.setCell ⟨w.heap.size + 1, 0, none⟩ (.int .i64 m)).setCell ⟨w.heap.size + 1, 1, none⟩ (.slice A (L - 1) (c - 1))) := UpdS.new (HV.out.2.2.trans gd) (upd_pair W0.drew (w.heap.size + 1) (.int .i64 m) (.slice A (L - 1) (c - 1))) (fun i hi => by omega)
      exact ⟨hz.set2 _ _, H.out.grow g3, g3⟩
    clear hz H HL
    go_wp2
    refine wp_region_schedG (UpdS (fun i => i = w.heap.size + 1)) (UpdS.refl _) (fun _ _ _ => UpdS.trans) (by kernel_rfl) [(0, false), (1, false), (2, false), (3, false), (4, false), (5, false), (6, false), (7, false), (8, false), (9, false), (10, true), (11, false), (12, false)] (by kernel_rfl) (by kernel_rfl) rfl (fun _ _ d _ _ h => by cases d <;> exact h) ?_
    simp only [inOrder, List.filterMap_cons, List.filterMap_nil, List.getElem?_toArray, List.getElem?_cons_zero, List.getElem?_cons_succ, Option.map_some]
    repeat (first
      | (refine wpS_move rfl ?_; simp only [Act.eval, Act.put, Array.getD_eq_getD_getElem?, List.getElem?_toArray, List.getElem?_cons_zero, List.getElem?_cons_succ, Option.getD_some, List.setIfInBounds_toArray, List.set_cons_zero, List.set_cons_succ])
      | (refine wpS_assign rfl ?_; simp only [Act.eval, Act.put, Array.getD_eq_getD_getElem?, List.getElem?_toArray, List.getElem?_cons_zero, List.getElem?_cons_succ, Option.getD_some, List.setIfInBounds_toArray, List.set_cons_zero, List.set_cons_succ])
      | (refine wpS_read (v := ?_) rfl ?_ ?_; rotate_left; (focus (intro w' hG; obtain ⟨⟨q0, q1⟩, q2⟩ := fx w' hG; go_simp; try (with_reducible rfl))); simp only [Act.put, List.setIfInBounds_toArray, List.set_cons_zero, List.set_cons_succ])
      | (refine wpS_skip rfl ?_; simp only [Act.put, List.setIfInBounds_toArray, List.set_cons_zero, List.set_cons_succ]))
    refine wpS_store (w' := ((W0.drew.setCell ⟨w.heap.size + 1, 0, none⟩ (.int .i64 m)).setCell ⟨w.heap.size + 1, 1, none⟩ (.slice A (L - 1) (c - 1)))) rfl (by go_simp) (upd_pair W0.drew (w.heap.size + 1) (.int .i64 m) (.slice A (L - 1) (c - 1))) ?_
    simp only [Act.put, List.setIfInBounds_toArray, List.set_cons_zero, List.set_cons_succ]
    repeat (first
      | (refine wpS_move rfl ?_; simp only [Act.eval, Act.put, Array.getD_eq_getD_getElem?, List.getElem?_toArray, List.getElem?_cons_zero, List.getElem?_cons_succ, Option.getD_some, List.setIfInBounds_toArray, List.set_cons_zero, List.set_cons_succ])
      | (refine wpS_assign rfl ?_; simp only [Act.eval, Act.put, Array.getD_eq_getD_getElem?, List.getElem?_toArray, List.getElem?_cons_zero, List.getElem?_cons_succ, Option.getD_some, List.setIfInBounds_toArray, List.set_cons_zero, List.set_cons_succ])
      | (refine wpS_read (v := ?_) rfl ?_ ?_; rotate_left; (focus (intro w' hG; skip; go_simp; try (with_reducible rfl))); simp only [Act.put, List.setIfInBounds_toArray, List.set_cons_zero, List.set_cons_succ])
      | (refine wpS_skip rfl ?_; simp only [Act.put, List.setIfInBounds_toArray, List.set_cons_zero, List.set_cons_succ]))
    refine wpS_nil ?_
    clear fx z0 z1 fz0 fz1 c0 c1 hA'
    go_wp2
    exact bodyPost_ret_by (results_cell_tmp2 rfl _ _ _ (.agg #[.int .i64 m, .slice A (L - 1) (c - 1)]) rfl (load_Q _ m _ _ HF.out.1 rfl)) rfl ⟨_, rfl, HF.out.2⟩
  · have hz : zs = [] := List.eq_nil_of_length_eq_zero (by omega)
    subst hz
    have HV : Hid (VarAt ((w.alloc (.cells #[.int .i64 m, .slice a 0 c] 29)).alloc (.cells #[.int .i64 0, .slice none 0 0] 29)) w.heap.size [.int .i64 m, .slice a 0 c] ∧ VarAt ((w.alloc (.cells #[.int .i64 m, .slice a 0 c] 29)).alloc (.cells #[.int .i64 0, .slice none 0 0] 29)) (w.heap.size + 1) [.int .i64 0, .slice none 0 0] ∧ Grow w ((w.alloc (.cells #[.int .i64 m, .slice a 0 c] 29)).alloc (.cells #[.int .i64 0, .slice none 0 0] 29))) :=
      ⟨(VarAt.new w [.int .i64 m, .slice a 0 c] 29).old _, VarAt.new2 w _ [.int .i64 0, .slice none 0 0] 29, ((Grow.refl w).alloc _).alloc _⟩
    have H : Hid (RdV (Value.int .i64) 0 p w (.slice a 0 c) []) := h
    simp only [List.length_nil]
    clear h h' h0 hlm
    go_enter Try.func11, Try.ntmps11
    obtain ⟨W0, hW0⟩ : ∃ W0, ((w.alloc (.cells #[.int .i64 m, .slice a 0 c] 29)).alloc (.cells #[.int .i64 0, .slice none 0 0] 29)) = W0 := ⟨_, rfl⟩
    rw [hW0] at HV
    obtain ⟨⟨c0, c1⟩, -⟩ := HV.out.1.two
    obtain ⟨⟨z0, z1⟩, fz0, fz1⟩ := HV.out.2.1.two
    have HF : Hid (VarAt ((W0.setCell ⟨w.heap.size + 1, 0, none⟩ (.int .i64 m)).setCell ⟨w.heap.size + 1, 1, none⟩ (.slice a 0 c)) (w.heap.size + 1) [.int .i64 m, .slice a 0 c] ∧ RdV (Value.int .i64) 0 p ((W0.setCell ⟨w.heap.size + 1, 0, none⟩ (.int .i64 m)).setCell ⟨w.heap.size + 1, 1, none⟩ (.slice a 0 c)) (.slice a 0 c) [] ∧ Grow w ((W0.setCell ⟨w.heap.size + 1, 0, none⟩ (.int .i64 m)).setCell ⟨w.heap.size + 1, 1, none⟩ (.slice a 0 c))) := by
      have g3 : Grow w ((W0.setCell ⟨w.heap.size + 1, 0, none⟩ (.int .i64 m)).setCell ⟨w.heap.size + 1, 1, none⟩ (.slice a 0 c)) := UpdS.new HV.out.2.2 (upd_pair W0 (w.heap.size + 1) (.int .i64 m) (.slice a 0 c)) (fun i hi => by omega)
      exact ⟨HV.out.2.1.set2 _ _, H.out.grow g3, g3⟩
    go_wp2
    exact bodyPost_ret_by (results_cell_tmp2 rfl _ _ _ (.agg #[.int .i64 m, .slice a 0 c]) rfl (load_Q _ m _ _ HF.out.1 rfl)) rfl ⟨_, rfl, HF.out.2⟩

/-- a row of one number laid -/
theorem exec_int1 {w : World} {o : Oper} {a : Act} {x : Operand} {q : Int} (ho : o.op = .buildSlice 22 1 #[(0, x)]) (hx : a.eval x = .int .i64 q) :
    (execOp a.eval o).run Try.prog w = .ok (.value (.slice (some ⟨w.heap.size, 0, none⟩) 1 1)) (w.alloc (.cells #[.int .i64 q] 3)) := by
  generalize a.eval = ev at hx ⊢
  simp only [execOp, ho, hx, List.mapM_cons, Array.map, Array.toList]
  go_simp

set_option maxHeartbeats 1000000 in
theorem rput_any (w : World) (p : Nat → Prop) (m : Nat) (v : Value) (zs : List Int) (x : Int) (h : RdV (Value.int .i64) 0 p w v zs) (hle : zs.length ≤ m) (hm : m ≤ 1000) :
    Calls Try.prog 14 #[.agg #[.int .i64 m, v], .int .i64 x] w fun e w' => ∃ v', e = .returned (.tuple #[.agg #[.int .i64 m, v'], .int .i64 (putE m zs.length)]) ∧ RdV (Value.int .i64) 0 (fun i => p i ∨ w.heap.size ≤ i) w' v' (putL m zs x) ∧ Grow w w' := by
  obtain ⟨i0, hi, hz0, hz1, hz2⟩ := info_parts Try.infoIq
  have H : Hid (RdV (Value.int .i64) 0 p w v zs) := h
  obtain ⟨a, c, rfl⟩ := h.shape
  have HV : Hid (VarAt ((w.alloc (.cells #[.int .i64 m, .slice a zs.length c] 29)).alloc (.cells #[.int .i64 0, .slice none 0 0] 29)) w.heap.size [.int .i64 m, .slice a zs.length c] ∧ VarAt ((w.alloc (.cells #[.int .i64 m, .slice a zs.length c] 29)).alloc (.cells #[.int .i64 0, .slice none 0 0] 29)) (w.heap.size + 1) [.int .i64 0, .slice none 0 0] ∧ Grow w ((w.alloc (.cells #[.int .i64 m, .slice a zs.length c] 29)).alloc (.cells #[.int .i64 0, .slice none 0 0] 29))) :=
      ⟨(VarAt.new w [.int .i64 m, .slice a zs.length c] 29).old _, VarAt.new2 w _ [.int .i64 0, .slice none 0 0] 29, ((Grow.refl w).alloc _).alloc _⟩
  by_cases hmz : zs.length = m
  · have E : Hid (putE m zs.length = 8 ∧ putL m zs x = zs) := ⟨if_pos hmz, if_pos hmz⟩
    rw [E.out.1, E.out.2]
    have hge : (m : Int) ≤ (zs.length : Int) := by omega
    generalize zs.length = L at *
    clear h hmz E hle hi hz0 hz1 hz2
    go_enter Try.func14, Try.ntmps14
    obtain ⟨W0, hW0⟩ : ∃ W0, ((w.alloc (.cells #[.int .i64 m, .slice a L c] 29)).alloc (.cells #[.int .i64 0, .slice none 0 0] 29)) = W0 := ⟨_, rfl⟩
    rw [hW0] at HV
    obtain ⟨⟨c0, c1⟩, -⟩ := HV.out.1.two
    obtain ⟨⟨z0, z1⟩, fz0, fz1⟩ := HV.out.2.1.two
    have HF : Hid (VarAt ((W0.setCell ⟨w.heap.size + 1, 0, none⟩ (.int .i64 m)).setCell ⟨w.heap.size + 1, 1, none⟩ (.slice a L c)) (w.heap.size + 1) [.int .i64 m, .slice a L c] ∧ RdV (Value.int .i64) 0 (fun i => p i ∨ w.heap.size ≤ i) ((W0.setCell ⟨w.heap.size + 1, 0, none⟩ (.int .i64 m)).setCell ⟨w.heap.size + 1, 1, none⟩ (.slice a L c)) (.slice a L c) zs ∧ Grow w ((W0.setCell ⟨w.heap.size + 1, 0, none⟩ (.int .i64 m)).setCell ⟨w.heap.size + 1, 1, none⟩ (.slice a L c))) := by
      have g3 : Grow w ((W0.setCell ⟨w.heap.size + 1, 0, none⟩ (.int .i64 m)).setCell ⟨w.heap.size + 1, 1, none⟩ (.slice a L c)) := UpdS.new HV.out.2.2 (upd_pair W0 (w.heap.size + 1) (.int .i64 m) (.slice a L c)) (fun i hi => by omega)
      exact ⟨HV.out.2.1.set2 _ _, (H.out.grow g3).mono (fun i _ hi => .inl hi), g3⟩
    go_wp2
    exact bodyPost_ret_by (results_cell_tmp rfl _ _ _ (.agg #[.int .i64 m, .slice a L c]) rfl (load_Q _ m _ _ HF.out.1 rfl)) rfl ⟨_, rfl, HF.out.2⟩
  · have E : Hid (putE m zs.length = 0 ∧ putL m zs x = zs ++ [x]) := ⟨if_neg hmz, if_neg hmz⟩
    rw [E.out.1, E.out.2]
    have hge : ¬ (m : Int) ≤ (zs.length : Int) := by omega
    have hl : zs.length ≤ 1000 := by omega
    clear h hmz E hle
    go_enter Try.func14, Try.ntmps14
    obtain ⟨W0, hW0⟩ : ∃ W0, ((w.alloc (.cells #[.int .i64 m, .slice a zs.length c] 29)).alloc (.cells #[.int .i64 0, .slice none 0 0] 29)) = W0 := ⟨_, rfl⟩
    rw [hW0] at HV
    obtain ⟨⟨c0, c1⟩, -⟩ := HV.out.1.two
    have hsrc : Src Try.prog 1 22 (.slice a zs.length c) zs.length (zs.map (Value.int .i64)) W0 := (H.out.grow HV.out.2.2).src (P := Try.prog) oneIq Try.underlying22
    have hW0s : w.heap.size + 1 < W0.heap.size := HV.out.2.1.lt
    go_wp2_with (at_builtin; refine wpList_appV (f := Value.int .i64) (d := 0) (p := fun _ => False) rfl (.tmp 14) (.tmp 16) 22 22 rfl i0 (.int .i64 0) 8 Try.underlying22 hi hz0 hz1 hz2 rfl rfl rfl (OwnV.nil _ _ _ _ _) hsrc (by simp only [maxLen, List.length_nil]; omega) (by simp only [List.length_nil]; omega) ?_)
    intro v1 w1 ho1 hu1
    have g1 : Grow W0 w1 := UpdS.new (Grow.refl W0) hu1 (fun i hi => hi.elim)
    have ho1' : OwnV (Value.int .i64) 0 (fun i => i = W0.heap.size) w1 v1 zs := by simpa using ho1
    have HD : Hid (VarAt w1 w.heap.size [.int .i64 m, .slice a zs.length c] ∧ VarAt w1 (w.heap.size + 1) [.int .i64 0, .slice none 0 0] ∧ Grow w w1) := ⟨HV.out.1.grow g1, HV.out.2.1.grow g1, HV.out.2.2.trans g1⟩
    have gd : Grow w1 w1.drew := (Grow.refl w1).drew
    obtain ⟨v2, w2, hrun, ho2, hu2⟩ := run_appV (P := Try.prog) (f := Value.int .i64) (d := 0) (w := w1.drew.alloc (.cells #[.int .i64 x] 3)) 22 22 22 i0 (.int .i64 0) 8 Try.underlying22 hi hz0 hz1 hz2 rfl ((ho1'.grow gd).grow ((Grow.refl w1.drew).alloc _)) (Src.oneV (w := w1.drew) Try.underlying22 (Value.int .i64) x (oneIq x) 3) (by simp only [maxLen, List.length_singleton]; omega) (by simp only [List.length_singleton]; omega)
    have hs1 : W0.heap.size ≤ w1.heap.size := g1.size
    have hu3 : UpdS (fun i => w.heap.size + 1 ≤ i) (w1.drew.alloc (.cells #[.int .i64 x] 3)) w2 := hu2.mono (fun i hi => by omega)
    have hua : UpdS (fun i => w.heap.size + 1 ≤ i) w1.drew (w1.drew.alloc (.cells #[.int .i64 x] 3)) := Grow.s ((Grow.refl _).alloc _)
    have fx : ∀ w', UpdS (fun i => w.heap.size + 1 ≤ i) w1.drew w' → w'.cell? ⟨w.heap.size, 0, none⟩ = some (.int .i64 m) ∧ w'.cell? ⟨w.heap.size, 1, none⟩ = some (.slice a zs.length c) := fun w' hu => ((HD.out.1.grow gd).upd hu (by omega)).two.1
    have hv2 : VarAt w2 (w.heap.size + 1) [.int .i64 0, .slice none 0 0] := ((HD.out.2.1.grow gd).grow ((Grow.refl w1.drew).alloc _)).upd hu2 (by omega)
    have hrd2 := ho2.rd
    obtain ⟨a2, c2, hvv⟩ := ho2.shape
    generalize (zs ++ [x]).length = n2 at hvv
    subst hvv
    have HF : Hid (VarAt ((w2.setCell ⟨w.heap.size + 1, 0, none⟩ (.int .i64 m)).setCell ⟨w.heap.size + 1, 1, none⟩ (.slice a2 n2 c2)) (w.heap.size + 1) [.int .i64 m, .slice a2 n2 c2] ∧ RdV (Value.int .i64) 0 (fun i => p i ∨ w.heap.size ≤ i) ((w2.setCell ⟨w.heap.size + 1, 0, none⟩ (.int .i64 m)).setCell ⟨w.heap.size + 1, 1, none⟩ (.slice a2 n2 c2)) (.slice a2 n2 c2) (zs ++ [x]) ∧ Grow w ((w2.setCell ⟨w.heap.size + 1, 0, none⟩ (.int .i64 m)).setCell ⟨w.heap.size + 1, 1, none⟩ (.slice a2 n2 c2))) := by
      have g3 : Grow w ((w2.setCell ⟨w.heap.size + 1, 0, none⟩ (.int .i64 m)).setCell ⟨w.heap.size + 1, 1, none⟩ (.slice a2 n2 c2)) := UpdS.new (HD.out.2.2.trans gd) ((hua.trans hu3).trans ((upd_pair w2 (w.heap.size + 1) (.int .i64 m) (.slice a2 n2 c2)).mono (fun i hi => by omega))) (fun i hi => by omega)
      refine ⟨hv2.set2 _ _, (hrd2.upd (upd_pair w2 (w.heap.size + 1) (.int .i64 m) (.slice a2 n2 c2)) (fun i _ hi => ?_)).mono (fun i _ hi => .inr ?_), g3⟩
      · have e2 : (w1.drew.alloc (.cells #[.int .i64 x] 3)).heap.size = w1.heap.size + 1 := World.size_alloc _ _
        omega
      · have e2 : (w1.drew.alloc (.cells #[.int .i64 x] 3)).heap.size = w1.heap.size + 1 := World.size_alloc _ _
        omega
    obtain ⟨⟨z0, z1⟩, fz0, fz1⟩ := hv2.two
    clear ho1 hu1 hrd2 ho2 hv2 g1 ho1' hsrc c0 c1 hi hz0 hz1 hz2 H HV
    go_wp2
    refine wp_region_schedG (UpdS (fun i => w.heap.size + 1 ≤ i)) (UpdS.refl _) (fun _ _ _ => UpdS.trans) (by kernel_rfl) [(0, false), (1, false), (2, false), (3, false), (4, true), (5, true), (6, false), (7, true), (8, false)] (by kernel_rfl) (by kernel_rfl) rfl (fun _ _ d _ _ h => by cases d <;> exact h) ?_
    simp only [inOrder, List.filterMap_cons, List.filterMap_nil, List.getElem?_toArray, List.getElem?_cons_zero, List.getElem?_cons_succ, Option.map_some]
    repeat (first
      | (refine wpS_move rfl ?_; simp only [Act.eval, Act.put, Array.getD_eq_getD_getElem?, List.getElem?_toArray, List.getElem?_cons_zero, List.getElem?_cons_succ, Option.getD_some, List.setIfInBounds_toArray, List.set_cons_zero, List.set_cons_succ])
      | (refine wpS_assign rfl ?_; simp only [Act.eval, Act.put, Array.getD_eq_getD_getElem?, List.getElem?_toArray, List.getElem?_cons_zero, List.getElem?_cons_succ, Option.getD_some, List.setIfInBounds_toArray, List.set_cons_zero, List.set_cons_succ])
      | (refine wpS_read (v := ?_) rfl ?_ ?_; rotate_left; (focus (intro w' hG; obtain ⟨q0, q1⟩ := fx w' hG; go_simp; try (with_reducible rfl))); simp only [Act.put, List.setIfInBounds_toArray, List.set_cons_zero, List.set_cons_succ])
      | (refine wpS_skip rfl ?_; simp only [Act.put, List.setIfInBounds_toArray, List.set_cons_zero, List.set_cons_succ]))
    refine wpS_act rfl (exec_int1 rfl rfl) hua ?_
    simp only [Act.put, List.setIfInBounds_toArray, List.set_cons_zero, List.set_cons_succ]
    refine wpS_act (v := .slice a2 n2 c2) (w' := w2) rfl (exec_app rfl rfl rfl hrun) hu3 ?_
    simp only [Act.put, List.setIfInBounds_toArray, List.set_cons_zero, List.set_cons_succ]
    repeat (first
      | (refine wpS_move rfl ?_; simp only [Act.eval, Act.put, Array.getD_eq_getD_getElem?, List.getElem?_toArray, List.getElem?_cons_zero, List.getElem?_cons_succ, Option.getD_some, List.setIfInBounds_toArray, List.set_cons_zero, List.set_cons_succ])
      | (refine wpS_assign rfl ?_; simp only [Act.eval, Act.put, Array.getD_eq_getD_getElem?, List.getElem?_toArray, List.getElem?_cons_zero, List.getElem?_cons_succ, Option.getD_some, List.setIfInBounds_toArray, List.set_cons_zero, List.set_cons_succ])
      | (refine wpS_read (v := ?_) rfl ?_ ?_; rotate_left; (focus (intro w' hG; skip; go_simp; try (with_reducible rfl))); simp only [Act.put, List.setIfInBounds_toArray, List.set_cons_zero, List.set_cons_succ])
      | (refine wpS_skip rfl ?_; simp only [Act.put, List.setIfInBounds_toArray, List.set_cons_zero, List.set_cons_succ]))
    refine wpS_store (w' := ((w2.setCell ⟨w.heap.size + 1, 0, none⟩ (.int .i64 m)).setCell ⟨w.heap.size + 1, 1, none⟩ (.slice a2 n2 c2))) rfl (by go_simp) ((upd_pair w2 (w.heap.size + 1) (.int .i64 m) (.slice a2 n2 c2)).mono (fun i hi => by omega)) ?_
    simp only [Act.put, List.setIfInBounds_toArray, List.set_cons_zero, List.set_cons_succ]
    repeat (first
      | (refine wpS_move rfl ?_; simp only [Act.eval, Act.put, Array.getD_eq_getD_getElem?, List.getElem?_toArray, List.getElem?_cons_zero, List.getElem?_cons_succ, Option.getD_some, List.setIfInBounds_toArray, List.set_cons_zero, List.set_cons_succ])
      | (refine wpS_assign rfl ?_; simp only [Act.eval, Act.put, Array.getD_eq_getD_getElem?, List.getElem?_toArray, List.getElem?_cons_zero, List.getElem?_cons_succ, Option.getD_some, List.setIfInBounds_toArray, List.set_cons_zero, List.set_cons_succ])
      | (refine wpS_read (v := ?_) rfl ?_ ?_; rotate_left; (focus (intro w' hG; skip; go_simp; try (with_reducible rfl))); simp only [Act.put, List.setIfInBounds_toArray, List.set_cons_zero, List.set_cons_succ])
      | (refine wpS_skip rfl ?_; simp only [Act.put, List.setIfInBounds_toArray, List.set_cons_zero, List.set_cons_succ]))
    refine wpS_nil ?_
    clear fx hrun hu2 hu3 hua z0 z1 fz0 fz1
    go_wp2
    exact bodyPost_ret_by (results_cell_tmp rfl _ _ _ (.agg #[.int .i64 m, .slice a2 n2 c2]) rfl (load_Q _ m _ _ HF.out.1 rfl)) rfl ⟨_, rfl, HF.out.2⟩
end Go.Proofs.Ytmnaadbemlecpaa
