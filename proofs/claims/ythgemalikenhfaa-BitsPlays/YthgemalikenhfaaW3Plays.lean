/-
  The walk of the law BitsPlays. Conditions: each theorem's own.
-/
import Derived.Test.YthgemalikenhfaaBitsSame
namespace Go.Proofs.Ythgemalikenhfaa
open Go.RowKit
set_option linter.unusedVariables false
set_option linter.unusedSimpArgs false

/-- The document's stream in a variable at block cb: its bits (read in blocks of p), its number. -/
def RefAt (p : Nat → Prop) (w : World) (cb : Nat) (ls : List Bool) (n : Int) : Prop :=
  ∃ a c, w.cell? ⟨cb, 0, none⟩ = some (.slice a ls.length c) ∧ w.cell? ⟨cb, 1, none⟩ = some (.int .i64 n) ∧ w.frozen? ⟨cb, 0, none⟩ = false ∧ w.frozen? ⟨cb, 1, none⟩ = false ∧
    RdV Value.bool false p w (.slice a ls.length c) ls
theorem RefAt.lt {p : Nat → Prop} {w : World} {cb : Nat} {ls : List Bool} {n : Int} (h : RefAt p w cb ls n) : cb < w.heap.size := by
  obtain ⟨a, c, h0, _⟩ := h
  exact World.block_lt_of_cell? _ _ h0
theorem RefAt.upd {S p : Nat → Prop} {w w' : World} {cb : Nat} {ls : List Bool} {n : Int} (h : RefAt p w cb ls n) (hu : UpdS S w w') (hb : ¬ S cb) (hS : ∀ i, i < w.heap.size → p i → ¬ S i) : RefAt p w' cb ls n := by
  have hlt := h.lt
  obtain ⟨a, c, h0, h1, f0, f1, hr⟩ := h
  refine ⟨a, c, ?_, ?_, ?_, ?_, hr.upd hu hS⟩
  · rw [hu.cell (p := ⟨cb, 0, none⟩) hlt hb]; exact h0
  · rw [hu.cell (p := ⟨cb, 1, none⟩) hlt hb]; exact h1
  · rw [hu.frozen (p := ⟨cb, 0, none⟩) hlt hb]; exact f0
  · rw [hu.frozen (p := ⟨cb, 1, none⟩) hlt hb]; exact f1
theorem RefAt.grow {p : Nat → Prop} {w w' : World} {cb : Nat} {ls : List Bool} {n : Int} (h : RefAt p w cb ls n) (hu : Grow w w') : RefAt p w' cb ls n := h.upd (S := fun _ => False) hu.s (fun f => f) (fun _ _ _ f => f)
theorem RefAt.mono {p q : Nat → Prop} {w : World} {cb : Nat} {ls : List Bool} {n : Int} (h : RefAt p w cb ls n) (hp : ∀ i, i < w.heap.size → p i → q i) : RefAt q w cb ls n := by
  obtain ⟨a, c, h0, h1, f0, f1, hr⟩ := h
  exact ⟨a, c, h0, h1, f0, f1, hr.mono hp⟩
/-- both set -/
theorem RefAt.set {p q : Nat → Prop} {w : World} {cb : Nat} {ls ls' : List Bool} {n : Int} {v : Value} (n' : Int) (h : RefAt p w cb ls n) (hr : RdV Value.bool false q w v ls') (hq : ∀ i, i < w.heap.size → q i → i ≠ cb) :
    RefAt q ((w.setCell ⟨cb, 0, none⟩ v).setCell ⟨cb, 1, none⟩ (.int .i64 n')) cb ls' n' := by
  obtain ⟨a, c, h0, h1, f0, f1, _⟩ := h
  have hu : UpdS (fun k => k = cb) w ((w.setCell ⟨cb, 0, none⟩ v).setCell ⟨cb, 1, none⟩ (.int .i64 n')) := (UpdS.setCell (fun k => k = cb) ⟨cb, 0, none⟩ v w rfl).trans (UpdS.setCell (fun k => k = cb) ⟨cb, 1, none⟩ _ _ rfl)
  have hr' := hr.upd hu hq
  obtain ⟨a', c', hv⟩ := hr.shape
  refine ⟨a', c', ?_, ?_, ?_, ?_, by rw [← hv]; exact hr'⟩
  · rw [World.cell?_setCell_other _ _ _ _ (by simp), World.cell?_setCell_same' w _ _ (by rw [h0]; rfl), hv]
  · exact World.cell?_setCell_same' _ _ _ (by rw [World.cell?_setCell_other _ _ _ _ (by simp), h1]; rfl)
  · rw [World.frozen?_setCell, World.frozen?_setCell]; exact f0
  · rw [World.frozen?_setCell, World.frozen?_setCell]; exact f1
theorem upd_two (cb : Nat) (u v : Value) (w : World) : UpdS (fun k => k = cb) w ((w.setCell ⟨cb, 0, none⟩ u).setCell ⟨cb, 1, none⟩ v) :=
  (UpdS.setCell (fun k => k = cb) ⟨cb, 0, none⟩ u w rfl).trans (UpdS.setCell (fun k => k = cb) ⟨cb, 1, none⟩ _ _ rfl)

set_option maxHeartbeats 4000000 in
theorem bitsPlays_walk (lv : Value) (l : List Bool) (cv : Value) (cs : List Int) (mv : Value) (mo : List Bool) (w : World) (hl : RdV Value.bool false (fun i => i < w.heap.size) w lv l) (hc : Rd .i64 w.heap.size w cv cs)
    (hcw : ∀ n ∈ cs, (Lit.int .i64 n).wf = true) (hm : RdV Value.bool false (fun i => i < w.heap.size) w mv mo) :
    Calls Try.prog 3 #[lv, cv, mv] w fun e w' => e = .returned (.bool true) ∧ Below w.heap.size w w' := by
  obtain ⟨O, hO⟩ : ∃ O, O = l.take 12 := ⟨_, rfl⟩
  have lO : O.length ≤ 12 := by rw [hO, List.length_take]; omega
  have fO : ∀ w', Grow w w' → Calls Try.prog 9 #[lv, .int .i64 12] w' fun e w'' => ∃ v', e = .returned v' ∧ RdV Value.bool false (fun i => i < w.heap.size) w' v' O ∧ w' = w'' := fun w' hg => by
    rw [hO]; exact bfew_any lv l 12 12 _ w' rfl (hl.grow hg) (by omega)
  obtain ⟨M, hM⟩ : ∃ M, M = mo.take 4 := ⟨_, rfl⟩
  have lM : M.length ≤ 4 := by rw [hM, List.length_take]; omega
  have fM : ∀ w', Grow w w' → Calls Try.prog 9 #[mv, .int .i64 4] w' fun e w'' => ∃ v', e = .returned v' ∧ RdV Value.bool false (fun i => i < w.heap.size) w' v' M ∧ w' = w'' := fun w' hg => by
    rw [hM]; exact bfew_any mv mo 4 4 _ w' rfl (hm.grow hg) (by omega)
  clear hO hM hl hm
  have hcl := hc.len
  unfold maxLen at hcl
  have HC : Hid (Rd .i64 w.heap.size w cv cs) := hc
  obtain ⟨ac, cc, rfl, -⟩ := hc
  go_enter Try.func3, Try.ntmps3
  go_wp2_with fail
  refine (fO w (Grow.refl _)).mono ?_
  rintro e w0 ⟨v1, rfl, h1, rfl⟩
  go_wp2_with fail
  refine (bnew_any _ O _ w h1 (by omega)).mono ?_
  rintro e w1 ⟨b, g, rfl, t1, g1, hg, hb⟩
  clear h1
  go_wp2_with fail
  refine (fO w1 g1).mono ?_
  rintro e w0 ⟨v2, rfl, h2, rfl⟩
  obtain ⟨a2, c2, rfl⟩ := h2.shape
  have s1 := g1.size
  have l1 := t1.lt
  have hR : RefAt (fun i => i ≠ b ∧ i ≠ g ∧ i ≠ w1.heap.size) (w1.alloc (.cells #[.slice a2 O.length c2, .int .i64 0] 28)) w1.heap.size O 0 :=
    ⟨a2, c2, by simp, by simp, by simp, by simp, (h2.mono (fun i hi h => ⟨by omega, by omega, by omega⟩)).grow ((Grow.refl w1).alloc _)⟩
  have hS : StrAt (w1.alloc (.cells #[.slice a2 O.length c2, .int .i64 0] 28)) b g O 0 := t1.grow ((Grow.refl w1).alloc _)
  have HI : Hid (RefAt (fun i => i ≠ b ∧ i ≠ g ∧ i ≠ w1.heap.size) (w1.alloc (.cells #[.slice a2 O.length c2, .int .i64 0] 28)) w1.heap.size O 0 ∧ StrAt (w1.alloc (.cells #[.slice a2 O.length c2, .int .i64 0] 28)) b g O 0 ∧ Grow w (w1.alloc (.cells #[.slice a2 O.length c2, .int .i64 0] 28)) ∧ w.heap.size ≤ b ∧ w.heap.size ≤ g ∧ w.heap.size ≤ w1.heap.size ∧ w1.heap.size ≠ b ∧ w1.heap.size ≠ g) :=
    ⟨hR, hS, g1.alloc _, hb, hg, by omega, by omega, by omega⟩
  clear hR hS h2 t1 g1 hg hb s1 l1
  go_wp2
  generalize w1.alloc (.cells #[.slice a2 O.length c2, .int .i64 0] 28) = w2 at HI ⊢
  generalize w1.heap.size = cb at HI ⊢
  clear w1 
  go_loopg [9] 6 (fun k i wr => ∃ j : Nat, k = 6 - j ∧ j ≤ 6 ∧ i = .int .i64 j ∧ ∃ (gg : Nat) (ls : List Bool) (n : Int), Hid (RefAt (fun i => i ≠ b ∧ i ≠ gg ∧ i ≠ cb) wr cb ls n ∧ StrAt wr b gg ls n ∧ Grow w wr ∧ w.heap.size ≤ b ∧ w.heap.size ≤ gg ∧ w.heap.size ≤ cb ∧ cb ≠ b ∧ cb ≠ gg) ∧ 0 ≤ n ∧ n ≤ 10 * j ∧ ls.length ≤ 12 + 4 * j)
  case atStart => exact ⟨0, rfl, by omega, rfl, g, O, 0, HI, by omega, by omega, by omega⟩
  case round =>
    obtain ⟨j, hk, hj, rfl, g1, l1, n1, X0, hn10, hn11, hl1⟩ := hrel
    by_cases hlt : j < cs.length ∧ j < 6
    · have hlt1 : (j : Int) < (cs.length : Int) := by omega
      have hlt2 : (j : Int) < 6 := by omega
      have HJ : Hid (j < 6) := hlt.2
      have hwz : (Lit.int .i64 (cs.getD j 0)).wf = true := by
        refine hcw _ ?_
        have : cs.getD j 0 = cs[j]'hlt.1 := by simp [List.getD, List.getElem?_eq_getElem hlt.1]
        rw [this]; exact List.getElem_mem _
      obtain ⟨-, -, -, b1, o1, e1, hb1, hc1⟩ := HC.out.addr (by omega)
      have f1 : wr.cell? ⟨b1, o1 + j, none⟩ = some (.int .i64 (cs.getD j 0)) := by
        rw [Below.cell (p := ⟨b1, o1 + j, none⟩) X0.out.2.2.1 hb1]; exact hc1 j hlt.1
      clear hc1 hlt
      generalize cs.getD j 0 = z at f1 hwz
      have hac := around_any z 5 wr hwz (by omega) (by omega)
      have hab := around_bd z 5 (by omega)
      obtain ⟨K0, hK0⟩ := Int.eq_ofNat_of_zero_le hab.1
      rw [hK0] at hac hab
      have hK5 : K0 < 5 := by omega
      clear hK0 hab hwz
      subst e1
      obtain ⟨w2', hw2'⟩ : ∃ w2', w2' = wr := ⟨_, rfl⟩
      subst hw2'
      go_wp2_with fail
      refine hac.mono ?_
      rintro e w0 ⟨rfl, rfl⟩
      clear hac f1
      go_wp2
      go_loopg [10] K0 (fun k i wr => i = .int .i64 k ∧ k ≤ 4 ∧ ∃ (gg : Nat) (ls : List Bool) (n : Int), Hid (RefAt (fun i => i ≠ b ∧ i ≠ gg ∧ i ≠ cb) wr cb ls n ∧ StrAt wr b gg ls n ∧ Grow w wr ∧ w.heap.size ≤ b ∧ w.heap.size ≤ gg ∧ w.heap.size ≤ cb ∧ cb ≠ b ∧ cb ≠ gg) ∧ 0 ≤ n ∧ n + k ≤ 10 * j + 4 ∧ ls.length ≤ 12 + 4 * j)
      case atStart => exact ⟨rfl, by omega, g1, l1, n1, X0, hn10, by omega, hl1⟩
      case round =>
        obtain ⟨rfl, hk4, gg, ls, n, X, hn0, hn1, hls⟩ := hrel
        by_cases hlt : 0 < gk
        · have hlt' : (0 : Int) < (gk : Int) := by omega
          have HK : Hid (0 < gk) := hlt
          clear hlt
          obtain ⟨a0, c0, k0, k1, z0, z1, hrr⟩ := X.out.1
          go_wp2_with fail
          refine (rnext_any _ ls n _ wr hrr hn0 (by omega)).mono ?_
          rintro e w3 ⟨lv3, rfl, r3, q3⟩
          obtain ⟨a3, c3, rfl⟩ := r3.shape
          have x3 : RefAt (fun i => i ≠ b ∧ i ≠ gg ∧ i ≠ cb) w3 cb ls n := X.out.1.grow q3
          have x3' := x3.set (n + (min 1 ls.length : Nat)) r3 (fun i _ h => h.2.2)
          have hcl3 := x3.lt
          obtain ⟨a9, c9, k0, k1, z0, z1, -⟩ := x3
          have k0' : ∀ o, (w3.alloc o).cell? ⟨cb, 0, none⟩ = some (.slice a9 ls.length c9) := fun o => by rw [Below.cell (p := ⟨cb, 0, none⟩) ((Grow.refl w3).alloc o) hcl3]; exact k0
          have k1' : ∀ o, (w3.alloc o).cell? ⟨cb, 1, none⟩ = some (.int .i64 n) := fun o => by rw [Below.cell (p := ⟨cb, 1, none⟩) ((Grow.refl w3).alloc o) hcl3]; exact k1
          have z0' : ∀ o, (w3.alloc o).frozen? ⟨cb, 0, none⟩ = false := fun o => by rw [Below.frozen (p := ⟨cb, 0, none⟩) ((Grow.refl w3).alloc o) hcl3]; exact z0
          have z1' : ∀ o, (w3.alloc o).frozen? ⟨cb, 1, none⟩ = false := fun o => by rw [Below.frozen (p := ⟨cb, 1, none⟩) ((Grow.refl w3).alloc o) hcl3]; exact z1
          obtain ⟨n', hn'⟩ : ∃ n', n' = n + ((min 1 ls.length : Nat) : Int) := ⟨_, rfl⟩
          rw [← hn'] at x3' ⊢
          have hnn : 0 ≤ n' ∧ n' ≤ n + 1 := by omega
          obtain ⟨ls', hls'⟩ : ∃ ls', ls' = ls.drop 1 := ⟨_, rfl⟩
          have hll : ls'.length ≤ ls.length := by rw [hls', List.length_drop]; omega
          have hnx := fun w2 (h : StrAt w2 b gg ls n) => bnext_any b gg ls n w2 h hn0 (by omega)
          rw [← hn', ← hls'] at hnx
          rw [← hls'] at x3' ⊢
          have s3 : StrAt w3 b gg ls n := X.out.2.1.grow q3
          have W3 : Hid (RefAt (fun i => i ≠ b ∧ i ≠ gg ∧ i ≠ cb) ((w3.setCell ⟨cb, 0, none⟩ (.slice a3 ls'.length c3)).setCell ⟨cb, 1, none⟩ (.int .i64 n')) cb ls' n' ∧ StrAt w3 b gg ls n ∧ Grow wr w3) := ⟨x3', s3, q3⟩
          clear x3' s3 q3 r3 hn'
          generalize ls.getD 0 false = x at hnx ⊢
          clear hls'
          have hu4 : UpdS (fun k => k = cb) w3 ((w3.setCell ⟨cb, 0, none⟩ (.slice a3 ls'.length c3)).setCell ⟨cb, 1, none⟩ (.int .i64 n')) := upd_two cb _ _ w3
          have W4 : Hid (RefAt (fun i => i ≠ b ∧ i ≠ gg ∧ i ≠ cb) ((((w3.setCell ⟨cb, 0, none⟩ (.slice a3 ls'.length c3)).setCell ⟨cb, 1, none⟩ (.int .i64 n'))).alloc (.cells #[.slice a3 ls'.length c3, .int .i64 n'] 28)) cb ls' n' ∧ StrAt ((((w3.setCell ⟨cb, 0, none⟩ (.slice a3 ls'.length c3)).setCell ⟨cb, 1, none⟩ (.int .i64 n'))).alloc (.cells #[.slice a3 ls'.length c3, .int .i64 n'] 28)) b gg ls n ∧ Grow w ((((w3.setCell ⟨cb, 0, none⟩ (.slice a3 ls'.length c3)).setCell ⟨cb, 1, none⟩ (.int .i64 n'))).alloc (.cells #[.slice a3 ls'.length c3, .int .i64 n'] 28))) := by
            obtain ⟨-, -, xg, hb0, hg0, hcb0, hcb1, hcb2⟩ := X.out
            refine ⟨W3.out.1.grow ((Grow.refl _).alloc _), (W3.out.2.1.upd hu4 (by omega) (by omega)).grow ((Grow.refl _).alloc _), ?_⟩
            exact (UpdS.new (xg.trans W3.out.2.2) hu4 (fun i hi => by omega)).alloc _
          clear hu4
          go_wp2
          clear k0' k1' z0' z1' k0 k1 z0 z1 W3
          generalize ((((w3.setCell ⟨cb, 0, none⟩ (.slice a3 ls'.length c3)).setCell ⟨cb, 1, none⟩ (.int .i64 n'))).alloc (.cells #[.slice a3 ls'.length c3, .int .i64 n'] 28)) = w4 at W4 ⊢
          have hnx4 := hnx w4.drew (W4.out.2.1.grow (Grow.refl _).drew)
          have f4 : ∀ w', UpdS (fun i => i = b) w4.drew w' → w'.cell? ⟨cb, 1, none⟩ = some (.int .i64 n') := fun w' hG => by
            have hlt4 := W4.out.1.lt
            obtain ⟨-, -, xg, hb0, hg0, hcb0, hcb1, hcb2⟩ := X.out
            obtain ⟨a8, c8, m0, m1, -⟩ := W4.out.1
            rw [hG.cell (p := ⟨cb, 1, none⟩) hlt4 hcb1]
            simpa using m1
          clear hnx
          have hw1 : IntKind.i64.wrap ((gk : Int) - 1) = (gk : Int) - 1 := by have := HK.out; rw [IntKind.wrap_i64]; omega
          refine wp_region_schedG (UpdS (fun i => i = b)) (UpdS.refl _) (fun _ _ _ => UpdS.trans) (by kernel_rfl) [(0, false), (2, false), (1, true), (3, false), (4, false), (5, false), (7, false), (8, false), (6, true), (9, false), (10, false)] (by kernel_rfl) (by kernel_rfl) rfl (fun _ _ d _ _ h => by cases d <;> exact h) ?_
          simp only [inOrder, List.filterMap_cons, List.filterMap_nil, List.getElem?_toArray, List.getElem?_cons_zero, List.getElem?_cons_succ, Option.map_some]
          repeat (first
            | (refine wpS_move rfl ?_; simp only [Act.eval, Act.put, Array.getD_eq_getD_getElem?, List.getElem?_toArray, List.getElem?_cons_zero, List.getElem?_cons_succ, Option.getD_some, List.setIfInBounds_toArray, List.set_cons_zero, List.set_cons_succ])
            | (refine wpS_assign rfl ?_; simp only [Act.eval, Act.put, Array.getD_eq_getD_getElem?, List.getElem?_toArray, List.getElem?_cons_zero, List.getElem?_cons_succ, Option.getD_some, List.setIfInBounds_toArray, List.set_cons_zero, List.set_cons_succ])
            | (refine wpS_read (v := ?_) rfl ?_ ?_; rotate_left; (focus (intro w' hG; go_simp; try (with_reducible rfl))); simp only [Act.put, List.setIfInBounds_toArray, List.set_cons_zero, List.set_cons_succ])
            | (refine wpS_skip rfl ?_; simp only [Act.put, List.setIfInBounds_toArray, List.set_cons_zero, List.set_cons_succ]))
          refine wpS_call (f := ?_) (args := ?_) (by rfl) ?_ ?_
          rotate_left 2; focus (go_simp; constructor <;> with_reducible rfl)
          refine (hnx4).mono ?_
          rintro e w5 ⟨rfl, t5, u5⟩
          refine ⟨_, rfl, u5, ?_⟩
          simp only [Act.put, List.setIfInBounds_toArray, List.set_cons_zero, List.set_cons_succ]
          have f5 : ∀ w', UpdS (fun i => i = b) w5 w' → w'.cell? ⟨cb, 1, none⟩ = some (.int .i64 n') := fun w' hG => f4 w' (u5.trans hG)
          repeat (first
            | (refine wpS_move rfl ?_; simp only [Act.eval, Act.put, Array.getD_eq_getD_getElem?, List.getElem?_toArray, List.getElem?_cons_zero, List.getElem?_cons_succ, Option.getD_some, List.setIfInBounds_toArray, List.set_cons_zero, List.set_cons_succ])
            | (refine wpS_assign rfl ?_; simp only [Act.eval, Act.put, Array.getD_eq_getD_getElem?, List.getElem?_toArray, List.getElem?_cons_zero, List.getElem?_cons_succ, Option.getD_some, List.setIfInBounds_toArray, List.set_cons_zero, List.set_cons_succ])
            | (refine wpS_read (v := ?_) rfl ?_ ?_; rotate_left; (focus (intro w' hG; go_simp; try (with_reducible rfl))); simp only [Act.put, List.setIfInBounds_toArray, List.set_cons_zero, List.set_cons_succ])
            | (refine wpS_skip rfl ?_; simp only [Act.put, List.setIfInBounds_toArray, List.set_cons_zero, List.set_cons_succ]))
          refine wpS_call (f := ?_) (args := ?_) (by rfl) ?_ ?_
          rotate_left 2; focus (go_simp; constructor <;> with_reducible rfl)
          refine (bat_any b gg ls' n' w5 t5).mono ?_
          rintro e w6 ⟨rfl, rfl⟩
          refine ⟨_, rfl, UpdS.refl _ _, ?_⟩
          simp only [Act.put, List.setIfInBounds_toArray, List.set_cons_zero, List.set_cons_succ]
          repeat (first
            | (refine wpS_move rfl ?_; simp only [Act.eval, Act.put, Array.getD_eq_getD_getElem?, List.getElem?_toArray, List.getElem?_cons_zero, List.getElem?_cons_succ, Option.getD_some, List.setIfInBounds_toArray, List.set_cons_zero, List.set_cons_succ])
            | (refine wpS_assign rfl ?_; simp only [Act.eval, Act.put, Array.getD_eq_getD_getElem?, List.getElem?_toArray, List.getElem?_cons_zero, List.getElem?_cons_succ, Option.getD_some, List.setIfInBounds_toArray, List.set_cons_zero, List.set_cons_succ])
            | (refine wpS_read (v := ?_) rfl ?_ ?_; rotate_left; (focus (intro w' hG; go_simp; try (with_reducible rfl))); simp only [Act.put, List.setIfInBounds_toArray, List.set_cons_zero, List.set_cons_succ])
            | (refine wpS_skip rfl ?_; simp only [Act.put, List.setIfInBounds_toArray, List.set_cons_zero, List.set_cons_succ]))
          refine wpS_nil ?_
          go_wp2
          have HX : Hid (RefAt (fun i => i ≠ b ∧ i ≠ gg ∧ i ≠ cb) w5 cb ls' n' ∧ StrAt w5 b gg ls' n' ∧ Grow w w5 ∧ w.heap.size ≤ b ∧ w.heap.size ≤ gg ∧ w.heap.size ≤ cb ∧ cb ≠ b ∧ cb ≠ gg) := by
            obtain ⟨-, -, xg, hb0, hg0, hcb0, hcb1, hcb2⟩ := X.out
            exact ⟨(W4.out.1.grow (Grow.refl _).drew).upd u5 (by omega) (fun i _ h => h.1), t5, UpdS.new (W4.out.2.2.drew) u5 (fun i hi => by omega), hb0, hg0, hcb0, hcb1, hcb2⟩
          go_roundg (gk - 1)
          case measure => have := HK.out; omega
          case rel =>
            have hk0 := HK.out
            refine ⟨?_, by omega, gg, ls', n', HX, hnn.1, by omega, by omega⟩
            rw [show ((gk - 1 : Nat) : Int) = (gk : Int) - 1 by omega]
        · have hgk : gk = 0 := by omega
          subst hgk
          clear hlt
          obtain ⟨a0, c0, k0, k1, z0, z1, hrr⟩ := X.out.1
          have hclt := X.out.1.lt
          have hslt := X.out.2.1.lt
          obtain ⟨LM, hLM⟩ : ∃ LM, LM = ls ++ M := ⟨_, rfl⟩
          have hLl : LM.length ≤ 12 + 4 * (j + 1) := by rw [hLM, List.length_append]; omega
          have hra := fun v6 (h6 : RdV Value.bool false (fun i => i < w.heap.size) wr.drew v6 M) => radd_any _ ls n _ v6 M _ wr.drew (hrr.grow (Grow.refl _).drew) h6 (by omega)
          have hba := fun w8 (v6 : Value) (t8 : StrAt w8 b gg ls n) (h6 : RdV Value.bool false (fun i => i < w.heap.size) w8 v6 M) => badd_any b gg ls n v6 M _ w8 t8 h6 (by omega)
          rw [← hLM] at hra hba
          clear hLM
          have hc7 : ∀ w7, Grow wr.drew w7 → w7.cell? ⟨cb, 0, none⟩ = some (.slice a0 ls.length c0) ∧ w7.cell? ⟨cb, 1, none⟩ = some (.int .i64 n) ∧ w7.frozen? ⟨cb, 0, none⟩ = false ∧ w7.frozen? ⟨cb, 1, none⟩ = false := fun w7 h => by
            rw [Below.cell (p := ⟨cb, 0, none⟩) h hclt, Below.cell (p := ⟨cb, 1, none⟩) h hclt, Below.frozen (p := ⟨cb, 0, none⟩) h hclt, Below.frozen (p := ⟨cb, 1, none⟩) h hclt]
            exact ⟨k0, k1, z0, z1⟩
          go_wp2
          go_region_with (first
            | (go_at_call 9; refine (fM _ (X.out.2.2.1.drew)).mono ?_; rintro e w0 ⟨v6, rfl, h6, rfl⟩)
            | (go_at_call 14; refine (hra _ h6).mono ?_; rintro e w7 ⟨lv7, rfl, o7, q7⟩; obtain ⟨a7, c7, rfl⟩ := o7.shape; obtain ⟨m0, m1, y0, y1⟩ := hc7 w7 q7))
          all_goals
            have W8 : Hid (RefAt (fun i => i ≠ b ∧ i ≠ gg ∧ i ≠ cb) ((w7.setCell ⟨cb, 0, none⟩ (.slice a7 LM.length c7)).setCell ⟨cb, 1, none⟩ (.int .i64 n)) cb LM n ∧ StrAt ((w7.setCell ⟨cb, 0, none⟩ (.slice a7 LM.length c7)).setCell ⟨cb, 1, none⟩ (.int .i64 n)) b gg ls n ∧ Grow w ((w7.setCell ⟨cb, 0, none⟩ (.slice a7 LM.length c7)).setCell ⟨cb, 1, none⟩ (.int .i64 n))) := by
              obtain ⟨x1, x2, xg, hb0, hg0, hcb0, hcb1, hcb2⟩ := X.out
              have hsd : wr.drew.heap.size = wr.heap.size := rfl
              have x7 := (x1.grow (Grow.refl _).drew).grow q7
              have r7 : RdV Value.bool false (fun i => i ≠ b ∧ i ≠ gg ∧ i ≠ cb) w7 (.slice a7 LM.length c7) LM := o7.rd.mono (fun i hi h => ⟨by omega, by omega, by omega⟩)
              exact ⟨x7.set n r7 (fun i _ h => h.2.2), ((x2.grow (Grow.refl _).drew).grow q7).upd (upd_two cb _ _ w7) (by omega) (by omega), UpdS.new (xg.drew.trans q7) (upd_two cb _ _ w7) (fun i hi => by omega)⟩
            clear m0 m1 y0 y1 hc7 hra k0 k1 z0 z1 hrr o7 q7 h6
            go_wp2_with fail
            generalize ((w7.setCell ⟨cb, 0, none⟩ (.slice a7 LM.length c7)).setCell ⟨cb, 1, none⟩ (.int .i64 n)) = w8 at W8 ⊢
            refine (fM w8 W8.out.2.2).mono ?_
            rintro e w0 ⟨v8, rfl, h8, rfl⟩
            go_wp2_with fail
            refine (hba w8 v8 W8.out.2.1 h8).mono ?_
            rintro e w9 ⟨g9, rfl, t9, u9, hg9⟩
            have HX : Hid (RefAt (fun i => i ≠ b ∧ i ≠ g9 ∧ i ≠ cb) w9 cb LM n ∧ StrAt w9 b g9 LM n ∧ Grow w w9 ∧ w.heap.size ≤ b ∧ w.heap.size ≤ g9 ∧ w.heap.size ≤ cb ∧ cb ≠ b ∧ cb ≠ g9) := by
              obtain ⟨-, -, xg, hb0, hg0, hcb0, hcb1, hcb2⟩ := X.out
              obtain ⟨y1, y2, y3⟩ := W8.out
              have hy := y1.lt
              have hy3 := y3.size
              have z1 : RefAt (fun i => i ≠ b ∧ i ≠ gg ∧ i ≠ g9 ∧ i ≠ cb) w8 cb LM n := y1.mono (fun i hi h => ⟨h.1, h.2.1, by have := h.2.1; omega, h.2.2⟩)
              exact ⟨(z1.upd u9 (by omega) (fun i _ h => by omega)).mono (fun i _ h => ⟨h.1, h.2.2.1, h.2.2.2⟩), t9, UpdS.new y3 u9 (fun i hi => by omega), hb0, by omega, hcb0, hcb1, by omega⟩
            clear t9 u9 hg9 W8 hba h8
            obtain ⟨a9, c9, d0, d1, -, -, hr9⟩ := HX.out.1
            have hd0 : ∀ w', Grow w9.drew w' → w'.cell? ⟨cb, 0, none⟩ = some (.slice a9 LM.length c9) := fun w' h => by
              rw [Below.cell (p := ⟨cb, 0, none⟩) h HX.out.1.lt]; exact d0
            clear d0 d1
            have HR9 : Hid (RdV Value.bool false (fun i => i ≠ b ∧ i ≠ g9 ∧ i ≠ cb) w9 (.slice a9 LM.length c9) LM) := hr9
            clear hr9
            go_wp2
            refine wp_region_sched (by kernel_rfl) [(0, false), (2, false), (3, false), (1, true), (4, true), (5, false)] (by kernel_rfl) (by kernel_rfl) rfl (fun _ _ d _ _ h => by cases d <;> exact h) ?_
            simp only [inOrder, List.filterMap_cons, List.filterMap_nil, List.getElem?_toArray, List.getElem?_cons_zero, List.getElem?_cons_succ, Option.map_some]
            repeat (first
              | (refine wpS_move rfl ?_; simp only [Act.eval, Act.put, Array.getD_eq_getD_getElem?, List.getElem?_toArray, List.getElem?_cons_zero, List.getElem?_cons_succ, Option.getD_some, List.setIfInBounds_toArray, List.set_cons_zero, List.set_cons_succ])
              | (refine wpS_assign rfl ?_; simp only [Act.eval, Act.put, Array.getD_eq_getD_getElem?, List.getElem?_toArray, List.getElem?_cons_zero, List.getElem?_cons_succ, Option.getD_some, List.setIfInBounds_toArray, List.set_cons_zero, List.set_cons_succ])
              | (refine wpS_read (v := ?_) rfl ?_ ?_; rotate_left; (focus (intro w' hG; go_simp; try (with_reducible rfl))); simp only [Act.put, List.setIfInBounds_toArray, List.set_cons_zero, List.set_cons_succ]))
            refine wpS_call (f := ?_) (args := ?_) (by rfl) ?_ ?_
            rotate_left 2; focus (go_simp; constructor <;> with_reducible rfl)
            refine (bleft_any b g9 LM n w9.drew (HX.out.2.1.grow (Grow.refl _).drew) (by omega)).mono ?_
            rintro e w10 ⟨v10, rfl, o10, q10, -⟩
            refine ⟨_, rfl, q10, ?_⟩
            simp only [Act.put, List.setIfInBounds_toArray, List.set_cons_zero, List.set_cons_succ]
            repeat (first
              | (refine wpS_move rfl ?_; simp only [Act.eval, Act.put, Array.getD_eq_getD_getElem?, List.getElem?_toArray, List.getElem?_cons_zero, List.getElem?_cons_succ, Option.getD_some, List.setIfInBounds_toArray, List.set_cons_zero, List.set_cons_succ])
              | (refine wpS_assign rfl ?_; simp only [Act.eval, Act.put, Array.getD_eq_getD_getElem?, List.getElem?_toArray, List.getElem?_cons_zero, List.getElem?_cons_succ, Option.getD_some, List.setIfInBounds_toArray, List.set_cons_zero, List.set_cons_succ])
              | (refine wpS_read (v := ?_) rfl ?_ ?_; rotate_left; (focus (intro w' hG; go_simp; try (with_reducible rfl))); simp only [Act.put, List.setIfInBounds_toArray, List.set_cons_zero, List.set_cons_succ]))
            refine wpS_call (f := ?_) (args := ?_) (by rfl) ?_ ?_
            rotate_left 2; focus (go_simp; constructor <;> with_reducible rfl)
            refine (bsame_any _ _ _ _ _ _ w10 o10.rd (HR9.out.grow ((Grow.refl w9).drew.trans q10))).mono ?_
            rintro e w11 ⟨rfl, q11⟩
            have hd : decide (LM = LM) = true := decide_eq_true rfl
            rw [hd]
            refine ⟨_, rfl, q11, ?_⟩
            clear hd
            simp only [Act.put, List.setIfInBounds_toArray, List.set_cons_zero, List.set_cons_succ]
            repeat (first
              | (refine wpS_move rfl ?_; simp only [Act.eval, Act.put, Array.getD_eq_getD_getElem?, List.getElem?_toArray, List.getElem?_cons_zero, List.getElem?_cons_succ, Option.getD_some, List.setIfInBounds_toArray, List.set_cons_zero, List.set_cons_succ])
              | (refine wpS_assign rfl ?_; simp only [Act.eval, Act.put, Array.getD_eq_getD_getElem?, List.getElem?_toArray, List.getElem?_cons_zero, List.getElem?_cons_succ, Option.getD_some, List.setIfInBounds_toArray, List.set_cons_zero, List.set_cons_succ])
              | (refine wpS_read (v := ?_) rfl ?_ ?_; rotate_left; (focus (intro w' hG; go_simp; try (with_reducible rfl))); simp only [Act.put, List.setIfInBounds_toArray, List.set_cons_zero, List.set_cons_succ]))
            refine wpS_nil ?_
            go_wp2
            have HX' : Hid (RefAt (fun i => i ≠ b ∧ i ≠ g9 ∧ i ≠ cb) w11 cb LM n ∧ StrAt w11 b g9 LM n ∧ Grow w w11 ∧ w.heap.size ≤ b ∧ w.heap.size ≤ g9 ∧ w.heap.size ≤ cb ∧ cb ≠ b ∧ cb ≠ g9) := by
              obtain ⟨y1, y2, y3, y4⟩ := HX.out
              have q : Grow w9 w11 := ((Grow.refl w9).drew.trans q10).trans q11
              exact ⟨y1.grow q, y2.grow q, y3.trans q, y4⟩
            go_roundg (6 - (j + 1))
            case measure => have := HJ.out; omega
            case rel => exact ⟨j + 1, rfl, HJ.out, by go_num, g9, LM, n, HX', hn0, by omega, by omega⟩
    · by_cases hl6 : j < 6
      · have hlt1 : ¬ (j : Int) < (cs.length : Int) := by omega
        clear hlt
        go_wp2_with fail
        refine (blives_any wr).mono ?_
        rintro e w12 ⟨rfl, q12⟩
        go_wp2
        go_ret
        exact ⟨rfl, X0.out.2.2.1.trans q12⟩
      · have hlt2 : ¬ (j : Int) < 6 := by omega
        clear hlt
        by_cases hl7 : j < cs.length
        · have hlt1 : (j : Int) < (cs.length : Int) := by omega
          go_wp2_with fail
          refine (blives_any wr).mono ?_
          rintro e w12 ⟨rfl, q12⟩
          go_wp2
          go_ret
          exact ⟨rfl, X0.out.2.2.1.trans q12⟩
        · have hlt1 : ¬ (j : Int) < (cs.length : Int) := by omega
          go_wp2_with fail
          refine (blives_any wr).mono ?_
          rintro e w12 ⟨rfl, q12⟩
          go_wp2
          go_ret
          exact ⟨rfl, X0.out.2.2.1.trans q12⟩
end Go.Proofs.Ythgemalikenhfaa
