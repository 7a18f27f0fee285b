/-
  The walks of a step's text. Conditions: each theorem's own.
-/
import Derived.Test.YtpmmlocigaehnaaDoorPlnS
import Derived.Test.YtpmmlocigaehnaaDoorItoa
import Derived.Test.YtpmmlocigaehnaaDoorVars
namespace Go.Proofs.YtpmmlocigaehnaaDoor
open Go.RowKit
set_option linter.unusedVariables false
set_option linter.unusedSimpArgs false

/-- the library's table of powers of ten lies in its variable -/
def Tab (w : World) : Prop := Lib.TabIs Tryd.prog w "internal/strconv.uint64pow10" .u64 Lib.pow10Tab
theorem Tab.grow {w w' : World} (h : Tab w) (g : Grow w w') : Tab w' := by
  unfold Tab Lib.TabIs World.var? at *
  cases hg : Tryd.prog.globalNamed "internal/strconv.uint64pow10" with
  | none => simp [hg] at h
  | some b =>
    simp only [hg, Option.bind_some] at h ⊢
    have hlt : b < w.heap.size := by
      rcases Nat.lt_or_ge b w.heap.size with h' | h'
      · exact h'
      · rw [Array.getElem?_eq_none h'] at h; simp at h
    rw [g.block b hlt]
    exact h
theorem drewN_grow (w : World) (k : Nat) : Grow w (w.drewN k) := ⟨rfl, rfl, rfl, Nat.le_refl _, fun _ _ => rfl⟩
theorem grow_objs (w : World) (os : Array Obj) : Grow w (Sort.grow w os) := ⟨rfl, rfl, rfl, by simp [Sort.grow], fun k hk => by simp [Sort.grow, Array.getElem?_append, hk]⟩
/-- a text by its bytes -/
def tx (l : List UInt8) : ByteArray := ⟨l.toArray⟩
theorem tx_app (a b : List UInt8) : tx a ++ tx b = tx (a ++ b) := ByteArray.mk_append_mk a b
theorem tx_size (a : List UInt8) : (tx a).size = a.length := by simp [tx, ByteArray.size]
theorem tx_add (a b : List UInt8) (h : a.length + b.length ≤ 1000) (w : World) : (Op.stringOp .add (tx a) (tx b)).run Tryd.prog w = .ok (.string (tx (a ++ b))) w := by
  rw [run_string_add_sum w _ _ (by rw [tx_size, tx_size]; omega), tx_app]

theorem itoa_any (n : Int) (w : World) (hn : (Lit.int .i64 n).wf = true) (h : Tab w) : Calls Tryd.prog 24 #[.int .i64 n] w fun e w' => e = .returned (.string (tx (Lib.itoa n))) ∧ Grow w w' := by
  have hb := bounds_i64 hn
  refine (itoa_laid n (by omega) (by omega) w h).mono fun e w' ⟨h1, k, os, h2⟩ => ⟨h1, ?_⟩
  rw [h2]
  exact (drewN_grow w k).trans (grow_objs _ os)
theorem itoa_len (n : Int) (hn : (Lit.int .i64 n).wf = true) : (Lib.itoa n).length ≤ 21 := by
  have hb := bounds_i64 hn
  exact Lib.itoa_length_le n (by omega) (by omega)

set_option maxHeartbeats 4000000 in
theorem place_any (x : Sp) (w : World) (hp : (Lit.int .i64 x.p).wf = true) (hk : (Lit.int .i64 x.k).wf = true) (h : Tab w) : Calls Tryd.prog 22 #[.agg #[.int .i64 x.o, .int .i64 x.p, .int .i64 x.k]] w fun e w' => e = .returned (.string (tx (placeL x))) ∧ Grow w w' := by
  obtain ⟨xo, xp, xk⟩ := x
  simp only at hp hk ⊢
  obtain ⟨W0, hW0⟩ : ∃ W0, W0 = w.alloc (.cells #[.int .i64 xo, .int .i64 xp, .int .i64 xk] 39) := ⟨_, rfl⟩
  have HV : Hid (VarAt W0 w.heap.size [.int .i64 xo, .int .i64 xp, .int .i64 xk] ∧ Grow w W0) := by rw [hW0]; exact ⟨VarAt.new w [.int .i64 xo, .int .i64 xp, .int .i64 xk] _, (Grow.refl w).alloc _⟩
  obtain ⟨b, hb⟩ : ∃ b, b = w.heap.size := ⟨_, rfl⟩
  rw [← hb] at HV
  have la := itoa_len xp hp
  have lb := itoa_len xk hk
  have q1 := tx_add [32] (Lib.itoa xp) (by simp; omega)
  have q2 := tx_add ([32] ++ Lib.itoa xp) [32] (by simp; omega)
  have q3 := tx_add ([32] ++ Lib.itoa xp ++ [32]) (Lib.itoa xk) (by simp; omega)
  have HM : Hid ([32] ++ Lib.itoa xp ++ [32] ++ Lib.itoa xk = placeL ⟨xo, xp, xk⟩) := rfl
  have c1 := fun (u : World) (g : Grow w u) => itoa_any xp u hp (h.grow g)
  have c2 := fun (u : World) (g : Grow w u) => itoa_any xk u hk (h.grow g)
  generalize [32] ++ Lib.itoa xp ++ [32] ++ Lib.itoa xk = M3 at q3 HM
  generalize [32] ++ Lib.itoa xp ++ [32] = M2 at q3 q2
  generalize [32] ++ Lib.itoa xp = M1 at q1 q2
  generalize Lib.itoa xp = A at q1 c1
  generalize Lib.itoa xk = B at q3 c2
  have e32 : tx [32] = ⟨#[32]⟩ := rfl
  rw [e32] at q1 q2
  generalize tx A = TA at q1 c1
  generalize tx B = TB at q3 c2
  generalize tx M1 = T1 at q1 q2
  generalize tx M2 = T2 at q2 q3
  have HC := hid (And.intro c1 c2)
  clear h hp hk la lb c1 c2 e32
  go_enter Tryd.func22, Tryd.ntmps22
  go_upto_region 1 with fail
  rw [← hW0, ← hb]
  clear hW0 hb
  have fz : ∀ w', Grow W0.drew w' → (w'.cell? ⟨b, 0, none⟩ = some (.int .i64 xo) ∧ w'.cell? ⟨b, 1, none⟩ = some (.int .i64 xp) ∧ w'.cell? ⟨b, 2, none⟩ = some (.int .i64 xk)) := fun w' g => (HV.out.1.grow ((Grow.refl _).drew.trans g)).three.1
  go_wp2
  refine wp_region_sched (by kernel_rfl) [(0, false), (1, false), (5, false), (6, false), (2, true), (3, false), (4, false), (7, true), (8, false), (9, false)] (by kernel_rfl) (by kernel_rfl) rfl (fun _ _ d _ _ h => by cases d <;> exact h) ?_
  simp only [inOrder, List.filterMap_cons, List.filterMap_nil, List.getElem?_toArray, List.getElem?_cons_zero, List.getElem?_cons_succ, Option.map_some]
  repeat (first
    | (refine wpS_move rfl ?_; simp only [Act.eval, Act.put, Array.getD_eq_getD_getElem?, List.getElem?_toArray, List.getElem?_cons_zero, List.getElem?_cons_succ, Option.getD_some, List.setIfInBounds_toArray, List.set_cons_zero, List.set_cons_succ])
    | (refine wpS_assign rfl ?_; simp only [Act.eval, Act.put, Array.getD_eq_getD_getElem?, List.getElem?_toArray, List.getElem?_cons_zero, List.getElem?_cons_succ, Option.getD_some, List.setIfInBounds_toArray, List.set_cons_zero, List.set_cons_succ])
    | (refine wpS_read (v := ?_) rfl ?_ ?_; rotate_left; (focus (intro w' hG; (obtain ⟨y0, y1, y2⟩ := fz w' hG); go_simp; try (with_reducible rfl))); simp only [Act.put, List.setIfInBounds_toArray, List.set_cons_zero, List.set_cons_succ])
    | (refine wpS_skip rfl ?_; simp only [Act.put, List.setIfInBounds_toArray, List.set_cons_zero, List.set_cons_succ]))
  refine wpS_call (f := ?_) (args := ?_) (by rfl) ?_ ?_
  rotate_left 2; focus (go_simp; constructor <;> with_reducible rfl)
  refine ((HC.out.1 _ (by first | exact HV.out.2.drew | exact HV.out.2))).mono ?_
  rintro e w1 ⟨rfl, g1⟩
  refine ⟨_, rfl, g1, ?_⟩
  simp only [Act.put, List.setIfInBounds_toArray, List.set_cons_zero, List.set_cons_succ]
  repeat (first
    | (refine wpS_move rfl ?_; simp only [Act.eval, Act.put, Array.getD_eq_getD_getElem?, List.getElem?_toArray, List.getElem?_cons_zero, List.getElem?_cons_succ, Option.getD_some, List.setIfInBounds_toArray, List.set_cons_zero, List.set_cons_succ])
    | (refine wpS_assign rfl ?_; simp only [Act.eval, Act.put, Array.getD_eq_getD_getElem?, List.getElem?_toArray, List.getElem?_cons_zero, List.getElem?_cons_succ, Option.getD_some, List.setIfInBounds_toArray, List.set_cons_zero, List.set_cons_succ])
    | (refine wpS_read (v := ?_) rfl ?_ ?_; rotate_left; (focus (intro w' hG; (have z1 := q1 w'; have z2 := q2 w'); go_simp; try (with_reducible rfl))); simp only [Act.put, List.setIfInBounds_toArray, List.set_cons_zero, List.set_cons_succ])
    | (refine wpS_skip rfl ?_; simp only [Act.put, List.setIfInBounds_toArray, List.set_cons_zero, List.set_cons_succ]))
  refine wpS_call (f := ?_) (args := ?_) (by rfl) ?_ ?_
  rotate_left 2; focus (go_simp; constructor <;> with_reducible rfl)
  refine ((HC.out.2 _ (by first | exact HV.out.2.drew.trans g1 | exact HV.out.2.trans g1))).mono ?_
  rintro e w2 ⟨rfl, g2⟩
  refine ⟨_, rfl, g2, ?_⟩
  simp only [Act.put, List.setIfInBounds_toArray, List.set_cons_zero, List.set_cons_succ]
  repeat (first
    | (refine wpS_move rfl ?_; simp only [Act.eval, Act.put, Array.getD_eq_getD_getElem?, List.getElem?_toArray, List.getElem?_cons_zero, List.getElem?_cons_succ, Option.getD_some, List.setIfInBounds_toArray, List.set_cons_zero, List.set_cons_succ])
    | (refine wpS_assign rfl ?_; simp only [Act.eval, Act.put, Array.getD_eq_getD_getElem?, List.getElem?_toArray, List.getElem?_cons_zero, List.getElem?_cons_succ, Option.getD_some, List.setIfInBounds_toArray, List.set_cons_zero, List.set_cons_succ])
    | (refine wpS_read (v := ?_) rfl ?_ ?_; rotate_left; (focus (intro w' hG; (have z3 := q3 w'); go_simp; try (with_reducible rfl))); simp only [Act.put, List.setIfInBounds_toArray, List.set_cons_zero, List.set_cons_succ])
    | (refine wpS_skip rfl ?_; simp only [Act.put, List.setIfInBounds_toArray, List.set_cons_zero, List.set_cons_succ]))
  refine wpS_nil ?_
  go_wp2
  go_ret
  exact ⟨by rw [HM.out]; rfl, (HV.out.2.drew.trans g1).trans g2⟩
end Go.Proofs.YtpmmlocigaehnaaDoor
