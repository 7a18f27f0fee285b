/-
  The walk of the law ExtentSectors. Conditions: the theorem's own.
-/
import Derived.Test.YtfjfbcgjocpmoaaExtOwn
namespace Go.Proofs.Ytfjfbcgjocpmoaa
open Go.RowKit
set_option linter.unusedVariables false
set_option linter.unusedSimpArgs false

theorem zeroA (w : World) : (zeroValue 31).run Try.prog w = .ok (.agg #[.int .i64 0, .int .i64 0]) w := by go_simp
/-- the law's variables -/
def SV (fr dp se : Int) (v : Value) (t0 t1 p0 p1 k0 k1 : Int) (b3 b4 b5 b6 : Nat) (u : World) : Prop :=
  VarAt u b3 [.int .i64 fr, .int .i64 dp, .int .i64 se, v] ∧ VarAt u b4 [.int .i64 t0, .int .i64 t1, .int .i64 t1] ∧ VarAt u b5 [.int .i64 p0, .int .i64 p1, .int .i64 p0] ∧ VarAt u b6 [.int .i64 k0, .int .i64 k1, .int .i64 k1]
section
variable {fr dp se : Int} {v : Value} {t0 t1 p0 p1 k0 k1 : Int} {b3 b4 b5 b6 : Nat} {u u' : World}
theorem SV.grow (h : SV fr dp se v t0 t1 p0 p1 k0 k1 b3 b4 b5 b6 u) (g : Grow u u') : SV fr dp se v t0 t1 p0 p1 k0 k1 b3 b4 b5 b6 u' := ⟨h.1.grow g, h.2.1.grow g, h.2.2.1.grow g, h.2.2.2.grow g⟩
theorem SV.upd {S : Nat → Prop} (h : SV fr dp se v t0 t1 p0 p1 k0 k1 b3 b4 b5 b6 u) (g : UpdS S u u') (hS : ∀ b, b < u.heap.size → ¬ S b) : SV fr dp se v t0 t1 p0 p1 k0 k1 b3 b4 b5 b6 u' := ⟨h.1.upd g (hS _ h.1.lt), h.2.1.upd g (hS _ h.2.1.lt), h.2.2.1.upd g (hS _ h.2.2.1.lt), h.2.2.2.upd g (hS _ h.2.2.2.lt)⟩
end
theorem sv_at (fr dp se : Int) (v : Value) (t0 t1 p0 p1 k0 k1 : Int) (b3 b4 b5 b6 : Nat) (i : Nat) (hi : i < 3) : ∃ T P K : Int, ∀ u, SV fr dp se v t0 t1 p0 p1 k0 k1 b3 b4 b5 b6 u →
    (u.cell? ⟨b3, 0, none⟩ = some (.int .i64 fr) ∧ u.cell? ⟨b3, 1, none⟩ = some (.int .i64 dp) ∧ u.cell? ⟨b3, 2, none⟩ = some (.int .i64 se) ∧ u.cell? ⟨b3, 3, none⟩ = some v) ∧
    u.cell? ⟨b4, i, none⟩ = some (.int .i64 T) ∧ u.cell? ⟨b5, i, none⟩ = some (.int .i64 P) ∧ u.cell? ⟨b6, i, none⟩ = some (.int .i64 K) := by
  obtain rfl | rfl | rfl : i = 0 ∨ i = 1 ∨ i = 2 := by omega
  · exact ⟨t0, p0, k0, fun u h => ⟨h.1.four.1, h.2.1.three.1.1, h.2.2.1.three.1.1, h.2.2.2.three.1.1⟩⟩
  · exact ⟨t1, p1, k1, fun u h => ⟨h.1.four.1, h.2.1.three.1.2.1, h.2.2.1.three.1.2.1, h.2.2.2.three.1.2.1⟩⟩
  · exact ⟨t1, p0, k1, fun u h => ⟨h.1.four.1, h.2.1.three.1.2.2, h.2.2.1.three.1.2.2, h.2.2.2.three.1.2.2⟩⟩
theorem sv_new {fr dp se : Int} {v : Value} {t0 t1 p0 p1 k0 k1 : Int} {b3 : Nat} {u : World} (h : VarAt u b3 [.int .i64 fr, .int .i64 dp, .int .i64 se, v]) :
    SV fr dp se v t0 t1 p0 p1 k0 k1 b3 u.heap.size (u.heap.size + 1) (u.heap.size + 2) (((u.alloc (.cells #[.int .i64 t0, .int .i64 t1, .int .i64 t1] 3)).alloc (.cells #[.int .i64 p0, .int .i64 p1, .int .i64 p0] 3)).alloc (.cells #[.int .i64 k0, .int .i64 k1, .int .i64 k1] 3)) :=
  ⟨((h.old _).old _).old _, ((VarAt.new u [.int .i64 t0, .int .i64 t1, .int .i64 t1] _).old _).old _, (VarAt.new2 u _ [.int .i64 p0, .int .i64 p1, .int .i64 p0] _).old _, VarAt.new3 u _ _ [.int .i64 k0, .int .i64 k1, .int .i64 k1] _⟩

set_option maxRecDepth 8000 in
set_option maxHeartbeats 8000000 in
theorem extentSectors_walk {p : Nat → Prop} (fr dp se : Int) (v : Value) (ps : List Pt) (tn pg kk : Int) (w : World) (h : RdP p w v ps) (hok : ∀ x ∈ ps, x.Ok) (hdp : W64 dp) (hse : W64 se) (ht : (Lit.int .i64 tn).wf = true) (hp : (Lit.int .i64 pg).wf = true) (hkk : (Lit.int .i64 kk).wf = true) :
    Calls Try.prog 3 #[.agg #[.int .i64 fr, .int .i64 dp, .int .i64 se, v], .int .i64 tn, .int .i64 pg, .int .i64 kk] w fun e w' => e = .returned (.bool true) ∧ Below w.heap.size w w' := by
  have HG : Hid (Grow w (w.alloc (.cells #[.int .i64 fr, .int .i64 dp, .int .i64 se, v] 24))) := (Grow.refl w).alloc _
  have hgood := fun w' (g : Grow w w') => good_any fr dp se v ps w' (RdS.grow h g) hok hdp hse
  obtain ⟨a, cp, rfl, h1, h2, -⟩ := h
  clear hok hdp hse
  go_enter Try.func3, Try.ntmps3
  go_wp2_with fail
  refine (hgood _ HG.out).mono ?_
  rintro e w2 ⟨fr', dp', se', v', ps', rfl, hG, hR, g2⟩
  obtain ⟨N, rfl⟩ : ∃ N : Nat, se' = N := ⟨se'.toNat, by have := hG.bounds; omega⟩
  have HR : Hid (GoodC fr' dp' N ps' ∧ RdP (fun i => (w.alloc (.cells #[.int .i64 fr, .int .i64 dp, .int .i64 se, .slice a ps.length cp] 24)).heap.size ≤ i) w2 v' ps' ∧ Grow w w2) := ⟨hG, hR, HG.out.trans g2⟩
  have hN : 2 ≤ N ∧ N ≤ 42 := by have := hG.bounds; omega
  have hL : 1 ≤ ps'.length ∧ ps'.length ≤ 4 := by have := hG.bounds; omega
  obtain ⟨a', c', rfl, _, _, -⟩ := hR
  clear hG g2 hgood HG
  have X0 : Hid (VarAt (w2.alloc (.cells #[.int .i64 fr', .int .i64 dp', .int .i64 (N : Int), .slice a' ps'.length c'] 24)) w2.heap.size [.int .i64 fr', .int .i64 dp', .int .i64 (N : Int), .slice a' ps'.length c'] ∧ Grow w2 (w2.alloc (.cells #[.int .i64 fr', .int .i64 dp', .int .i64 (N : Int), .slice a' ps'.length c'] 24))) := ⟨VarAt.new w2 [.int .i64 fr', .int .i64 dp', .int .i64 (N : Int), .slice a' ps'.length c'] _, (Grow.refl w2).alloc _⟩
  have hat1 := fun w' => around_any tn 5 w' ht (by omega) (by omega)
  have hat2 := fun w' => around_any pg 5 w' hp (by omega) (by omega)
  have hat3 := fun w' => around_any kk 3 w' hkk (by omega) (by omega)
  generalize around tn 5 = A5 at hat1
  generalize around pg 5 = B5 at hat2
  generalize around kk 3 = C3 at hat3
  clear ht hp hkk
  go_wp2_with fail
  refine (hat1 _).mono ?_
  rintro e w3 ⟨rfl, rfl⟩
  go_wp2_with fail
  refine (hat1 _).mono ?_
  rintro e w3 ⟨rfl, rfl⟩
  generalize w2.alloc (.cells #[.int .i64 fr', .int .i64 dp', .int .i64 (N : Int), .slice a' ps'.length c'] 24) = w3 at X0 ⊢
  generalize w2.heap.size = b3 at X0 ⊢
  have HV : Hid (RdP (fun i => (w.alloc (.cells #[.int .i64 fr, .int .i64 dp, .int .i64 se, .slice a ps.length cp] 24)).heap.size ≤ i) w3 (.slice a' ps'.length c') ps' ∧ GoodC fr' dp' N ps' ∧ InB ps' ∧ Grow w w3 ∧ VarAt w3 b3 [.int .i64 fr', .int .i64 dp', .int .i64 (N : Int), .slice a' ps'.length c']) := ⟨RdS.grow HR.out.2.1 X0.out.2, HR.out.1, HR.out.1.inb, HR.out.2.2.trans X0.out.2, X0.out.1⟩
  clear X0 HR
  go_wp2_with fail
  refine (hat2 _).mono ?_
  rintro e w4 ⟨rfl, rfl⟩
  go_wp2_with fail
  refine (hat3 _).mono ?_
  rintro e w4 ⟨rfl, rfl⟩
  go_wp2_with fail
  refine (hat3 _).mono ?_
  rintro e w4 ⟨rfl, rfl⟩
  go_wp2
  have X4 : Hid (SV fr' dp' (N : Int) (.slice a' ps'.length c') tn A5 pg B5 kk C3 b3 w3.heap.size (w3.heap.size + 1) (w3.heap.size + 1 + 1) (((w3.alloc (.cells #[.int .i64 tn, .int .i64 A5, .int .i64 A5] 3)).alloc (.cells #[.int .i64 pg, .int .i64 B5, .int .i64 pg] 3)).alloc (.cells #[.int .i64 kk, .int .i64 C3, .int .i64 C3] 3)) ∧ Grow w3 (((w3.alloc (.cells #[.int .i64 tn, .int .i64 A5, .int .i64 A5] 3)).alloc (.cells #[.int .i64 pg, .int .i64 B5, .int .i64 pg] 3)).alloc (.cells #[.int .i64 kk, .int .i64 C3, .int .i64 C3] 3))) := ⟨sv_new HV.out.2.2.2.2, (((Grow.refl w3).alloc _).alloc _).alloc _⟩
  generalize (((w3.alloc (.cells #[.int .i64 tn, .int .i64 A5, .int .i64 A5] 3)).alloc (.cells #[.int .i64 pg, .int .i64 B5, .int .i64 pg] 3)).alloc (.cells #[.int .i64 kk, .int .i64 C3, .int .i64 C3] 3)) = w4 at X4 ⊢
  generalize w3.heap.size + 1 + 1 = b6 at X4 ⊢
  generalize w3.heap.size + 1 = b5 at X4 ⊢
  generalize w3.heap.size = b4 at X4 ⊢
  clear hat1 hat2 hat3
  go_loopg [13] 3 (fun m iv wr => ∃ (i : Nat), m = 3 - i ∧ i ≤ 3 ∧ iv = .int .i64 i ∧ Hid (SV fr' dp' (N : Int) (.slice a' ps'.length c') tn A5 pg B5 kk C3 b3 b4 b5 b6 wr ∧ Grow w3 wr))
  case atStart => exact ⟨0, by omega, by omega, rfl, X4.out.1, X4.out.2⟩
  case round =>
    clear X4
    obtain ⟨i, hk, hj, rfl, Y⟩ := hrel
    by_cases hst : i < 3
    · have hlt : (i : Int) < 3 := by omega
      have HK : Hid (i < 3 ∧ gk = 3 - i) := ⟨hst, hk⟩
      have hw1 : IntKind.i64.wrap ((i : Int) + 1) = (i : Int) + 1 := by rw [IntKind.wrap_i64]; omega
      obtain ⟨TT, PG, KK, hat⟩ := sv_at fr' dp' (N : Int) (.slice a' ps'.length c') tn A5 pg B5 kk C3 b3 b4 b5 b6 i hst
      have c1 := fun w' (g : Grow w3 w') => sec_any fr' dp' N TT PG KK _ ps' w' (RdS.grow HV.out.1 g) HV.out.2.2.1
      have c2 := fun w' (g : Grow w3 w') => rsec_any fr' dp' N TT PG KK _ ps' w' (RdS.grow HV.out.1 g) HV.out.2.2.1
      have c3 := fun w' (g : Grow w3 w') => all_any fr' dp' N TT PG _ ps' w' (RdS.grow HV.out.1 g) HV.out.2.2.1
      have c4 := fun w' (g : Grow w3 w') => rsec_any fr' dp' N TT PG 0 _ ps' w' (RdS.grow HV.out.1 g) HV.out.2.2.1
      have c5 := fun w' (g : Grow w3 w') => rsec_any fr' dp' N TT PG 1 _ ps' w' (RdS.grow HV.out.1 g) HV.out.2.2.1
      generalize secS ps' TT PG KK = S at c1 c2
      generalize secS ps' TT PG 0 = S0 at c3 c4
      generalize secS ps' TT PG 1 = S1 at c3 c5
      obtain ⟨x, y⟩ := S
      obtain ⟨x0, y0⟩ := S0
      obtain ⟨x1, y1⟩ := S1
      clear hk hj hst
      go_wp2
      refine wp_region_sched (by kernel_rfl) [(0, false), (1, false), (2, false), (3, false), (4, false), (5, false), (6, false), (7, false), (8, false), (9, false), (10, false), (11, false), (12, false), (13, true), (14, false), (15, false), (16, false), (17, false), (18, false)] (by kernel_rfl) (by kernel_rfl) rfl (fun _ _ d _ _ h => by cases d <;> exact h) ?_
      simp only [inOrder, List.filterMap_cons, List.filterMap_nil, List.getElem?_toArray, List.getElem?_cons_zero, List.getElem?_cons_succ, Option.map_some]
      repeat (first
        | (refine wpS_move rfl ?_; simp only [Act.eval, Act.put, Array.getD_eq_getD_getElem?, List.getElem?_toArray, List.getElem?_cons_zero, List.getElem?_cons_succ, Option.getD_some, List.setIfInBounds_toArray, List.set_cons_zero, List.set_cons_succ])
        | (refine wpS_assign rfl ?_; simp only [Act.eval, Act.put, Array.getD_eq_getD_getElem?, List.getElem?_toArray, List.getElem?_cons_zero, List.getElem?_cons_succ, Option.getD_some, List.setIfInBounds_toArray, List.set_cons_zero, List.set_cons_succ])
        | (refine wpS_read (v := ?_) rfl ?_ ?_; rotate_left; (focus (intro w' hG; obtain ⟨⟨k0, k1, k2, k3⟩, kT, kP, kK⟩ := hat w' (Y.out.1.grow ((Grow.refl wr).drew.trans hG)); go_simp; try (with_reducible rfl))); simp only [Act.put, List.setIfInBounds_toArray, List.set_cons_zero, List.set_cons_succ])
        | (refine wpS_skip rfl ?_; simp only [Act.put, List.setIfInBounds_toArray, List.set_cons_zero, List.set_cons_succ]))
      refine wpS_call (f := ?_) (args := ?_) (by rfl) ?_ ?_
      rotate_left 2; focus (go_simp; constructor <;> with_reducible rfl)
      refine (c1 wr.drew (Y.out.2.trans (Grow.refl wr).drew)).mono ?_
      rintro e w5 ⟨rfl, g5⟩
      refine ⟨_, rfl, g5, ?_⟩
      simp only [Act.put, List.setIfInBounds_toArray, List.set_cons_zero, List.set_cons_succ]
      repeat (first
        | (refine wpS_move rfl ?_; simp only [Act.eval, Act.put, Array.getD_eq_getD_getElem?, List.getElem?_toArray, List.getElem?_cons_zero, List.getElem?_cons_succ, Option.getD_some, List.setIfInBounds_toArray, List.set_cons_zero, List.set_cons_succ])
        | (refine wpS_assign rfl ?_; simp only [Act.eval, Act.put, Array.getD_eq_getD_getElem?, List.getElem?_toArray, List.getElem?_cons_zero, List.getElem?_cons_succ, Option.getD_some, List.setIfInBounds_toArray, List.set_cons_zero, List.set_cons_succ])
        | (refine wpS_read (v := ?_) rfl ?_ ?_; rotate_left; (focus (intro w' hG; skip; go_simp; try (with_reducible rfl))); simp only [Act.put, List.setIfInBounds_toArray, List.set_cons_zero, List.set_cons_succ])
        | (refine wpS_skip rfl ?_; simp only [Act.put, List.setIfInBounds_toArray, List.set_cons_zero, List.set_cons_succ]))
      refine wpS_nil ?_
      have Y5 : Hid (SV fr' dp' (N : Int) (.slice a' ps'.length c') tn A5 pg B5 kk C3 b3 b4 b5 b6 w5 ∧ Grow w3 w5) := ⟨Y.out.1.grow ((Grow.refl wr).drew.trans g5), (Y.out.2.trans (Grow.refl wr).drew).trans g5⟩
      clear g5
      go_wp2
      refine wp_region_sched (by kernel_rfl) [(0, false), (1, false), (2, false), (3, false), (4, false), (5, false), (6, false), (7, false), (8, false), (9, false), (10, false), (11, false), (12, false), (13, true), (14, false), (15, false), (16, false), (17, false), (18, false)] (by kernel_rfl) (by kernel_rfl) rfl (fun _ _ d _ _ h => by cases d <;> exact h) ?_
      simp only [inOrder, List.filterMap_cons, List.filterMap_nil, List.getElem?_toArray, List.getElem?_cons_zero, List.getElem?_cons_succ, Option.map_some]
      repeat (first
        | (refine wpS_move rfl ?_; simp only [Act.eval, Act.put, Array.getD_eq_getD_getElem?, List.getElem?_toArray, List.getElem?_cons_zero, List.getElem?_cons_succ, Option.getD_some, List.setIfInBounds_toArray, List.set_cons_zero, List.set_cons_succ])
        | (refine wpS_assign rfl ?_; simp only [Act.eval, Act.put, Array.getD_eq_getD_getElem?, List.getElem?_toArray, List.getElem?_cons_zero, List.getElem?_cons_succ, Option.getD_some, List.setIfInBounds_toArray, List.set_cons_zero, List.set_cons_succ])
        | (refine wpS_read (v := ?_) rfl ?_ ?_; rotate_left; (focus (intro w' hG; obtain ⟨⟨k0, k1, k2, k3⟩, kT, kP, kK⟩ := hat w' (Y5.out.1.grow ((Grow.refl w5).drew.trans hG)); go_simp; try (with_reducible rfl))); simp only [Act.put, List.setIfInBounds_toArray, List.set_cons_zero, List.set_cons_succ])
        | (refine wpS_skip rfl ?_; simp only [Act.put, List.setIfInBounds_toArray, List.set_cons_zero, List.set_cons_succ]))
      refine wpS_call (f := ?_) (args := ?_) (by rfl) ?_ ?_
      rotate_left 2; focus (go_simp; constructor <;> with_reducible rfl)
      refine (c2 w5.drew (Y5.out.2.trans (Grow.refl w5).drew)).mono ?_
      rintro e w6 ⟨rfl, g6⟩
      refine ⟨_, rfl, g6, ?_⟩
      simp only [Act.put, List.setIfInBounds_toArray, List.set_cons_zero, List.set_cons_succ]
      repeat (first
        | (refine wpS_move rfl ?_; simp only [Act.eval, Act.put, Array.getD_eq_getD_getElem?, List.getElem?_toArray, List.getElem?_cons_zero, List.getElem?_cons_succ, Option.getD_some, List.setIfInBounds_toArray, List.set_cons_zero, List.set_cons_succ])
        | (refine wpS_assign rfl ?_; simp only [Act.eval, Act.put, Array.getD_eq_getD_getElem?, List.getElem?_toArray, List.getElem?_cons_zero, List.getElem?_cons_succ, Option.getD_some, List.setIfInBounds_toArray, List.set_cons_zero, List.set_cons_succ])
        | (refine wpS_read (v := ?_) rfl ?_ ?_; rotate_left; (focus (intro w' hG; skip; go_simp; try (with_reducible rfl))); simp only [Act.put, List.setIfInBounds_toArray, List.set_cons_zero, List.set_cons_succ])
        | (refine wpS_skip rfl ?_; simp only [Act.put, List.setIfInBounds_toArray, List.set_cons_zero, List.set_cons_succ]))
      refine wpS_nil ?_
      have Y6 : Hid (SV fr' dp' (N : Int) (.slice a' ps'.length c') tn A5 pg B5 kk C3 b3 b4 b5 b6 w6 ∧ Grow w3 w6) := ⟨Y5.out.1.grow ((Grow.refl w5).drew.trans g6), (Y5.out.2.trans (Grow.refl w5).drew).trans g6⟩
      clear g6
      go_upto_region 12 with fail
      go_cut [18, 19] from 43 to 142 (fun av ev wx => ∃ b7 : Nat, av = .pointer (some ⟨b7, 0, none⟩) ∧ ev = .int .i64 y0 ∧ Hid (VarAt wx b7 [.int .i64 x0, .int .i64 x1] ∧ Grow w6 wx))
      case first =>
        have kx : ∀ w', UpdS (fun i => w6.heap.size ≤ i) w6.drew w' → SV fr' dp' (N : Int) (.slice a' ps'.length c') tn A5 pg B5 kk C3 b3 b4 b5 b6 w' := fun w' h => (Y6.out.1.grow (Grow.refl w6).drew).upd h (fun b hb => by have e : w6.drew.heap.size = w6.heap.size := rfl; omega)
        refine wp_region_treeG (UpdS (fun i => w6.heap.size ≤ i)) (UpdS.refl _) (fun _ _ _ => UpdS.trans) (by kernel_rfl) (.read 0 (.read 1 (.read 2 (.read 3 (.read 4 (.read 5 (.read 6 (.read 7 (.read 8 (.fork 9 (.read 10 (.read 11 (.read 12 (.act 13 (.act 14 (.read 15 .done)))))) 13 (.act 9 (.read 10 (.read 11 (.read 12 (.act 14 (.read 15 .done)))))))))))))))) (by kernel_rfl) (by kernel_rfl) rfl (fun _ _ d _ _ h => by cases d <;> exact h) ?_
        simp only [Tr.over, List.getElem?_toArray, List.getElem?_cons_zero, List.getElem?_cons_succ]
        repeat (first
          | (refine wpT_move rfl ?_; simp only [Act.eval, Act.put, Array.getD_eq_getD_getElem?, List.getElem?_toArray, List.getElem?_cons_zero, List.getElem?_cons_succ, Option.getD_some, List.setIfInBounds_toArray, List.set_cons_zero, List.set_cons_succ])
          | (refine wpT_assign rfl ?_; simp only [Act.eval, Act.put, Array.getD_eq_getD_getElem?, List.getElem?_toArray, List.getElem?_cons_zero, List.getElem?_cons_succ, Option.getD_some, List.setIfInBounds_toArray, List.set_cons_zero, List.set_cons_succ])
          | (refine wpT_read (v := ?_) rfl ?_ ?_; rotate_left; (focus (intro w' hG; obtain ⟨⟨k0, k1, k2, k3⟩, kT, kP, kK⟩ := hat w' (kx w' hG); go_simp; try (with_reducible rfl))); simp only [Act.put, List.setIfInBounds_toArray, List.set_cons_zero, List.set_cons_succ])
          | (refine wpT_skip rfl ?_; simp only [Act.put, List.setIfInBounds_toArray, List.set_cons_zero, List.set_cons_succ]))
        refine wpT_fork ?_ ?_
        · skip
          refine wpT_call (f := ?_) (args := ?_) (by rfl) ?_ ?_
          rotate_left 2; focus (go_simp; constructor <;> with_reducible rfl)
          refine (c3 _ (Y6.out.2.trans (Grow.refl w6).drew)).mono ?_
          rintro e w7 ⟨rfl, g7⟩
          refine ⟨_, rfl, g7.s, ?_⟩
          simp only [Act.put, List.setIfInBounds_toArray, List.set_cons_zero, List.set_cons_succ]
          repeat (first
            | (refine wpT_move rfl ?_; simp only [Act.eval, Act.put, Array.getD_eq_getD_getElem?, List.getElem?_toArray, List.getElem?_cons_zero, List.getElem?_cons_succ, Option.getD_some, List.setIfInBounds_toArray, List.set_cons_zero, List.set_cons_succ])
            | (refine wpT_assign rfl ?_; simp only [Act.eval, Act.put, Array.getD_eq_getD_getElem?, List.getElem?_toArray, List.getElem?_cons_zero, List.getElem?_cons_succ, Option.getD_some, List.setIfInBounds_toArray, List.set_cons_zero, List.set_cons_succ])
            | (refine wpT_read (v := ?_) rfl ?_ ?_; rotate_left; (focus (intro w' hG; skip; go_simp; try (with_reducible rfl))); simp only [Act.put, List.setIfInBounds_toArray, List.set_cons_zero, List.set_cons_succ])
            | (refine wpT_skip rfl ?_; simp only [Act.put, List.setIfInBounds_toArray, List.set_cons_zero, List.set_cons_succ]))
          refine wpT_act (by rfl) (exec_alloc #[.int .i64 0, .int .i64 0] zeroA) (Grow.s ((Grow.refl _).alloc _)) ?_
          simp only [Act.put, List.setIfInBounds_toArray, List.set_cons_zero, List.set_cons_succ]
          have V7 := VarAt.new w7 [.int .i64 0, .int .i64 0] 31
          obtain ⟨⟨v0, v1⟩, v3, v4⟩ := V7.two
          have V8 : Hid (VarAt (((w7.alloc (.cells #[.int .i64 0, .int .i64 0] 31)).setCell ⟨w7.heap.size, 0, none⟩ (.int .i64 x0)).setCell ⟨w7.heap.size, 1, none⟩ (.int .i64 x1)) w7.heap.size [.int .i64 x0, .int .i64 x1] ∧ Grow w6 (((w7.alloc (.cells #[.int .i64 0, .int .i64 0] 31)).setCell ⟨w7.heap.size, 0, none⟩ (.int .i64 x0)).setCell ⟨w7.heap.size, 1, none⟩ (.int .i64 x1))) := ⟨V7.set2 _ _, UpdS.new (((Grow.refl w6).drew.trans g7).alloc _) (upd_pair _ w7.heap.size _ _) (fun i hi => by have h2 := g7.size; have e : w6.drew.heap.size = w6.heap.size := rfl; omega)⟩
          refine wpT_store (w' := ((w7.alloc (.cells #[.int .i64 0, .int .i64 0] 31)).setCell ⟨w7.heap.size, 0, none⟩ (.int .i64 x0)).setCell ⟨w7.heap.size, 1, none⟩ (.int .i64 x1)) (by rfl) ?_ ?_ ?_
          · go_simp
          · exact (upd_pair _ w7.heap.size _ _).mono (fun i hi => by rw [hi]; have h2 := g7.size; have e : w6.drew.heap.size = w6.heap.size := rfl; omega)
          simp only [Act.put, List.setIfInBounds_toArray, List.set_cons_zero, List.set_cons_succ]
          generalize ((w7.alloc (.cells #[.int .i64 0, .int .i64 0] 31)).setCell ⟨w7.heap.size, 0, none⟩ (.int .i64 x0)).setCell ⟨w7.heap.size, 1, none⟩ (.int .i64 x1) = w8 at V8 ⊢
          repeat (first
            | (refine wpT_move rfl ?_; simp only [Act.eval, Act.put, Array.getD_eq_getD_getElem?, List.getElem?_toArray, List.getElem?_cons_zero, List.getElem?_cons_succ, Option.getD_some, List.setIfInBounds_toArray, List.set_cons_zero, List.set_cons_succ])
            | (refine wpT_assign rfl ?_; simp only [Act.eval, Act.put, Array.getD_eq_getD_getElem?, List.getElem?_toArray, List.getElem?_cons_zero, List.getElem?_cons_succ, Option.getD_some, List.setIfInBounds_toArray, List.set_cons_zero, List.set_cons_succ])
            | (refine wpT_read (v := ?_) rfl ?_ ?_; rotate_left; (focus (intro w' hG; skip; go_simp; try (with_reducible rfl))); simp only [Act.put, List.setIfInBounds_toArray, List.set_cons_zero, List.set_cons_succ])
            | (refine wpT_skip rfl ?_; simp only [Act.put, List.setIfInBounds_toArray, List.set_cons_zero, List.set_cons_succ]))
          refine wpT_done ?_
          go_wp2_with fail
          go_meet
          exact ⟨w7.heap.size, rfl, rfl, V8.out.1, V8.out.2⟩
        · skip
          refine wpT_act (by rfl) (exec_alloc #[.int .i64 0, .int .i64 0] zeroA) (Grow.s ((Grow.refl _).alloc _)) ?_
          simp only [Act.put, List.setIfInBounds_toArray, List.set_cons_zero, List.set_cons_succ]
          have V7 := VarAt.new w6.drew [.int .i64 0, .int .i64 0] 31
          have HW : Hid (VarAt (w6.drew.alloc (.cells #[.int .i64 0, .int .i64 0] 31)) w6.heap.size [.int .i64 0, .int .i64 0] ∧ Grow w6 (w6.drew.alloc (.cells #[.int .i64 0, .int .i64 0] 31))) := ⟨V7, (Grow.refl w6).drew.alloc _⟩
          clear V7
          generalize w6.drew.alloc (.cells #[.int .i64 0, .int .i64 0] 31) = w7 at HW ⊢
          refine wpT_call (f := ?_) (args := ?_) (by rfl) ?_ ?_
          rotate_left 2; focus (go_simp; constructor <;> with_reducible rfl)
          refine (c3 w7 (Y6.out.2.trans HW.out.2)).mono ?_
          rintro e w8 ⟨rfl, g8⟩
          refine ⟨_, rfl, g8.s, ?_⟩
          simp only [Act.put, List.setIfInBounds_toArray, List.set_cons_zero, List.set_cons_succ]
          repeat (first
            | (refine wpT_move rfl ?_; simp only [Act.eval, Act.put, Array.getD_eq_getD_getElem?, List.getElem?_toArray, List.getElem?_cons_zero, List.getElem?_cons_succ, Option.getD_some, List.setIfInBounds_toArray, List.set_cons_zero, List.set_cons_succ])
            | (refine wpT_assign rfl ?_; simp only [Act.eval, Act.put, Array.getD_eq_getD_getElem?, List.getElem?_toArray, List.getElem?_cons_zero, List.getElem?_cons_succ, Option.getD_some, List.setIfInBounds_toArray, List.set_cons_zero, List.set_cons_succ])
            | (refine wpT_read (v := ?_) rfl ?_ ?_; rotate_left; (focus (intro w' hG; skip; go_simp; try (with_reducible rfl))); simp only [Act.put, List.setIfInBounds_toArray, List.set_cons_zero, List.set_cons_succ])
            | (refine wpT_skip rfl ?_; simp only [Act.put, List.setIfInBounds_toArray, List.set_cons_zero, List.set_cons_succ]))
          have V7 := HW.out.1.grow g8
          obtain ⟨⟨v0, v1⟩, v3, v4⟩ := V7.two
          have V8 : Hid (VarAt ((w8.setCell ⟨w6.heap.size, 0, none⟩ (.int .i64 x0)).setCell ⟨w6.heap.size, 1, none⟩ (.int .i64 x1)) w6.heap.size [.int .i64 x0, .int .i64 x1] ∧ Grow w6 ((w8.setCell ⟨w6.heap.size, 0, none⟩ (.int .i64 x0)).setCell ⟨w6.heap.size, 1, none⟩ (.int .i64 x1))) := ⟨V7.set2 _ _, UpdS.new (HW.out.2.trans g8) (upd_pair _ w6.heap.size _ _) (fun i hi => by omega)⟩
          refine wpT_store (w' := (w8.setCell ⟨w6.heap.size, 0, none⟩ (.int .i64 x0)).setCell ⟨w6.heap.size, 1, none⟩ (.int .i64 x1)) (by rfl) ?_ ?_ ?_
          · go_simp
          · exact (upd_pair _ w6.heap.size _ _).mono (fun i hi => by rw [hi]; exact Nat.le_refl _)
          simp only [Act.put, List.setIfInBounds_toArray, List.set_cons_zero, List.set_cons_succ]
          generalize (w8.setCell ⟨w6.heap.size, 0, none⟩ (.int .i64 x0)).setCell ⟨w6.heap.size, 1, none⟩ (.int .i64 x1) = w9 at V8 ⊢
          repeat (first
            | (refine wpT_move rfl ?_; simp only [Act.eval, Act.put, Array.getD_eq_getD_getElem?, List.getElem?_toArray, List.getElem?_cons_zero, List.getElem?_cons_succ, Option.getD_some, List.setIfInBounds_toArray, List.set_cons_zero, List.set_cons_succ])
            | (refine wpT_assign rfl ?_; simp only [Act.eval, Act.put, Array.getD_eq_getD_getElem?, List.getElem?_toArray, List.getElem?_cons_zero, List.getElem?_cons_succ, Option.getD_some, List.setIfInBounds_toArray, List.set_cons_zero, List.set_cons_succ])
            | (refine wpT_read (v := ?_) rfl ?_ ?_; rotate_left; (focus (intro w' hG; skip; go_simp; try (with_reducible rfl))); simp only [Act.put, List.setIfInBounds_toArray, List.set_cons_zero, List.set_cons_succ])
            | (refine wpT_skip rfl ?_; simp only [Act.put, List.setIfInBounds_toArray, List.set_cons_zero, List.set_cons_succ]))
          refine wpT_done ?_
          go_wp2_with fail
          go_meet
          exact ⟨w6.heap.size, rfl, rfl, V8.out.1, V8.out.2⟩
      case rest =>
      obtain ⟨b7, rfl, rfl, C⟩ := hcut
      have Y7 : Hid (SV fr' dp' (N : Int) (.slice a' ps'.length c') tn A5 pg B5 kk C3 b3 b4 b5 b6 wc ∧ Grow w3 wc) := ⟨Y6.out.1.grow C.out.2, Y6.out.2.trans C.out.2⟩
      go_wp2
      refine wp_region_sched (by kernel_rfl) [(0, false), (1, false), (2, false), (3, false), (4, false), (5, false), (6, false), (7, false), (8, false), (9, true), (10, false), (11, false), (12, false), (13, false), (14, false)] (by kernel_rfl) (by kernel_rfl) rfl (fun _ _ d _ _ h => by cases d <;> exact h) ?_
      simp only [inOrder, List.filterMap_cons, List.filterMap_nil, List.getElem?_toArray, List.getElem?_cons_zero, List.getElem?_cons_succ, Option.map_some]
      repeat (first
        | (refine wpS_move rfl ?_; simp only [Act.eval, Act.put, Array.getD_eq_getD_getElem?, List.getElem?_toArray, List.getElem?_cons_zero, List.getElem?_cons_succ, Option.getD_some, List.setIfInBounds_toArray, List.set_cons_zero, List.set_cons_succ])
        | (refine wpS_assign rfl ?_; simp only [Act.eval, Act.put, Array.getD_eq_getD_getElem?, List.getElem?_toArray, List.getElem?_cons_zero, List.getElem?_cons_succ, Option.getD_some, List.setIfInBounds_toArray, List.set_cons_zero, List.set_cons_succ])
        | (refine wpS_read (v := ?_) rfl ?_ ?_; rotate_left; (focus (intro w' hG; obtain ⟨⟨k0, k1, k2, k3⟩, kT, kP, kK⟩ := hat w' (Y7.out.1.grow ((Grow.refl wc).drew.trans hG)); go_simp; try (with_reducible rfl))); simp only [Act.put, List.setIfInBounds_toArray, List.set_cons_zero, List.set_cons_succ])
        | (refine wpS_skip rfl ?_; simp only [Act.put, List.setIfInBounds_toArray, List.set_cons_zero, List.set_cons_succ]))
      refine wpS_call (f := ?_) (args := ?_) (by rfl) ?_ ?_
      rotate_left 2; focus (go_simp; constructor <;> with_reducible rfl)
      refine (c4 wc.drew (Y7.out.2.trans (Grow.refl wc).drew)).mono ?_
      rintro e w7 ⟨rfl, g7⟩
      refine ⟨_, rfl, g7, ?_⟩
      simp only [Act.put, List.setIfInBounds_toArray, List.set_cons_zero, List.set_cons_succ]
      repeat (first
        | (refine wpS_move rfl ?_; simp only [Act.eval, Act.put, Array.getD_eq_getD_getElem?, List.getElem?_toArray, List.getElem?_cons_zero, List.getElem?_cons_succ, Option.getD_some, List.setIfInBounds_toArray, List.set_cons_zero, List.set_cons_succ])
        | (refine wpS_assign rfl ?_; simp only [Act.eval, Act.put, Array.getD_eq_getD_getElem?, List.getElem?_toArray, List.getElem?_cons_zero, List.getElem?_cons_succ, Option.getD_some, List.setIfInBounds_toArray, List.set_cons_zero, List.set_cons_succ])
        | (refine wpS_read (v := ?_) rfl ?_ ?_; rotate_left; (focus (intro w' hG; skip; go_simp; try (with_reducible rfl))); simp only [Act.put, List.setIfInBounds_toArray, List.set_cons_zero, List.set_cons_succ])
        | (refine wpS_skip rfl ?_; simp only [Act.put, List.setIfInBounds_toArray, List.set_cons_zero, List.set_cons_succ]))
      refine wpS_nil ?_
      have Y8 : Hid (SV fr' dp' (N : Int) (.slice a' ps'.length c') tn A5 pg B5 kk C3 b3 b4 b5 b6 w7 ∧ Grow w3 w7) := ⟨Y7.out.1.grow ((Grow.refl wc).drew.trans g7), (Y7.out.2.trans (Grow.refl wc).drew).trans g7⟩
      have GW7 : Grow wc w7 := (Grow.refl wc).drew.trans g7
      clear g7
      have V7 : Hid (VarAt w7 b7 [.int .i64 x0, .int .i64 x1]) := C.out.1.grow GW7
      clear GW7
      go_wp2
      refine wp_region_sched (by kernel_rfl) [(0, false), (1, false), (2, false), (3, false), (4, false), (5, false), (6, false), (7, false), (8, false), (9, true), (10, false), (11, false), (12, false), (13, false), (14, false)] (by kernel_rfl) (by kernel_rfl) rfl (fun _ _ d _ _ h => by cases d <;> exact h) ?_
      simp only [inOrder, List.filterMap_cons, List.filterMap_nil, List.getElem?_toArray, List.getElem?_cons_zero, List.getElem?_cons_succ, Option.map_some]
      repeat (first
        | (refine wpS_move rfl ?_; simp only [Act.eval, Act.put, Array.getD_eq_getD_getElem?, List.getElem?_toArray, List.getElem?_cons_zero, List.getElem?_cons_succ, Option.getD_some, List.setIfInBounds_toArray, List.set_cons_zero, List.set_cons_succ])
        | (refine wpS_assign rfl ?_; simp only [Act.eval, Act.put, Array.getD_eq_getD_getElem?, List.getElem?_toArray, List.getElem?_cons_zero, List.getElem?_cons_succ, Option.getD_some, List.setIfInBounds_toArray, List.set_cons_zero, List.set_cons_succ])
        | (refine wpS_read (v := ?_) rfl ?_ ?_; rotate_left; (focus (intro w' hG; obtain ⟨⟨k0, k1, k2, k3⟩, kT, kP, kK⟩ := hat w' (Y8.out.1.grow ((Grow.refl w7).drew.trans hG)); go_simp; try (with_reducible rfl))); simp only [Act.put, List.setIfInBounds_toArray, List.set_cons_zero, List.set_cons_succ])
        | (refine wpS_skip rfl ?_; simp only [Act.put, List.setIfInBounds_toArray, List.set_cons_zero, List.set_cons_succ]))
      refine wpS_call (f := ?_) (args := ?_) (by rfl) ?_ ?_
      rotate_left 2; focus (go_simp; constructor <;> with_reducible rfl)
      refine (c5 w7.drew (Y8.out.2.trans (Grow.refl w7).drew)).mono ?_
      rintro e w8 ⟨rfl, g8⟩
      refine ⟨_, rfl, g8, ?_⟩
      simp only [Act.put, List.setIfInBounds_toArray, List.set_cons_zero, List.set_cons_succ]
      repeat (first
        | (refine wpS_move rfl ?_; simp only [Act.eval, Act.put, Array.getD_eq_getD_getElem?, List.getElem?_toArray, List.getElem?_cons_zero, List.getElem?_cons_succ, Option.getD_some, List.setIfInBounds_toArray, List.set_cons_zero, List.set_cons_succ])
        | (refine wpS_assign rfl ?_; simp only [Act.eval, Act.put, Array.getD_eq_getD_getElem?, List.getElem?_toArray, List.getElem?_cons_zero, List.getElem?_cons_succ, Option.getD_some, List.setIfInBounds_toArray, List.set_cons_zero, List.set_cons_succ])
        | (refine wpS_read (v := ?_) rfl ?_ ?_; rotate_left; (focus (intro w' hG; skip; go_simp; try (with_reducible rfl))); simp only [Act.put, List.setIfInBounds_toArray, List.set_cons_zero, List.set_cons_succ])
        | (refine wpS_skip rfl ?_; simp only [Act.put, List.setIfInBounds_toArray, List.set_cons_zero, List.set_cons_succ]))
      refine wpS_nil ?_
      have Y9 : Hid (SV fr' dp' (N : Int) (.slice a' ps'.length c') tn A5 pg B5 kk C3 b3 b4 b5 b6 w8 ∧ Grow w3 w8) := ⟨Y8.out.1.grow ((Grow.refl w7).drew.trans g8), (Y8.out.2.trans (Grow.refl w7).drew).trans g8⟩
      have GW8 : Grow w7 w8 := (Grow.refl w7).drew.trans g8
      clear g8
      have V8 : Hid (VarAt w8 b7 [.int .i64 x0, .int .i64 x1]) := V7.out.grow GW8
      clear GW8
      obtain ⟨⟨m0, m1⟩, -⟩ := V8.out.two
      go_wp2
      go_roundg (3 - (i + 1))
      case measure => have := HK.out; omega
      case rel => exact ⟨i + 1, rfl, HK.out.1, by go_num, Y9.out.1, Y9.out.2⟩
    · have hlt : ¬ (i : Int) < 3 := by omega
      have hlv := lives_any wr
      clear hk hj hst
      go_wp2_with fail
      refine hlv.mono ?_
      rintro e w5 ⟨rfl, g5⟩
      go_wp2
      go_ret
      exact ⟨rfl, (HV.out.2.2.2.1.trans Y.out.2).trans g5⟩
end Go.Proofs.Ytfjfbcgjocpmoaa
