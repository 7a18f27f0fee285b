/-
  The walk of the law SuperMay. Conditions: the theorem's own.
-/
import Derived.Test.YtlcphhlimcnnaaaSupGood
import Derived.Test.YtlcphhlimcnnaaaSupAll
import Derived.Test.YtlcphhlimcnnaaaSupDoc
namespace Go.Proofs.Ytlcphhlimcnnaaa
open Go.RowKit
set_option linter.unusedVariables false
set_option linter.unusedSimpArgs false

set_option maxHeartbeats 8000000 in
theorem superMay_walk {p : Nat → Prop} (ep fr dp se : Int) (v : Value) (ps : List Pt) (w : World) (h : RdP p w v ps) (hok : ∀ x ∈ ps, x.Ok) (hep : (Lit.int .i64 ep).wf = true) (hdp : W64 dp) (hse : W64 se) :
    Calls Try.prog 3 #[.int .i64 ep, .agg #[.int .i64 fr, .int .i64 dp, .int .i64 se, v]] w fun e w' => e = .returned (.bool true) ∧ Below w.heap.size w w' := by
  have HI : Hid (VarAt (w.alloc (.cells #[.int .i64 fr, .int .i64 dp, .int .i64 se, v] 24)) w.heap.size [.int .i64 fr, .int .i64 dp, .int .i64 se, v] ∧ Grow w (w.alloc (.cells #[.int .i64 fr, .int .i64 dp, .int .i64 se, v] 24))) := ⟨VarAt.new w [.int .i64 fr, .int .i64 dp, .int .i64 se, v] _, (Grow.refl w).alloc _⟩
  have hgood := fun w' (g : Grow w w') => qgood_any ep fr dp se v ps w' (RdS.grow h g) hok hep hdp hse
  have hfew := fun w' (g : Grow w w') => few_any fr dp se v ps w' (RdS.grow h g)
  obtain ⟨a, cp, rfl, h1, h2, -⟩ := h
  clear hok hdp hse hep h1 h2
  go_enter Try.func3, Try.ntmps3
  go_wp2_with fail
  generalize w.alloc (.cells #[.int .i64 fr, .int .i64 dp, .int .i64 se, .slice a ps.length cp] 24) = w1 at HI ⊢
  generalize w.heap.size = b3 at HI ⊢
  refine (hgood _ HI.out.2).mono ?_
  rintro e w2 ⟨e1, f1, d1, s1, v1, q1, rfl, hE, hG, hR, g2⟩
  have HR : Hid (HasQ w2 ⟨e1, f1, d1, s1, v1⟩ q1) := hasQ_of hR
  obtain ⟨a1, c1, rfl⟩ := hR.shape
  have X : Hid (VarAt (w2.alloc (.cells #[.int .i64 e1, .int .i64 f1, .int .i64 d1, .int .i64 s1, .slice a1 q1.length c1] 26)) b3 [.int .i64 fr, .int .i64 dp, .int .i64 se, .slice a ps.length cp] ∧ VarAt (w2.alloc (.cells #[.int .i64 e1, .int .i64 f1, .int .i64 d1, .int .i64 s1, .slice a1 q1.length c1] 26)) w2.heap.size [.int .i64 e1, .int .i64 f1, .int .i64 d1, .int .i64 s1, .slice a1 q1.length c1] ∧ HasQ (w2.alloc (.cells #[.int .i64 e1, .int .i64 f1, .int .i64 d1, .int .i64 s1, .slice a1 q1.length c1] 26)) ⟨e1, f1, d1, s1, .slice a1 q1.length c1⟩ q1 ∧ Grow w (w2.alloc (.cells #[.int .i64 e1, .int .i64 f1, .int .i64 d1, .int .i64 s1, .slice a1 q1.length c1] 26))) := ⟨(HI.out.1.grow g2).old _, VarAt.new w2 [.int .i64 e1, .int .i64 f1, .int .i64 d1, .int .i64 s1, .slice a1 q1.length c1] _, HR.out.grow ((Grow.refl _).alloc _), (HI.out.2.trans g2).alloc _⟩
  clear hE hG hR g2 hgood HI HR
  go_wp2
  generalize (w2.alloc (.cells #[.int .i64 e1, .int .i64 f1, .int .i64 d1, .int .i64 s1, .slice a1 q1.length c1] 26)) = w5 at X ⊢
  generalize w2.heap.size = b5 at X ⊢
  have kx : ∀ w', Grow w5.drew w' → VarAt w' b3 [.int .i64 fr, .int .i64 dp, .int .i64 se, .slice a ps.length cp] ∧ VarAt w' b5 [.int .i64 e1, .int .i64 f1, .int .i64 d1, .int .i64 s1, .slice a1 q1.length c1] := fun w' h => ⟨X.out.1.grow ((Grow.refl w5).drew.trans h), X.out.2.1.grow ((Grow.refl w5).drew.trans h)⟩
  refine wp_region_sched (by kernel_rfl) [(0, false), (1, false), (2, false), (3, false), (4, false), (5, false), (6, false), (7, false), (8, true), (9, false), (10, true), (11, false)] (by kernel_rfl) (by kernel_rfl) rfl (fun _ _ d _ _ h => by cases d <;> exact h) ?_
  simp only [inOrder, List.filterMap_cons, List.filterMap_nil, List.getElem?_toArray, List.getElem?_cons_zero, List.getElem?_cons_succ, Option.map_some]
  repeat (first
    | (refine wpS_move rfl ?_; simp only [Act.eval, Act.put, Array.getD_eq_getD_getElem?, List.getElem?_toArray, List.getElem?_cons_zero, List.getElem?_cons_succ, Option.getD_some, List.setIfInBounds_toArray, List.set_cons_zero, List.set_cons_succ])
    | (refine wpS_assign rfl ?_; simp only [Act.eval, Act.put, Array.getD_eq_getD_getElem?, List.getElem?_toArray, List.getElem?_cons_zero, List.getElem?_cons_succ, Option.getD_some, List.setIfInBounds_toArray, List.set_cons_zero, List.set_cons_succ])
    | (refine wpS_read (v := ?_) rfl ?_ ?_; rotate_left; (focus (intro w' hG; obtain ⟨⟨k0, k1, k2, k3⟩, -⟩ := (kx w' hG).1.four; obtain ⟨⟨m0, m1, m2, m3, m4⟩, -⟩ := (kx w' hG).2.five; go_simp; try (with_reducible rfl))); simp only [Act.put, List.setIfInBounds_toArray, List.set_cons_zero, List.set_cons_succ])
    | (refine wpS_skip rfl ?_; simp only [Act.put, List.setIfInBounds_toArray, List.set_cons_zero, List.set_cons_succ]))
  refine wpS_call (f := ?_) (args := ?_) (by rfl) ?_ ?_
  rotate_left 2; focus (go_simp; constructor <;> with_reducible rfl)
  refine (hfew w5.drew (X.out.2.2.2.trans (Grow.refl w5).drew)).mono ?_
  rintro e w6 ⟨v4, rfl, R4, g6⟩
  generalize ps.take 5 = q4 at R4
  obtain ⟨a4, c4, rfl⟩ := R4.shape
  refine ⟨_, rfl, g6, ?_⟩
  simp only [Act.put, List.setIfInBounds_toArray, List.set_cons_zero, List.set_cons_succ]
  repeat (first
    | (refine wpS_move rfl ?_; simp only [Act.eval, Act.put, Array.getD_eq_getD_getElem?, List.getElem?_toArray, List.getElem?_cons_zero, List.getElem?_cons_succ, Option.getD_some, List.setIfInBounds_toArray, List.set_cons_zero, List.set_cons_succ])
    | (refine wpS_assign rfl ?_; simp only [Act.eval, Act.put, Array.getD_eq_getD_getElem?, List.getElem?_toArray, List.getElem?_cons_zero, List.getElem?_cons_succ, Option.getD_some, List.setIfInBounds_toArray, List.set_cons_zero, List.set_cons_succ])
    | (refine wpS_read (v := ?_) rfl ?_ ?_; rotate_left; (focus (intro w' hG; skip; go_simp; try (with_reducible rfl))); simp only [Act.put, List.setIfInBounds_toArray, List.set_cons_zero, List.set_cons_succ])
    | (refine wpS_skip rfl ?_; simp only [Act.put, List.setIfInBounds_toArray, List.set_cons_zero, List.set_cons_succ]))
  refine wpS_act rfl (exec_sup3 rfl rfl rfl rfl) ((Grow.refl _).alloc _) ?_
  simp only [Act.put, List.setIfInBounds_toArray, List.set_cons_zero, List.set_cons_succ]
  have hall := rdQ_new3 w6 (e0 := e1) (f0 := f1) (d0 := d1) (s0 := s1) (a0 := a1) (n0 := q1.length) (c0 := c1) (e1 := ep) (f1 := f1) (d1 := d1) (s1 := s1) (a1 := a1) (n1 := q1.length) (c1 := c1) (e2 := e1) (f2 := fr) (d2 := dp) (s2 := se) (a2 := a4) (n2 := q4.length) (c2 := c4)
  have HA : Hid (RdQ (fun _ => True) (w6.alloc (.cells #[.int .i64 e1, .int .i64 f1, .int .i64 d1, .int .i64 s1, .slice a1 q1.length c1, .int .i64 ep, .int .i64 f1, .int .i64 d1, .int .i64 s1, .slice a1 q1.length c1, .int .i64 e1, .int .i64 fr, .int .i64 dp, .int .i64 se, .slice a4 q4.length c4] 26)) (.slice (some ⟨w6.heap.size, 0, none⟩) 3 3) [(⟨e1, f1, d1, s1, .slice a1 q1.length c1⟩ : Sg), ⟨ep, f1, d1, s1, .slice a1 q1.length c1⟩, ⟨e1, fr, dp, se, .slice a4 q4.length c4⟩] ∧ (∀ c ∈ [(⟨e1, f1, d1, s1, .slice a1 q1.length c1⟩ : Sg), ⟨ep, f1, d1, s1, .slice a1 q1.length c1⟩, ⟨e1, fr, dp, se, .slice a4 q4.length c4⟩], ∃ q, HasQ (w6.alloc (.cells #[.int .i64 e1, .int .i64 f1, .int .i64 d1, .int .i64 s1, .slice a1 q1.length c1, .int .i64 ep, .int .i64 f1, .int .i64 d1, .int .i64 s1, .slice a1 q1.length c1, .int .i64 e1, .int .i64 fr, .int .i64 dp, .int .i64 se, .slice a4 q4.length c4] 26)) c q) ∧ Grow w (w6.alloc (.cells #[.int .i64 e1, .int .i64 f1, .int .i64 d1, .int .i64 s1, .slice a1 q1.length c1, .int .i64 ep, .int .i64 f1, .int .i64 d1, .int .i64 s1, .slice a1 q1.length c1, .int .i64 e1, .int .i64 fr, .int .i64 dp, .int .i64 se, .slice a4 q4.length c4] 26))) := by
    have gg : Grow w5 (w6.alloc (.cells #[.int .i64 e1, .int .i64 f1, .int .i64 d1, .int .i64 s1, .slice a1 q1.length c1, .int .i64 ep, .int .i64 f1, .int .i64 d1, .int .i64 s1, .slice a1 q1.length c1, .int .i64 e1, .int .i64 fr, .int .i64 dp, .int .i64 se, .slice a4 q4.length c4] 26)) := ((Grow.refl w5).drew.trans g6).alloc _
    refine ⟨RdS.mono hall (fun _ _ _ => trivial), fun c hc => ?_, X.out.2.2.2.trans gg⟩
    simp only [List.mem_cons, List.not_mem_nil, or_false] at hc
    rcases hc with rfl | rfl | rfl
    · exact ⟨q1, X.out.2.2.1.grow gg⟩
    · exact ⟨q1, X.out.2.2.1.grow gg⟩
    · exact ⟨q4, hasQ_of (RdS.grow R4 ((Grow.refl _).alloc _))⟩
  clear hall hfew kx R4 g6 X
  generalize (w6.alloc (.cells #[.int .i64 e1, .int .i64 f1, .int .i64 d1, .int .i64 s1, .slice a1 q1.length c1, .int .i64 ep, .int .i64 f1, .int .i64 d1, .int .i64 s1, .slice a1 q1.length c1, .int .i64 e1, .int .i64 fr, .int .i64 dp, .int .i64 se, .slice a4 q4.length c4] 26)) = w8 at HA ⊢
  generalize hgs : [(⟨e1, f1, d1, s1, .slice a1 q1.length c1⟩ : Sg), ⟨ep, f1, d1, s1, .slice a1 q1.length c1⟩, ⟨e1, fr, dp, se, .slice a4 q4.length c4⟩] = gs at HA
  have HLn : Hid (gs.length = 3) := by rw [← hgs]; exact rfl
  clear hgs
  generalize w6.heap.size = b8 at HA ⊢
  repeat (first
    | (refine wpS_move rfl ?_; simp only [Act.eval, Act.put, Array.getD_eq_getD_getElem?, List.getElem?_toArray, List.getElem?_cons_zero, List.getElem?_cons_succ, Option.getD_some, List.setIfInBounds_toArray, List.set_cons_zero, List.set_cons_succ])
    | (refine wpS_assign rfl ?_; simp only [Act.eval, Act.put, Array.getD_eq_getD_getElem?, List.getElem?_toArray, List.getElem?_cons_zero, List.getElem?_cons_succ, Option.getD_some, List.setIfInBounds_toArray, List.set_cons_zero, List.set_cons_succ])
    | (refine wpS_read (v := ?_) rfl ?_ ?_; rotate_left; (focus (intro w' hG; skip; go_simp; try (with_reducible rfl))); simp only [Act.put, List.setIfInBounds_toArray, List.set_cons_zero, List.set_cons_succ])
    | (refine wpS_skip rfl ?_; simp only [Act.put, List.setIfInBounds_toArray, List.set_cons_zero, List.set_cons_succ]))
  refine wpS_nil ?_
  have OG : Hid (∀ u u', (RdQ (fun _ => True) u (.slice (some ⟨b8, 0, none⟩) 3 3) gs ∧ (∀ c ∈ gs, ∃ q, HasQ u c q) ∧ Grow w u) → Grow u u' → RdQ (fun _ => True) u' (.slice (some ⟨b8, 0, none⟩) 3 3) gs ∧ (∀ c ∈ gs, ∃ q, HasQ u' c q) ∧ Grow w u') := fun u u' o g =>
    ⟨RdS.grow o.1 g, fun c hc => by obtain ⟨q, hq⟩ := o.2.1 c hc; exact ⟨q, hq.grow g⟩, o.2.2.trans g⟩
  go_wp2
  go_loopg [7] 3 (fun m iv u => ∃ i : Nat, m = 3 - i ∧ i ≤ 3 ∧ iv = .int .i64 i ∧ Hid (RdQ (fun _ => True) u (.slice (some ⟨b8, 0, none⟩) 3 3) gs ∧ (∀ c ∈ gs, ∃ q, HasQ u c q) ∧ Grow w u))
  case atStart => exact ⟨0, by omega, by omega, rfl, HA⟩
  case round =>
    clear HA
    obtain ⟨i, hk, hi4, rfl, O⟩ := hrel
    by_cases hlt : i < 3
    · have hle : (i : Int) < 3 := by omega
      have HL : Hid (i < 3 ∧ gk = 3 - i) := ⟨hlt, hk⟩
      have hw1 : IntKind.i64.wrap ((i : Int) + 1) = (i : Int) + 1 := by rw [IntKind.wrap_i64]; omega
      have hxg : i < gs.length := by have := HLn.out; omega
      obtain ⟨bbx, oox, halx, _, _, hinx⟩ := rdQ_at O.out.1 hxg
      injection halx with halx
      injection halx with e1x e2x
      subst e1x e2x
      rw [Nat.zero_add] at hinx
      obtain ⟨qx, hqx⟩ := O.out.2.1 _ (getQ_mem hxg)
      generalize gs.getD i Sg.zero = cx at hinx hqx
      obtain ⟨xe, xf, xd, xs, xv⟩ := cx
      have HVx : Hid (HasQ wr ⟨xe, xf, xd, xs, xv⟩ qx) := hqx
      obtain ⟨xa, xc, hcvx⟩ := RdS.shape hqx
      have hcwx : xv = .slice xa qx.length xc := hcvx
      subst hcwx
      have HNx : Hid (QIn wr b8 (i * 5) ⟨xe, xf, xd, xs, .slice xa qx.length xc⟩) := hinx
      clear hinx hqx hcvx hxg
      clear hk hi4 hlt
      cases hm : mayS xe xf xd xs qx
      · have hqm := fun w' (g : Grow wr w') => qmay_any xe xf xd xs _ qx w' (HVx.out.grow g)
        have hsm := fun w' (g : Grow wr w') => smay_any xe xf xd xs _ qx w' (HVx.out.grow g)
        rw [hm] at hqm hsm
        have hwn := fun w' (g : Grow wr w') => write_no xe xf xd xs _ qx w' (HVx.out.grow g) hm
        simp only at hqm hsm hwn
        clear hm
        obtain ⟨k0, k1, k2, k3, k4⟩ := HNx.out
        simp only at k0 k1 k2 k3 k4
        go_wp2_with fail
        refine (hqm wr (Grow.refl _)).mono ?_
        rintro e u1 ⟨rfl, j1⟩
        clear k0 k1 k2 k3 k4
        obtain ⟨k0, k1, k2, k3, k4⟩ := HNx.out.up j1
        simp only at k0 k1 k2 k3 k4
        go_wp2_with fail
        refine (of_any xe xf xd xs xa _ xc _).mono ?_
        rintro e u2 ⟨rfl, j2⟩
        have J2 : Grow wr u2 := j1.trans j2
        clear k0 k1 k2 k3 k4 j1 j2
        go_wp2_with fail
        refine (hwn _ J2).mono ?_
        rintro e u3 ⟨rfl, j3⟩
        have J3 : Grow wr u3 := J2.trans j3
        clear J2 j3
        obtain ⟨k0, k1, k2, k3, k4⟩ := HNx.out.up J3
        simp only at k0 k1 k2 k3 k4
        go_wp2_with fail
        refine (of_any xe xf xd xs xa _ xc _).mono ?_
        rintro e u4 ⟨rfl, j4⟩
        have J4 : Grow wr u4 := J3.trans j4
        clear k0 k1 k2 k3 k4
        go_wp2_with fail
        refine (hsm _ J4).mono ?_
        rintro e u5 ⟨rfl, j5⟩
        have J5 : Grow wr u5 := J4.trans j5
        have kx : ∀ w', Grow u5.drew w' → QIn w' b8 (i * 5) ⟨xe, xf, xd, xs, .slice xa qx.length xc⟩ := fun w' h => HNx.out.up (J5.trans ((Grow.refl u5).drew.trans h))
        simp only [QIn] at kx
        clear j4 j5 J3 J4 hqm hsm hwn
        go_wp2
        refine wp_region_sched (by kernel_rfl) [(0, false), (1, false), (2, false), (3, false), (4, false), (5, false), (6, false), (7, false), (8, true), (9, false), (10, false), (11, false)] (by kernel_rfl) (by kernel_rfl) rfl (fun _ _ d _ _ h => by cases d <;> exact h) ?_
        simp only [inOrder, List.filterMap_cons, List.filterMap_nil, List.getElem?_toArray, List.getElem?_cons_zero, List.getElem?_cons_succ, Option.map_some]
        repeat (first
          | (refine wpS_move rfl ?_; simp only [Act.eval, Act.put, Array.getD_eq_getD_getElem?, List.getElem?_toArray, List.getElem?_cons_zero, List.getElem?_cons_succ, Option.getD_some, List.setIfInBounds_toArray, List.set_cons_zero, List.set_cons_succ])
          | (refine wpS_assign rfl ?_; simp only [Act.eval, Act.put, Array.getD_eq_getD_getElem?, List.getElem?_toArray, List.getElem?_cons_zero, List.getElem?_cons_succ, Option.getD_some, List.setIfInBounds_toArray, List.set_cons_zero, List.set_cons_succ])
          | (refine wpS_read (v := ?_) rfl ?_ ?_; rotate_left; (focus (intro w' hG; obtain ⟨k0, k1, k2, k3, k4⟩ := kx w' hG; go_simp; try (with_reducible rfl))); simp only [Act.put, List.setIfInBounds_toArray, List.set_cons_zero, List.set_cons_succ])
          | (refine wpS_skip rfl ?_; simp only [Act.put, List.setIfInBounds_toArray, List.set_cons_zero, List.set_cons_succ]))
        refine wpS_nil ?_
        have O2 : Hid (RdQ (fun _ => True) u5.drew (.slice (some ⟨b8, 0, none⟩) 3 3) gs ∧ (∀ c ∈ gs, ∃ q, HasQ u5.drew c q) ∧ Grow w u5.drew) := OG.out _ _ O.out (J5.trans (Grow.refl u5).drew)
        go_wp2
        go_roundg (3 - (i + 1))
        case measure => have := HL.out; omega
        case rel => exact ⟨i + 1, rfl, HL.out.1, by go_num, O2⟩
      · have hqm := fun w' (g : Grow wr w') => qmay_any xe xf xd xs _ qx w' (HVx.out.grow g)
        have hsm := fun w' (g : Grow wr w') => smay_any xe xf xd xs _ qx w' (HVx.out.grow g)
        rw [hm] at hqm hsm
        have hwy := fun w' (g : Grow wr w') => write_yes xe xf xd xs _ qx w' (HVx.out.grow g) hm
        have hby := fun w' (g : Grow wr w') => qbytes_any xe xf xd xs _ qx w' (HVx.out.grow g) (may_few hm)
        generalize sbytes xe xf xd xs qx = SB at hwy hby
        simp only at hqm hsm hwy hby
        clear hm
        obtain ⟨k0, k1, k2, k3, k4⟩ := HNx.out
        simp only at k0 k1 k2 k3 k4
        go_wp2_with fail
        refine (hqm wr (Grow.refl _)).mono ?_
        rintro e u1 ⟨rfl, j1⟩
        clear k0 k1 k2 k3 k4
        obtain ⟨k0, k1, k2, k3, k4⟩ := HNx.out.up j1
        simp only at k0 k1 k2 k3 k4
        go_wp2_with fail
        refine (of_any xe xf xd xs xa _ xc _).mono ?_
        rintro e u2 ⟨rfl, j2⟩
        have J2 : Grow wr u2 := j1.trans j2
        clear k0 k1 k2 k3 k4 j1 j2
        go_wp2_with fail
        refine (hwy _ J2).mono ?_
        rintro e u3 ⟨v9, rfl, ho9, j3⟩
        have J3 : Grow wr u3 := J2.trans j3
        clear J2 j3
        obtain ⟨k0, k1, k2, k3, k4⟩ := HNx.out.up J3
        simp only at k0 k1 k2 k3 k4
        go_wp2_with fail
        refine (of_any xe xf xd xs xa _ xc _).mono ?_
        rintro e u4 ⟨rfl, j4⟩
        have J4 : Grow wr u4 := J3.trans j4
        clear k0 k1 k2 k3 k4
        go_wp2_with fail
        refine (hsm _ J4).mono ?_
        rintro e u5 ⟨rfl, j5⟩
        have J5 : Grow wr u5 := J4.trans j5
        have h35 : Grow u3 u5 := j4.trans j5
        have hst : ∀ w', Grow u5.drew w' → (convert 31 9 v9).run Try.prog w' = .ok (.string (strOfNums SB)) w' := fun w' hg => (ho9.rd.below ((h35.trans (Grow.refl u5).drew).trans hg)).string 31 9 5 Try.underlying31 Try.underlying5 Try.underlying9
        obtain ⟨a9, c9, rfl⟩ := ho9.shape
        have kx : ∀ w', Grow u5.drew w' → QIn w' b8 (i * 5) ⟨xe, xf, xd, xs, .slice xa qx.length xc⟩ := fun w' h => HNx.out.up (J5.trans ((Grow.refl u5).drew.trans h))
        simp only [QIn] at kx
        have HS : Hid (∀ u v', Rd .u8 u.heap.size u v' SB → ∀ w', Grow u w' → (convert 31 9 v').run Try.prog w' = .ok (.string (strOfNums SB)) w') := fun u v' hr w' hg => (hr.below hg).string 31 9 5 Try.underlying31 Try.underlying5 Try.underlying9
        clear ho9 j4 j5 h35 J3 J4 hqm hsm hwy
        generalize SB.length = nb at hst ⊢
        generalize strOfNums SB = TX at hst HS
        go_wp2
        refine wp_region_sched (by kernel_rfl) [(0, false), (1, false), (2, false), (3, false), (4, false), (5, false), (6, false), (7, false), (8, true), (9, false), (10, false), (11, false)] (by kernel_rfl) (by kernel_rfl) rfl (fun _ _ d _ _ h => by cases d <;> exact h) ?_
        simp only [inOrder, List.filterMap_cons, List.filterMap_nil, List.getElem?_toArray, List.getElem?_cons_zero, List.getElem?_cons_succ, Option.map_some]
        repeat (first
          | (refine wpS_move rfl ?_; simp only [Act.eval, Act.put, Array.getD_eq_getD_getElem?, List.getElem?_toArray, List.getElem?_cons_zero, List.getElem?_cons_succ, Option.getD_some, List.setIfInBounds_toArray, List.set_cons_zero, List.set_cons_succ])
          | (refine wpS_assign rfl ?_; simp only [Act.eval, Act.put, Array.getD_eq_getD_getElem?, List.getElem?_toArray, List.getElem?_cons_zero, List.getElem?_cons_succ, Option.getD_some, List.setIfInBounds_toArray, List.set_cons_zero, List.set_cons_succ])
          | (refine wpS_read (v := ?_) rfl ?_ ?_; rotate_left; (focus (intro w' hG; obtain ⟨k0, k1, k2, k3, k4⟩ := kx w' hG; have hst' := hst w' hG; go_simp; try (with_reducible rfl))); simp only [Act.put, List.setIfInBounds_toArray, List.set_cons_zero, List.set_cons_succ])
          | (refine wpS_skip rfl ?_; simp only [Act.put, List.setIfInBounds_toArray, List.set_cons_zero, List.set_cons_succ]))
        refine wpS_call (f := ?_) (args := ?_) (by rfl) ?_ ?_
        rotate_left 2; focus (go_simp; constructor <;> with_reducible rfl)
        refine (hby _ (J5.trans (Grow.refl u5).drew)).mono ?_
        rintro e u6 ⟨v6, rfl, ho6, j6⟩
        refine ⟨_, rfl, j6, ?_⟩
        have hs6 := HS.out u6 v6 ho6.rd
        simp only [Act.put, List.setIfInBounds_toArray, List.set_cons_zero, List.set_cons_succ]
        repeat (first
          | (refine wpS_move rfl ?_; simp only [Act.eval, Act.put, Array.getD_eq_getD_getElem?, List.getElem?_toArray, List.getElem?_cons_zero, List.getElem?_cons_succ, Option.getD_some, List.setIfInBounds_toArray, List.set_cons_zero, List.set_cons_succ])
          | (refine wpS_assign rfl ?_; simp only [Act.eval, Act.put, Array.getD_eq_getD_getElem?, List.getElem?_toArray, List.getElem?_cons_zero, List.getElem?_cons_succ, Option.getD_some, List.setIfInBounds_toArray, List.set_cons_zero, List.set_cons_succ])
          | (refine wpS_read (v := ?_) rfl ?_ ?_; rotate_left; (focus (intro w' hG; have hst' := hs6 w' hG; go_simp; try (with_reducible rfl))); simp only [Act.put, List.setIfInBounds_toArray, List.set_cons_zero, List.set_cons_succ])
          | (refine wpS_skip rfl ?_; simp only [Act.put, List.setIfInBounds_toArray, List.set_cons_zero, List.set_cons_succ]))
        refine wpS_nil ?_
        have O2 : Hid (RdQ (fun _ => True) u6 (.slice (some ⟨b8, 0, none⟩) 3 3) gs ∧ (∀ c ∈ gs, ∃ q, HasQ u6 c q) ∧ Grow w u6) := OG.out _ _ O.out ((J5.trans (Grow.refl u5).drew).trans j6)
        clear hs6 ho6 kx hst hby
        go_wp2
        go_roundg (3 - (i + 1))
        case measure => have := HL.out; omega
        case rel => exact ⟨i + 1, rfl, HL.out.1, by go_num, O2⟩
    · have hle : ¬ (i : Int) < 3 := by omega
      clear hk hi4 hlt
      go_wp2_with fail
      refine (lives_any _).mono ?_
      rintro e u4 ⟨rfl, j4⟩
      go_wp2
      go_ret
      exact ⟨rfl, O.out.2.2.trans j4⟩
end Go.Proofs.Ytlcphhlimcnnaaa
