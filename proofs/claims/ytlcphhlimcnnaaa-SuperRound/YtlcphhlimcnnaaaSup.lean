/-
  The walks of the superblock's small functions, and of the document's. Conditions: each theorem's own.
-/
import Derived.Test.YtlcphhlimcnnaaaSupMath
import Derived.Test.YtlcphhlimcnnaaaCfgSame
import Derived.Test.YtlcphhlimcnnaaaCfgOdd
namespace Go.Proofs.Ytlcphhlimcnnaaa
open Go.RowKit
set_option linter.unusedVariables false
set_option linter.unusedSimpArgs false

theorem VarAt.five {w : World} {b : Nat} {x y z t u : Value} (h : VarAt w b [x, y, z, t, u]) : (w.cell? ⟨b, 0, none⟩ = some x ∧ w.cell? ⟨b, 1, none⟩ = some y ∧ w.cell? ⟨b, 2, none⟩ = some z ∧ w.cell? ⟨b, 3, none⟩ = some t ∧ w.cell? ⟨b, 4, none⟩ = some u) ∧ w.frozen? ⟨b, 0, none⟩ = false ∧ w.frozen? ⟨b, 1, none⟩ = false ∧ w.frozen? ⟨b, 2, none⟩ = false ∧ w.frozen? ⟨b, 3, none⟩ = false ∧ w.frozen? ⟨b, 4, none⟩ = false :=
  ⟨⟨(h.2 0 (by simp)).1, (h.2 1 (by simp)).1, (h.2 2 (by simp)).1, (h.2 3 (by simp)).1, (h.2 4 (by simp)).1⟩, (h.2 0 (by simp)).2, (h.2 1 (by simp)).2, (h.2 2 (by simp)).2, (h.2 3 (by simp)).2, (h.2 4 (by simp)).2⟩
theorem VarAt.set5 {w : World} {b : Nat} {x0 x1 x2 x3 x4 : Value} (h : VarAt w b [x0, x1, x2, x3, x4]) (x y z t u : Value) : VarAt (((((w.setCell ⟨b, 0, none⟩ x).setCell ⟨b, 1, none⟩ y).setCell ⟨b, 2, none⟩ z).setCell ⟨b, 3, none⟩ t).setCell ⟨b, 4, none⟩ u) b [x, y, z, t, u] :=
  ((((h.set 0 x).set 1 y).set 2 z).set 3 t).set 4 u
theorem upd_five (w : World) (b : Nat) (x y z t u : Value) : UpdS (fun k => k = b) w (((((w.setCell ⟨b, 0, none⟩ x).setCell ⟨b, 1, none⟩ y).setCell ⟨b, 2, none⟩ z).setCell ⟨b, 3, none⟩ t).setCell ⟨b, 4, none⟩ u) :=
  ((((upd_one w b 0 x).trans (upd_one _ b 1 y)).trans (upd_one _ b 2 z)).trans (upd_one _ b 3 t)).trans (upd_one _ b 4 u)
theorem load_Sup (b : Nat) (x y z t : Int) (v : Value) (w : World) (h : VarAt w b [.int .i64 x, .int .i64 y, .int .i64 z, .int .i64 t, v]) (hv : v.oneCell' = true) : (loadVar 36 ⟨b, 0, none⟩).run Try.prog w = .ok (.agg #[.int .i64 x, .int .i64 y, .int .i64 z, .int .i64 t, v]) w := by
  obtain ⟨⟨h0, h1, h2, h3, h4⟩, -⟩ := h.five
  cases v <;> simp [Value.oneCell'] at hv <;> go_simp
theorem load_QS (b : Nat) (x y z t : Int) (v : Value) (w : World) (h : VarAt w b [.int .i64 x, .int .i64 y, .int .i64 z, .int .i64 t, v]) (hv : v.oneCell' = true) : (loadVar 26 ⟨b, 0, none⟩).run Try.prog w = .ok (.agg #[.int .i64 x, .int .i64 y, .int .i64 z, .int .i64 t, v]) w := by
  obtain ⟨⟨h0, h1, h2, h3, h4⟩, -⟩ := h.five
  cases v <;> simp [Value.oneCell'] at hv <;> go_simp
/-- a second new block -/
theorem VarAt.new2 (w : World) (o : Obj) (vs : List Value) (t : TypeId) : VarAt ((w.alloc o).alloc (.cells vs.toArray t)) (w.heap.size + 1) vs := by
  have := VarAt.new (w.alloc o) vs t
  rw [World.size_alloc] at this
  exact this
theorem VarAt.old {w : World} {b : Nat} {vs : List Value} (h : VarAt w b vs) (o : Obj) : VarAt (w.alloc o) b vs := h.grow ((Grow.refl w).alloc o)

set_option maxHeartbeats 1000000 in
theorem of_any (ep fr dp se : Int) (a : Option Addr) (n c : Nat) (w : World) :
    Calls Try.prog 12 #[.agg #[.int .i64 ep, .int .i64 fr, .int .i64 dp, .int .i64 se, .slice a n c]] w fun e w' => e = .returned (.agg #[.int .i64 ep, .int .i64 fr, .int .i64 dp, .int .i64 se, .slice a n c]) ∧ Grow w w' := by
  go_enter Try.func12, Try.ntmps12
  go_wp2
  exact bodyPost_ret_by (results_cell rfl _ _ _ (.agg #[.int .i64 ep, .int .i64 fr, .int .i64 dp, .int .i64 se, .slice a n c]) rfl (load_Sup (w.heap.size + 1) ep fr dp se _ _ (VarAt.new2 w _ [.int .i64 ep, .int .i64 fr, .int .i64 dp, .int .i64 se, .slice a n c] _) rfl)) rfl ⟨rfl, ((Grow.refl w).alloc _).alloc _⟩

set_option maxHeartbeats 1000000 in
theorem as_any (ep fr dp se : Int) (a : Option Addr) (n c : Nat) (w : World) :
    Calls Try.prog 18 #[.agg #[.int .i64 ep, .int .i64 fr, .int .i64 dp, .int .i64 se, .slice a n c]] w fun e w' => e = .returned (.agg #[.int .i64 ep, .int .i64 fr, .int .i64 dp, .int .i64 se, .slice a n c]) ∧ Grow w w' := by
  go_enter Try.func18, Try.ntmps18
  go_wp2
  exact bodyPost_ret_by (results_cell rfl _ _ _ (.agg #[.int .i64 ep, .int .i64 fr, .int .i64 dp, .int .i64 se, .slice a n c]) rfl (load_QS (w.heap.size + 1) ep fr dp se _ _ (VarAt.new2 w _ [.int .i64 ep, .int .i64 fr, .int .i64 dp, .int .i64 se, .slice a n c] _) rfl)) rfl ⟨rfl, ((Grow.refl w).alloc _).alloc _⟩

set_option maxHeartbeats 4000000 in
theorem rmay_any {p : Nat → Prop} (fr dp se : Int) (v : Value) (ps : List Pt) (w : World) (h : RdP p w v ps) :
    Calls Try.prog 23 #[.agg #[.int .i64 fr, .int .i64 dp, .int .i64 se, v]] w fun e w' => e = .returned (.bool (decide ((ck fr dp se ps).1 = 0))) ∧ Grow w w' := by
  have HR : Hid (RdP p w v ps) := h
  have HG : Hid (Grow w (w.alloc (.cells #[.int .i64 fr, .int .i64 dp, .int .i64 se, v] 24))) := (Grow.refl w).alloc _
  obtain ⟨a, cp, rfl, h1, h2, -⟩ := h
  have hc := fun w' (g : Grow w w') => rcheck_any fr dp se _ ps w' (HR.out.grow g)
  have hne := wh_empty (ck fr dp se ps).1
  generalize wh (ck fr dp se ps).1 = s1 at hc hne
  generalize (ck fr dp se ps).2 = k1 at hc
  generalize decide ((ck fr dp se ps).1 = 0) = t at hne ⊢
  go_enter Try.func23, Try.ntmps23
  go_wp2_with fail
  refine (hc _ HG.out).mono ?_
  rintro e w2 ⟨rfl, g2⟩
  go_wp2
  go_ret
  exact ⟨rfl, HG.out.trans g2⟩

set_option maxHeartbeats 4000000 in
theorem smay_any {p : Nat → Prop} (ep fr dp se : Int) (v : Value) (ps : List Pt) (w : World) (h : RdP p w v ps) :
    Calls Try.prog 13 #[.agg #[.int .i64 ep, .int .i64 fr, .int .i64 dp, .int .i64 se, v]] w fun e w' => e = .returned (.bool (mayS ep fr dp se ps)) ∧ Grow w w' := by
  have HG : Hid (Grow w (w.alloc (.cells #[.int .i64 ep, .int .i64 fr, .int .i64 dp, .int .i64 se, v] 36))) := (Grow.refl w).alloc _
  have hc := fun w' (g : Grow w w') => may_any fr dp se v ps w' (RdS.grow h g)
  obtain ⟨a, cp, rfl, h1, h2, -⟩ := h
  unfold mayS
  generalize decide ((ck fr dp se ps).1 = 0) = t at hc ⊢
  by_cases h1 : 1 ≤ ep
  · by_cases h2 : ep ≤ 1073741824
    · rw [decide_eq_true h1, decide_eq_true h2, Bool.true_and, Bool.true_and]
      go_enter Try.func13, Try.ntmps13
      go_wp2_with fail
      refine (hc _ HG.out).mono ?_
      rintro e w2 ⟨rfl, g2⟩
      go_wp2
      go_ret
      exact ⟨rfl, HG.out.trans g2⟩
    · rw [decide_eq_false h2, Bool.false_and, Bool.and_false]
      have h3 : (1073741824 : Int) < ep := by omega
      go_enter Try.func13, Try.ntmps13
      go_wp2
      go_ret
      exact ⟨rfl, HG.out⟩
  · rw [decide_eq_false h1, Bool.false_and]
    go_enter Try.func13, Try.ntmps13
    go_wp2
    go_ret
    exact ⟨rfl, HG.out⟩

set_option maxHeartbeats 4000000 in
theorem qmay_any {p : Nat → Prop} (ep fr dp se : Int) (v : Value) (ps : List Pt) (w : World) (h : RdP p w v ps) :
    Calls Try.prog 10 #[.agg #[.int .i64 ep, .int .i64 fr, .int .i64 dp, .int .i64 se, v]] w fun e w' => e = .returned (.bool (mayS ep fr dp se ps)) ∧ Grow w w' := by
  have HG : Hid (VarAt (w.alloc (.cells #[.int .i64 ep, .int .i64 fr, .int .i64 dp, .int .i64 se, v] 26)) w.heap.size [.int .i64 ep, .int .i64 fr, .int .i64 dp, .int .i64 se, v] ∧ Grow w (w.alloc (.cells #[.int .i64 ep, .int .i64 fr, .int .i64 dp, .int .i64 se, v] 26))) := ⟨VarAt.new w [.int .i64 ep, .int .i64 fr, .int .i64 dp, .int .i64 se, v] _, (Grow.refl w).alloc _⟩
  have hc := fun w' (g : Grow w w') => rmay_any fr dp se v ps w' (RdS.grow h g)
  obtain ⟨a, cp, rfl, h1, h2, -⟩ := h
  unfold mayS
  generalize decide ((ck fr dp se ps).1 = 0) = t at hc ⊢
  by_cases h1 : 1 ≤ ep
  · by_cases h2 : ep ≤ 1073741824
    · rw [decide_eq_true h1, decide_eq_true h2, Bool.true_and, Bool.true_and]
      cases t <;>
      · go_enter Try.func10, Try.ntmps10
        go_wp2_with fail
        refine (hc _ HG.out.2).mono ?_
        rintro e w2 ⟨rfl, g2⟩
        obtain ⟨⟨n0, n1, n2, n3, n4⟩, -⟩ := (HG.out.1.grow g2).five
        go_wp2
        go_ret
        exact ⟨by first | rfl | exact ret_bool (decide_eq_false (by omega)), HG.out.2.trans g2⟩
    · rw [decide_eq_false h2, Bool.false_and, Bool.and_false]
      have h3 : (1073741824 : Int) < ep := by omega
      cases t <;>
      · go_enter Try.func10, Try.ntmps10
        go_wp2_with fail
        refine (hc _ HG.out.2).mono ?_
        rintro e w2 ⟨rfl, g2⟩
        obtain ⟨⟨n0, n1, n2, n3, n4⟩, -⟩ := (HG.out.1.grow g2).five
        go_wp2
        go_ret
        exact ⟨by first | rfl | exact ret_bool (decide_eq_false (by omega)), HG.out.2.trans g2⟩
  · rw [decide_eq_false h1, Bool.false_and]
    cases t <;>
    · go_enter Try.func10, Try.ntmps10
      go_wp2_with fail
      refine (hc _ HG.out.2).mono ?_
      rintro e w2 ⟨rfl, g2⟩
      obtain ⟨⟨n0, n1, n2, n3, n4⟩, -⟩ := (HG.out.1.grow g2).five
      go_wp2
      go_ret
      exact ⟨by first | rfl | exact ret_bool (decide_eq_false (by omega)), HG.out.2.trans g2⟩

theorem two_sup {w : World} {t : TypeId} {l1 l2 : List Value} : VarAt ((w.alloc (.cells l1.toArray t)).alloc (.cells l2.toArray t)) w.heap.size l1 ∧ VarAt ((w.alloc (.cells l1.toArray t)).alloc (.cells l2.toArray t)) (w.heap.size + 1) l2 ∧ Grow w ((w.alloc (.cells l1.toArray t)).alloc (.cells l2.toArray t)) :=
  ⟨(VarAt.new w l1 _).old _, VarAt.new2 w _ l2 _, ((Grow.refl w).alloc _).alloc _⟩

set_option maxHeartbeats 4000000 in
theorem ssame_any {p p2 : Nat → Prop} (e1 f1 d1 s1 : Int) (v1 : Value) (ps : List Pt) (e2 f2 d2 s2 : Int) (v2 : Value) (qs : List Pt) (w : World) (h : RdP p w v1 ps) (h' : RdP p2 w v2 qs) :
    Calls Try.prog 21 #[.agg #[.int .i64 e1, .int .i64 f1, .int .i64 d1, .int .i64 s1, v1], .agg #[.int .i64 e2, .int .i64 f2, .int .i64 d2, .int .i64 s2, v2]] w fun e w' => e = .returned (.bool (sameS e1 f1 d1 s1 ps e2 f2 d2 s2 qs)) ∧ Grow w w' := by
  have HI : Hid (VarAt ((w.alloc (.cells #[.int .i64 e1, .int .i64 f1, .int .i64 d1, .int .i64 s1, v1] 36)).alloc (.cells #[.int .i64 e2, .int .i64 f2, .int .i64 d2, .int .i64 s2, v2] 36)) w.heap.size [.int .i64 e1, .int .i64 f1, .int .i64 d1, .int .i64 s1, v1] ∧ VarAt ((w.alloc (.cells #[.int .i64 e1, .int .i64 f1, .int .i64 d1, .int .i64 s1, v1] 36)).alloc (.cells #[.int .i64 e2, .int .i64 f2, .int .i64 d2, .int .i64 s2, v2] 36)) (w.heap.size + 1) [.int .i64 e2, .int .i64 f2, .int .i64 d2, .int .i64 s2, v2] ∧ Grow w ((w.alloc (.cells #[.int .i64 e1, .int .i64 f1, .int .i64 d1, .int .i64 s1, v1] 36)).alloc (.cells #[.int .i64 e2, .int .i64 f2, .int .i64 d2, .int .i64 s2, v2] 36))) := two_sup
  have hc := fun w' (g : Grow w w') => csame_any f1 d1 s1 v1 ps f2 d2 s2 v2 qs w' (RdS.grow h g) (RdS.grow h' g)
  obtain ⟨a, cp, rfl, h1, h2, -⟩ := h
  obtain ⟨a2, cp2, rfl, h12, h22, -⟩ := h'
  unfold sameS
  generalize sameG f1 d1 s1 ps f2 d2 s2 qs = B at hc ⊢
  clear h1 h2 h12 h22
  generalize ps.length = n1 at HI hc ⊢
  generalize qs.length = n2 at HI hc ⊢
  by_cases he : e1 = e2
  · have e0 : (e1 == e2) = true := by simp [he]
    rw [e0, Bool.true_and]
    clear he
    go_enter Try.func21, Try.ntmps21
    go_wp2_with fail
    refine (hc _ HI.out.2.2).mono ?_
    rintro e w2 ⟨rfl, g2⟩
    go_wp2
    go_ret
    exact ⟨rfl, HI.out.2.2.trans g2⟩
  · have e0 : (e1 == e2) = false := by simp [he]
    rw [e0, Bool.false_and]
    clear he
    go_enter Try.func21, Try.ntmps21
    go_wp2
    go_ret
    exact ⟨rfl, HI.out.2.2⟩

set_option maxHeartbeats 4000000 in
theorem qsame_any {p p2 : Nat → Prop} (e1 f1 d1 s1 : Int) (v1 : Value) (ps : List Pt) (e2 f2 d2 s2 : Int) (v2 : Value) (qs : List Pt) (w : World) (h : RdP p w v1 ps) (h' : RdP p2 w v2 qs) :
    Calls Try.prog 17 #[.agg #[.int .i64 e1, .int .i64 f1, .int .i64 d1, .int .i64 s1, v1], .agg #[.int .i64 e2, .int .i64 f2, .int .i64 d2, .int .i64 s2, v2]] w fun e w' => e = .returned (.bool (sameS e1 f1 d1 s1 ps e2 f2 d2 s2 qs)) ∧ Grow w w' := by
  have HI : Hid (VarAt ((w.alloc (.cells #[.int .i64 e1, .int .i64 f1, .int .i64 d1, .int .i64 s1, v1] 26)).alloc (.cells #[.int .i64 e2, .int .i64 f2, .int .i64 d2, .int .i64 s2, v2] 26)) w.heap.size [.int .i64 e1, .int .i64 f1, .int .i64 d1, .int .i64 s1, v1] ∧ VarAt ((w.alloc (.cells #[.int .i64 e1, .int .i64 f1, .int .i64 d1, .int .i64 s1, v1] 26)).alloc (.cells #[.int .i64 e2, .int .i64 f2, .int .i64 d2, .int .i64 s2, v2] 26)) (w.heap.size + 1) [.int .i64 e2, .int .i64 f2, .int .i64 d2, .int .i64 s2, v2] ∧ Grow w ((w.alloc (.cells #[.int .i64 e1, .int .i64 f1, .int .i64 d1, .int .i64 s1, v1] 26)).alloc (.cells #[.int .i64 e2, .int .i64 f2, .int .i64 d2, .int .i64 s2, v2] 26))) := two_sup
  have hc := fun w' (g : Grow w w') => rsame_any f1 d1 s1 v1 ps f2 d2 s2 v2 qs w' (RdS.grow h g) (RdS.grow h' g)
  obtain ⟨a, cp, rfl, h1, h2, -⟩ := h
  obtain ⟨a2, cp2, rfl, h12, h22, -⟩ := h'
  unfold sameS
  generalize sameG f1 d1 s1 ps f2 d2 s2 qs = B at hc ⊢
  clear h1 h2 h12 h22
  generalize ps.length = n1 at HI hc ⊢
  generalize qs.length = n2 at HI hc ⊢
  generalize hX : (e1 == e2) = X
  cases X <;> cases B <;>
  · go_enter Try.func17, Try.ntmps17
    go_wp2_with fail
    refine (hc _ HI.out.2.2).mono ?_
    rintro e w2 ⟨rfl, g2⟩
    obtain ⟨⟨m0, m1, m2, m3, m4⟩, -⟩ := (HI.out.1.grow g2).five
    obtain ⟨⟨n0, n1, n2, n3, n4⟩, -⟩ := (HI.out.2.1.grow g2).five
    go_wp2
    go_ret
    exact ⟨rfl, HI.out.2.2.trans g2⟩
end Go.Proofs.Ytlcphhlimcnnaaa
