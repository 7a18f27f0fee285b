/-
  The walk of ReqSame. Conditions: the theorem's own.
-/
import Derived.Test.YtdafamocnjfmjaaDoorReqQs
import Derived.Test.YtdafamocnjfmjaaDoorReqL
import Derived.Test.YtdafamocnjfmjaaDoorLast
import Derived.Deep.CutRange
namespace Go.Proofs.YtdafamocnjfmjaaDoor
open Go.RowKit
set_option linter.unusedVariables false
set_option linter.unusedSimpArgs false

theorem RdS.growB {w u : World} {v : Value} {z : List Int} (h : Rd .u8 w.heap.size w v z) (g : Grow w u) : Rd .u8 u.heap.size u v z := Rd.mono (h.below g) g.size
theorem RdS.slB {B : Nat} {w : World} {v : Value} {zs : List Int} (h : Rd .u8 B w v zs) : ∃ a c, v = .slice a zs.length c := by
  obtain ⟨a, c, rfl, _⟩ := h
  exact ⟨a, c, rfl⟩
/-- both Sames of two requests -/
def Sm2 (o p f l : Int) (a : Option Addr) (n c : Nat) (o' p' f' l' : Int) (a' : Option Addr) (n' c' : Nat) (w : World) (E : Bool) : Prop :=
  (∀ u, Grow w u → Calls Tryd.prog 23 #[.agg #[.int .i64 o, .int .i64 p, .int .i64 f, .int .i64 l, .slice a n c], .agg #[.int .i64 o', .int .i64 p', .int .i64 f', .int .i64 l', .slice a' n' c']] u fun e w' => e = .returned (.bool E) ∧ Grow u w') ∧
  ∀ u, Grow w u → Calls Tryd.prog 21 #[.agg #[.int .i64 o, .int .i64 p, .int .i64 f, .int .i64 l, .slice a n c], .agg #[.int .i64 o', .int .i64 p', .int .i64 f', .int .i64 l', .slice a' n' c']] u fun e w' => e = .returned (.bool E) ∧ Grow u w'
theorem sm2 (w : World) (o p f l o' p' f' l' : Int) (a a' : Option Addr) (n n' c c' : Nat) (z z' : List Int) (h : Rd .u8 w.heap.size w (.slice a n c) z) (h' : Rd .u8 w.heap.size w (.slice a' n' c') z') (hz : Oct z) (hz' : Oct z') : Sm2 o p f l a n c o' p' f' l' a' n' c' w (smE o p f l z o' p' f' l' z') :=
  ⟨fun u g => same_any u o p f l o' p' f' l' a a' n n' c c' z z' _ _ (h.below g) (h'.below g) hz hz', fun u g => rsame_any u o p f l o' p' f' l' a a' n n' c c' z z' _ _ (h.below g) (h'.below g) hz hz'⟩

set_option maxRecDepth 16000 in
set_option maxHeartbeats 16000000 in
theorem reqSame_walk (x : Rq) (a : Option Addr) (n c : Nat) (y : Rq) (a2 : Option Addr) (n2 c2 : Nat) (yb : Int) (w : World) (hw : WT w) (hx : Rd .u8 w.heap.size w (.slice a n c) x.z) (hxo : x.Ok maxLen) (hy : Rd .u8 w.heap.size w (.slice a2 n2 c2) y.z) (hyo : y.Ok maxLen) (hyb : (Lit.int .u8 yb).wf = true) :
    Calls Tryd.prog 7 #[.agg #[.int .i64 x.o, .int .i64 x.p, .int .i64 x.f, .int .i64 x.l, .slice a n c], .agg #[.int .i64 y.o, .int .i64 y.p, .int .i64 y.f, .int .i64 y.l, .slice a2 n2 c2], .int .u8 yb] w fun e w' => e = .returned (.bool true) ∧ Grow w w' := by
  have H0 : Hid (VarAt ((w.alloc (.cells #[.int .i64 x.o, .int .i64 x.p, .int .i64 x.f, .int .i64 x.l, .slice a n c] 24)).alloc (.cells #[.int .i64 y.o, .int .i64 y.p, .int .i64 y.f, .int .i64 y.l, .slice a2 n2 c2] 24)) w.heap.size [.int .i64 x.o, .int .i64 x.p, .int .i64 x.f, .int .i64 x.l, .slice a n c] ∧ VarAt ((w.alloc (.cells #[.int .i64 x.o, .int .i64 x.p, .int .i64 x.f, .int .i64 x.l, .slice a n c] 24)).alloc (.cells #[.int .i64 y.o, .int .i64 y.p, .int .i64 y.f, .int .i64 y.l, .slice a2 n2 c2] 24)) (w.heap.size + 1) [.int .i64 y.o, .int .i64 y.p, .int .i64 y.f, .int .i64 y.l, .slice a2 n2 c2] ∧ Grow w ((w.alloc (.cells #[.int .i64 x.o, .int .i64 x.p, .int .i64 x.f, .int .i64 x.l, .slice a n c] 24)).alloc (.cells #[.int .i64 y.o, .int .i64 y.p, .int .i64 y.f, .int .i64 y.l, .slice a2 n2 c2] 24))) := ⟨(VarAt.new w _ _).old _, VarAt.new2 w _ _ _, ((Grow.refl w).alloc _).alloc _⟩
  have HFX : Hid (∀ u, Grow w u → Calls Tryd.prog 10 #[.agg #[.int .i64 x.o, .int .i64 x.p, .int .i64 x.f, .int .i64 x.l, .slice a n c]] u fun e w' => ∃ v, e = .returned (.agg #[.int .i64 x.o, .int .i64 x.p, .int .i64 x.f, .int .i64 x.l, v]) ∧ Own .u8 u.heap.size w' v (x.z.take 34) ∧ Grow u w') := fun u gu => rfew_any u x.o x.p x.f x.l a n c x.z w.heap.size (hx.below gu)
  have HFY : Hid (∀ u, Grow w u → Calls Tryd.prog 10 #[.agg #[.int .i64 y.o, .int .i64 y.p, .int .i64 y.f, .int .i64 y.l, .slice a2 n2 c2]] u fun e w' => ∃ v, e = .returned (.agg #[.int .i64 y.o, .int .i64 y.p, .int .i64 y.f, .int .i64 y.l, v]) ∧ Own .u8 u.heap.size w' v (y.z.take 34) ∧ Grow u w') := fun u gu => rfew_any u y.o y.p y.f y.l a2 n2 c2 y.z w.heap.size (hy.below gu)
  have hlx : (x.z.take 34).length ≤ 34 := by rw [List.length_take]; omega
  have hly : (y.z.take 34).length ≤ 34 := by rw [List.length_take]; omega
  have hox : Oct (x.z.take 34) := hxo.2.2.2.2.1.take 34
  have hoy : Oct (y.z.take 34) := hyo.2.2.2.2.1.take 34
  generalize x.z.take 34 = zx at *
  generalize y.z.take 34 = zy at *
  have HXO : Hid ((⟨x.o, x.p, x.f, x.l, zx⟩ : Rq).Ok 34 ∧ (⟨y.o, y.p, y.f, y.l, zy⟩ : Rq).Ok 34) := ⟨⟨hxo.1, hxo.2.1, hxo.2.2.1, hxo.2.2.2.1, hox, hlx⟩, ⟨hyo.1, hyo.2.1, hyo.2.2.1, hyo.2.2.2.1, hoy, hly⟩⟩
  have HWT := hid hw
  have HLV : Hid (∀ u, WT u → Calls Tryd.prog 14 #[] u fun e w' => e = .returned (.bool true) ∧ Grow u w') := fun u hu => lives_any u hu
  clear hw hx hxo hy hyo hyb hlx hly hox hoy
  go_enter Tryd.func7, Tryd.ntmps7
  go_wp2_with fail
  refine (HFX.out _ H0.out.2.2).mono ?_
  rintro e w1 ⟨v1, rfl, ho1, g1⟩
  obtain ⟨xa, xc, rfl⟩ := ho1.shape
  have H1 : Hid (VarAt w1 w.heap.size [.int .i64 x.o, .int .i64 x.p, .int .i64 x.f, .int .i64 x.l, .slice a n c] ∧ VarAt w1 (w.heap.size + 1) [.int .i64 y.o, .int .i64 y.p, .int .i64 y.f, .int .i64 y.l, .slice a2 n2 c2] ∧ Grow w w1 ∧ Rd .u8 w1.heap.size w1 (.slice xa zx.length xc) zx) := ⟨H0.out.1.grow g1, H0.out.2.1.grow g1, H0.out.2.2.trans g1, ho1.rd⟩
  clear H0 ho1 g1
  go_upto_region 2 with fail
  have ga : ∀ o1, Grow w1 (World.alloc w1 o1) := fun o1 => (Grow.refl w1).alloc o1
  refine wp_gen (fun u => VarAt u w.heap.size [.int .i64 x.o, .int .i64 x.p, .int .i64 x.f, .int .i64 x.l, .slice a n c] ∧ VarAt u (w.heap.size + 1) [.int .i64 y.o, .int .i64 y.p, .int .i64 y.f, .int .i64 y.l, .slice a2 n2 c2] ∧ Grow w u ∧ Rd .u8 u.heap.size u (.slice xa zx.length xc) zx ∧ VarAt u w1.heap.size [.int .i64 x.o, .int .i64 x.p, .int .i64 x.f, .int .i64 x.l, .slice xa zx.length xc]) ⟨H1.out.1.grow (ga _), H1.out.2.1.grow (ga _), H1.out.2.2.1.trans (ga _), RdS.growB H1.out.2.2.2 (ga _), VarAt.new w1 _ _⟩ ?_
  intro w2 h2
  have H2 := hid h2
  clear h2 ga H1
  generalize w1.heap.size = b7 at *
  obtain ⟨⟨c0, c1, c2', c3, c4⟩, -⟩ := H2.out.2.1.five
  go_wp2_with fail
  refine (HFY.out _ H2.out.2.2.1).mono ?_
  rintro e w3 ⟨v3, rfl, ho3, g3⟩
  obtain ⟨ya, yc, rfl⟩ := ho3.shape
  have H3 : Hid (VarAt w3 w.heap.size [.int .i64 x.o, .int .i64 x.p, .int .i64 x.f, .int .i64 x.l, .slice a n c] ∧ Grow w w3 ∧ Rd .u8 w3.heap.size w3 (.slice xa zx.length xc) zx ∧ VarAt w3 b7 [.int .i64 x.o, .int .i64 x.p, .int .i64 x.f, .int .i64 x.l, .slice xa zx.length xc] ∧ Rd .u8 w3.heap.size w3 (.slice ya zy.length yc) zy) := ⟨H2.out.1.grow g3, H2.out.2.2.1.trans g3, RdS.growB H2.out.2.2.2.1 g3, H2.out.2.2.2.2.grow g3, ho3.rd⟩
  clear H2 ho3 g3 c0 c1 c2' c3 c4
  go_upto_region 3 with fail
  have ga : ∀ o1, Grow w3 (World.alloc w3 o1) := fun o1 => (Grow.refl w3).alloc o1
  refine wp_gen (fun u => VarAt u w.heap.size [.int .i64 x.o, .int .i64 x.p, .int .i64 x.f, .int .i64 x.l, .slice a n c] ∧ Grow w u ∧ Rd .u8 u.heap.size u (.slice xa zx.length xc) zx ∧ VarAt u b7 [.int .i64 x.o, .int .i64 x.p, .int .i64 x.f, .int .i64 x.l, .slice xa zx.length xc] ∧ Rd .u8 u.heap.size u (.slice ya zy.length yc) zy ∧ VarAt u w3.heap.size [.int .i64 y.o, .int .i64 y.p, .int .i64 y.f, .int .i64 y.l, .slice ya zy.length yc]) ⟨H3.out.1.grow (ga _), H3.out.2.1.trans (ga _), RdS.growB H3.out.2.2.1 (ga _), H3.out.2.2.2.1.grow (ga _), RdS.growB H3.out.2.2.2.2 (ga _), VarAt.new w3 _ _⟩ ?_
  intro w4 h4
  have H4 := hid h4
  clear h4 ga H3
  generalize w3.heap.size = b8 at *
  have HOD : Hid (∀ (k : Int), 0 ≤ k → k < 5 → ∀ u, Grow w4 u → Calls Tryd.prog 11 #[.agg #[.int .i64 x.o, .int .i64 x.p, .int .i64 x.f, .int .i64 x.l, .slice xa zx.length xc], .agg #[.int .i64 y.o, .int .i64 y.p, .int .i64 y.f, .int .i64 y.l, .slice ya zy.length yc], .int .i64 k] u fun e w' => ∃ (q : Rq) (v : Value), e = .returned (.agg #[.int .i64 q.o, .int .i64 q.p, .int .i64 q.f, .int .i64 q.l, v]) ∧ Rd .u8 w'.heap.size w' v q.z ∧ q.Ok 34 ∧ Grow u w') := fun k hk0 hk5 u gu =>
    (odd_any u ⟨x.o, x.p, x.f, x.l, zx⟩ ⟨y.o, y.p, y.f, y.l, zy⟩ xa zx.length xc ya zy.length yc _ _ k (H4.out.2.2.1.below gu) (H4.out.2.2.2.2.1.below gu) (wfI (by omega))).mono (by
      rintro e w' ⟨v, rfl, h1, h2⟩
      exact ⟨_, v, rfl, h1, HXO.out.1.odd HXO.out.2 (by omega) _, h2⟩)
  refine wp_region_sched (by kernel_rfl) [(0, false), (1, false), (2, false), (3, false), (5, false), (6, false), (8, false), (9, false), (11, false), (12, false), (14, false), (15, false), (4, true), (7, true), (10, true), (13, true), (16, true), (17, true), (18, false)] (by kernel_rfl) (by kernel_rfl) rfl (fun _ _ d _ _ h => by cases d <;> exact h) ?_
  simp only [inOrder, List.filterMap_cons, List.filterMap_nil, List.getElem?_toArray, List.getElem?_cons_zero, List.getElem?_cons_succ, Option.map_some]
  repeat (first
    | (refine wpS_move rfl ?_; simp only [Act.eval, Act.put, Array.getD_eq_getD_getElem?, List.getElem?_toArray, List.getElem?_cons_zero, List.getElem?_cons_succ, Option.getD_some, List.setIfInBounds_toArray, List.set_cons_zero, List.set_cons_succ])
    | (refine wpS_assign rfl ?_; simp only [Act.eval, Act.put, Array.getD_eq_getD_getElem?, List.getElem?_toArray, List.getElem?_cons_zero, List.getElem?_cons_succ, Option.getD_some, List.setIfInBounds_toArray, List.set_cons_zero, List.set_cons_succ])
    | (refine wpS_read (v := ?_) rfl ?_ ?_; rotate_left; (focus (intro w' hG; obtain ⟨c0, c1, c2, c3, c4⟩ := late5 H4.out.2.2.2.1 (.inr hG); obtain ⟨d0, d1, d2, d3, d4⟩ := late5 H4.out.2.2.2.2.2 (.inr hG); go_simp; try (with_reducible rfl))); simp only [Act.put, List.setIfInBounds_toArray, List.set_cons_zero, List.set_cons_succ])
    | (refine wpS_skip rfl ?_; simp only [Act.put, List.setIfInBounds_toArray, List.set_cons_zero, List.set_cons_succ]))
  have G4 : Hid (Grow w4 w4.drew) := (Grow.refl _).drew
  refine wpS_call (f := ?_) (args := ?_) (by rfl) ?_ ?_
  rotate_left 2; focus (go_simp; constructor <;> with_reducible rfl)
  refine (HOD.out 0 (by omega) (by omega) _ G4.out).mono ?_
  rintro e u0 ⟨q0, v0, rfl, hr0, hk0, gq0⟩
  refine ⟨_, rfl, gq0, ?_⟩
  simp only [Act.put, List.setIfInBounds_toArray, List.set_cons_zero, List.set_cons_succ]
  obtain ⟨oa0, oc0, rfl⟩ := RdS.slB hr0
  have GU0 : Hid (Grow w4 u0) := G4.out.trans gq0
  have HR0 : Hid (Rd .u8 u0.heap.size u0 (.slice oa0 q0.z.length oc0) q0.z ∧ q0.Ok 34) := ⟨hr0, hk0⟩
  clear hr0 hk0 gq0
  refine wpS_call (f := ?_) (args := ?_) (by rfl) ?_ ?_
  rotate_left 2; focus (go_simp; constructor <;> with_reducible rfl)
  refine (HOD.out 1 (by omega) (by omega) _ GU0.out).mono ?_
  rintro e u1 ⟨q1, v1, rfl, hr1, hk1, gq1⟩
  refine ⟨_, rfl, gq1, ?_⟩
  simp only [Act.put, List.setIfInBounds_toArray, List.set_cons_zero, List.set_cons_succ]
  obtain ⟨oa1, oc1, rfl⟩ := RdS.slB hr1
  have GU1 : Hid (Grow w4 u1) := GU0.out.trans gq1
  replace HR0 := hid (And.intro (RdS.growB HR0.out.1 gq1) HR0.out.2)
  have HR1 : Hid (Rd .u8 u1.heap.size u1 (.slice oa1 q1.z.length oc1) q1.z ∧ q1.Ok 34) := ⟨hr1, hk1⟩
  clear hr1 hk1 gq1
  refine wpS_call (f := ?_) (args := ?_) (by rfl) ?_ ?_
  rotate_left 2; focus (go_simp; constructor <;> with_reducible rfl)
  refine (HOD.out 2 (by omega) (by omega) _ GU1.out).mono ?_
  rintro e u2 ⟨q2, v2, rfl, hr2, hk2, gq2⟩
  refine ⟨_, rfl, gq2, ?_⟩
  simp only [Act.put, List.setIfInBounds_toArray, List.set_cons_zero, List.set_cons_succ]
  obtain ⟨oa2, oc2, rfl⟩ := RdS.slB hr2
  have GU2 : Hid (Grow w4 u2) := GU1.out.trans gq2
  replace HR0 := hid (And.intro (RdS.growB HR0.out.1 gq2) HR0.out.2)
  replace HR1 := hid (And.intro (RdS.growB HR1.out.1 gq2) HR1.out.2)
  have HR2 : Hid (Rd .u8 u2.heap.size u2 (.slice oa2 q2.z.length oc2) q2.z ∧ q2.Ok 34) := ⟨hr2, hk2⟩
  clear hr2 hk2 gq2
  refine wpS_call (f := ?_) (args := ?_) (by rfl) ?_ ?_
  rotate_left 2; focus (go_simp; constructor <;> with_reducible rfl)
  refine (HOD.out 3 (by omega) (by omega) _ GU2.out).mono ?_
  rintro e u3 ⟨q3, v3, rfl, hr3, hk3, gq3⟩
  refine ⟨_, rfl, gq3, ?_⟩
  simp only [Act.put, List.setIfInBounds_toArray, List.set_cons_zero, List.set_cons_succ]
  obtain ⟨oa3, oc3, rfl⟩ := RdS.slB hr3
  have GU3 : Hid (Grow w4 u3) := GU2.out.trans gq3
  replace HR0 := hid (And.intro (RdS.growB HR0.out.1 gq3) HR0.out.2)
  replace HR1 := hid (And.intro (RdS.growB HR1.out.1 gq3) HR1.out.2)
  replace HR2 := hid (And.intro (RdS.growB HR2.out.1 gq3) HR2.out.2)
  have HR3 : Hid (Rd .u8 u3.heap.size u3 (.slice oa3 q3.z.length oc3) q3.z ∧ q3.Ok 34) := ⟨hr3, hk3⟩
  clear hr3 hk3 gq3
  refine wpS_call (f := ?_) (args := ?_) (by rfl) ?_ ?_
  rotate_left 2; focus (go_simp; constructor <;> with_reducible rfl)
  refine (HOD.out 4 (by omega) (by omega) _ GU3.out).mono ?_
  rintro e u4 ⟨q4, v4, rfl, hr4, hk4, gq4⟩
  refine ⟨_, rfl, gq4, ?_⟩
  simp only [Act.put, List.setIfInBounds_toArray, List.set_cons_zero, List.set_cons_succ]
  obtain ⟨oa4, oc4, rfl⟩ := RdS.slB hr4
  have GU4 : Hid (Grow w4 u4) := GU3.out.trans gq4
  replace HR0 := hid (And.intro (RdS.growB HR0.out.1 gq4) HR0.out.2)
  replace HR1 := hid (And.intro (RdS.growB HR1.out.1 gq4) HR1.out.2)
  replace HR2 := hid (And.intro (RdS.growB HR2.out.1 gq4) HR2.out.2)
  replace HR3 := hid (And.intro (RdS.growB HR3.out.1 gq4) HR3.out.2)
  have HR4 : Hid (Rd .u8 u4.heap.size u4 (.slice oa4 q4.z.length oc4) q4.z ∧ q4.Ok 34) := ⟨hr4, hk4⟩
  clear hr4 hk4 gq4
  have HL : Hid (∀ v ∈ ([⟨x.o, x.p, x.f, x.l, xa, zx.length, xc⟩, ⟨y.o, y.p, y.f, y.l, ya, zy.length, yc⟩, ⟨q0.o, q0.p, q0.f, q0.l, oa0, q0.z.length, oc0⟩, ⟨q1.o, q1.p, q1.f, q1.l, oa1, q1.z.length, oc1⟩, ⟨q2.o, q2.p, q2.f, q2.l, oa2, q2.z.length, oc2⟩, ⟨q3.o, q3.p, q3.f, q3.l, oa3, q3.z.length, oc3⟩, ⟨q4.o, q4.p, q4.f, q4.l, oa4, q4.z.length, oc4⟩] : List RqV), ∃ z, RqI u4 34 v z) := fun v hv => by
    rcases List.mem_cons.1 hv with rfl | hv
    · exact ⟨zx, RdS.growB H4.out.2.2.1 GU4.out, HXO.out.1.2.2.1, HXO.out.1.2.2.2.1, HXO.out.1.2.2.2.2.1, HXO.out.1.2.2.2.2.2⟩
    rcases List.mem_cons.1 hv with rfl | hv
    · exact ⟨zy, RdS.growB H4.out.2.2.2.2.1 GU4.out, HXO.out.2.2.2.1, HXO.out.2.2.2.2.1, HXO.out.2.2.2.2.2.1, HXO.out.2.2.2.2.2.2⟩
    rcases List.mem_cons.1 hv with rfl | hv
    · exact ⟨q0.z, HR0.out.1, HR0.out.2.2.2.1, HR0.out.2.2.2.2.1, HR0.out.2.2.2.2.2.1, HR0.out.2.2.2.2.2.2⟩
    rcases List.mem_cons.1 hv with rfl | hv
    · exact ⟨q1.z, HR1.out.1, HR1.out.2.2.2.1, HR1.out.2.2.2.2.1, HR1.out.2.2.2.2.2.1, HR1.out.2.2.2.2.2.2⟩
    rcases List.mem_cons.1 hv with rfl | hv
    · exact ⟨q2.z, HR2.out.1, HR2.out.2.2.2.1, HR2.out.2.2.2.2.1, HR2.out.2.2.2.2.2.1, HR2.out.2.2.2.2.2.2⟩
    rcases List.mem_cons.1 hv with rfl | hv
    · exact ⟨q3.z, HR3.out.1, HR3.out.2.2.2.1, HR3.out.2.2.2.2.1, HR3.out.2.2.2.2.2.1, HR3.out.2.2.2.2.2.2⟩
    rcases List.mem_cons.1 hv with rfl | hv
    · exact ⟨q4.z, HR4.out.1, HR4.out.2.2.2.1, HR4.out.2.2.2.2.1, HR4.out.2.2.2.2.2.1, HR4.out.2.2.2.2.2.2⟩
    · cases hv
  refine wpS_act (by rfl) (exec_rq7 ⟨x.o, x.p, x.f, x.l, xa, zx.length, xc⟩ ⟨y.o, y.p, y.f, y.l, ya, zy.length, yc⟩ ⟨q0.o, q0.p, q0.f, q0.l, oa0, q0.z.length, oc0⟩ ⟨q1.o, q1.p, q1.f, q1.l, oa1, q1.z.length, oc1⟩ ⟨q2.o, q2.p, q2.f, q2.l, oa2, q2.z.length, oc2⟩ ⟨q3.o, q3.p, q3.f, q3.l, oa3, q3.z.length, oc3⟩ ⟨q4.o, q4.p, q4.f, q4.l, oa4, q4.z.length, oc4⟩ rfl rfl rfl rfl rfl rfl rfl rfl) ((Grow.refl _).alloc _) ?_
  simp only [Act.put, List.setIfInBounds_toArray, List.set_cons_zero, List.set_cons_succ]
  have H5 : Hid (QsAt (u4.alloc (.cells (([⟨x.o, x.p, x.f, x.l, xa, zx.length, xc⟩, ⟨y.o, y.p, y.f, y.l, ya, zy.length, yc⟩, ⟨q0.o, q0.p, q0.f, q0.l, oa0, q0.z.length, oc0⟩, ⟨q1.o, q1.p, q1.f, q1.l, oa1, q1.z.length, oc1⟩, ⟨q2.o, q2.p, q2.f, q2.l, oa2, q2.z.length, oc2⟩, ⟨q3.o, q3.p, q3.f, q3.l, oa3, q3.z.length, oc3⟩, ⟨q4.o, q4.p, q4.f, q4.l, oa4, q4.z.length, oc4⟩] : List RqV).flatMap RqV.cs).toArray 24)) u4.heap.size ([⟨x.o, x.p, x.f, x.l, xa, zx.length, xc⟩, ⟨y.o, y.p, y.f, y.l, ya, zy.length, yc⟩, ⟨q0.o, q0.p, q0.f, q0.l, oa0, q0.z.length, oc0⟩, ⟨q1.o, q1.p, q1.f, q1.l, oa1, q1.z.length, oc1⟩, ⟨q2.o, q2.p, q2.f, q2.l, oa2, q2.z.length, oc2⟩, ⟨q3.o, q3.p, q3.f, q3.l, oa3, q3.z.length, oc3⟩, ⟨q4.o, q4.p, q4.f, q4.l, oa4, q4.z.length, oc4⟩] : List RqV) 34 ∧ Grow w4 (u4.alloc (.cells (([⟨x.o, x.p, x.f, x.l, xa, zx.length, xc⟩, ⟨y.o, y.p, y.f, y.l, ya, zy.length, yc⟩, ⟨q0.o, q0.p, q0.f, q0.l, oa0, q0.z.length, oc0⟩, ⟨q1.o, q1.p, q1.f, q1.l, oa1, q1.z.length, oc1⟩, ⟨q2.o, q2.p, q2.f, q2.l, oa2, q2.z.length, oc2⟩, ⟨q3.o, q3.p, q3.f, q3.l, oa3, q3.z.length, oc3⟩, ⟨q4.o, q4.p, q4.f, q4.l, oa4, q4.z.length, oc4⟩] : List RqV).flatMap RqV.cs).toArray 24))) := ⟨qs_new u4 _ 34 (by show 7 ≤ 1000; omega) HL.out, GU4.out.alloc _⟩
  generalize hW5 : (u4.alloc (.cells (([⟨x.o, x.p, x.f, x.l, xa, zx.length, xc⟩, ⟨y.o, y.p, y.f, y.l, ya, zy.length, yc⟩, ⟨q0.o, q0.p, q0.f, q0.l, oa0, q0.z.length, oc0⟩, ⟨q1.o, q1.p, q1.f, q1.l, oa1, q1.z.length, oc1⟩, ⟨q2.o, q2.p, q2.f, q2.l, oa2, q2.z.length, oc2⟩, ⟨q3.o, q3.p, q3.f, q3.l, oa3, q3.z.length, oc3⟩, ⟨q4.o, q4.p, q4.f, q4.l, oa4, q4.z.length, oc4⟩] : List RqV).flatMap RqV.cs).toArray 24)) = w5 at *
  clear hW5 HL HR0 HR1 HR2 HR3 HR4 GU0 GU1 GU2 GU3 GU4 G4 HOD
  generalize u4.heap.size = g9 at *
  obtain ⟨L, hL⟩ : ∃ L : List RqV, L = ([⟨x.o, x.p, x.f, x.l, xa, zx.length, xc⟩, ⟨y.o, y.p, y.f, y.l, ya, zy.length, yc⟩, ⟨q0.o, q0.p, q0.f, q0.l, oa0, q0.z.length, oc0⟩, ⟨q1.o, q1.p, q1.f, q1.l, oa1, q1.z.length, oc1⟩, ⟨q2.o, q2.p, q2.f, q2.l, oa2, q2.z.length, oc2⟩, ⟨q3.o, q3.p, q3.f, q3.l, oa3, q3.z.length, oc3⟩, ⟨q4.o, q4.p, q4.f, q4.l, oa4, q4.z.length, oc4⟩] : List RqV) := ⟨_, rfl⟩
  rw [← hL] at H5
  have HLL : Hid (L.length = 7) := by rw [hL]; rfl
  clear hL
  repeat (first
    | (refine wpS_move rfl ?_; simp only [Act.eval, Act.put, Array.getD_eq_getD_getElem?, List.getElem?_toArray, List.getElem?_cons_zero, List.getElem?_cons_succ, Option.getD_some, List.setIfInBounds_toArray, List.set_cons_zero, List.set_cons_succ])
    | (refine wpS_assign rfl ?_; simp only [Act.eval, Act.put, Array.getD_eq_getD_getElem?, List.getElem?_toArray, List.getElem?_cons_zero, List.getElem?_cons_succ, Option.getD_some, List.setIfInBounds_toArray, List.set_cons_zero, List.set_cons_succ])
    | (refine wpS_read (v := ?_) rfl ?_ ?_; rotate_left; (focus (intro w' hG; go_simp; try (with_reducible rfl))); simp only [Act.put, List.setIfInBounds_toArray, List.set_cons_zero, List.set_cons_succ])
    | (refine wpS_skip rfl ?_; simp only [Act.put, List.setIfInBounds_toArray, List.set_cons_zero, List.set_cons_succ]))
  refine wpS_nil ?_
  have H6 : Hid (QsAt w5 g9 L 34 ∧ VarAt w5 w.heap.size [.int .i64 x.o, .int .i64 x.p, .int .i64 x.f, .int .i64 x.l, .slice a n c] ∧ Grow w w5 ∧ Rd .u8 w5.heap.size w5 (.slice xa zx.length xc) zx ∧ VarAt w5 b7 [.int .i64 x.o, .int .i64 x.p, .int .i64 x.f, .int .i64 x.l, .slice xa zx.length xc] ∧ Rd .u8 w5.heap.size w5 (.slice ya zy.length yc) zy ∧ VarAt w5 b8 [.int .i64 y.o, .int .i64 y.p, .int .i64 y.f, .int .i64 y.l, .slice ya zy.length yc]) :=
    ⟨H5.out.1, H4.out.1.grow H5.out.2, H4.out.2.1.trans H5.out.2, RdS.growB H4.out.2.2.1 H5.out.2, H4.out.2.2.2.1.grow H5.out.2, RdS.growB H4.out.2.2.2.2.1 H5.out.2, H4.out.2.2.2.2.2.grow H5.out.2⟩
  clear H4 H5
  go_wp2
  go_loopg [10] 7 (fun k i wr => ∃ j : Nat, k = 7 - j ∧ j ≤ 7 ∧ i = .int .i64 j ∧ Hid (QsAt wr g9 L 34 ∧ VarAt wr w.heap.size [.int .i64 x.o, .int .i64 x.p, .int .i64 x.f, .int .i64 x.l, .slice a n c] ∧ Grow w wr ∧ Rd .u8 wr.heap.size wr (.slice xa zx.length xc) zx ∧ VarAt wr b7 [.int .i64 x.o, .int .i64 x.p, .int .i64 x.f, .int .i64 x.l, .slice xa zx.length xc] ∧ Rd .u8 wr.heap.size wr (.slice ya zy.length yc) zy ∧ VarAt wr b8 [.int .i64 y.o, .int .i64 y.p, .int .i64 y.f, .int .i64 y.l, .slice ya zy.length yc]))
  case atStart => exact ⟨0, rfl, Nat.zero_le _, rfl, H6.out⟩
  case round =>
    obtain ⟨j, hk, hj, rfl, HJ⟩ := hrel
    clear H6
    by_cases hlt : j < 7
    · have hlt' : (j : Int) < 7 := by omega
      obtain ⟨y1, z1, hI, -, fx⟩ := HJ.out.1.at (j := j) (by rw [HLL.out]; exact hlt)
      have HC1 := hid (sm2 wr x.o x.p x.f x.l y1.o y1.p y1.f y1.l xa y1.a zx.length y1.n xc y1.c zx z1 HJ.out.2.2.2.1 hI.1 HXO.out.1.2.2.2.2.1 hI.2.2.2.1)
      have HC2 := hid (sm2 wr y1.o y1.p y1.f y1.l y.o y.p y.f y.l y1.a ya y1.n zy.length y1.c yc z1 zy hI.1 HJ.out.2.2.2.2.2.1 hI.2.2.2.1 HXO.out.2.2.2.2.2.1)
      have HF := hid fx
      have HK : Hid (j < 7 ∧ gk = 7 - j) := ⟨hlt, hk⟩
      generalize smE x.o x.p x.f x.l zx y1.o y1.p y1.f y1.l z1 = E1 at HC1
      generalize smE y1.o y1.p y1.f y1.l z1 y.o y.p y.f y.l zy = E2 at HC2
      clear hk hlt fx hI
      obtain ⟨o1, p1, f1, l1, a1, n1, c1⟩ := y1
      dsimp only at HC1 HC2 HF
      have GG : Hid (Grow wr wr.drew) := (Grow.refl _).drew
      go_wp2
      refine wp_region_sched (by kernel_rfl) [(0, false), (1, false), (2, false), (3, false), (4, false), (6, false), (7, false), (8, false), (9, false), (10, false), (5, true), (11, true), (12, false), (13, false), (14, false), (15, false), (16, false), (17, false), (18, false), (20, false), (21, false), (22, false), (23, false), (24, false), (19, true), (25, true), (26, false), (27, false)] (by kernel_rfl) (by kernel_rfl) rfl (fun _ _ d _ _ h => by cases d <;> exact h) ?_
      simp only [inOrder, List.filterMap_cons, List.filterMap_nil, List.getElem?_toArray, List.getElem?_cons_zero, List.getElem?_cons_succ, Option.map_some]
      repeat (first
        | (refine wpS_move rfl ?_; simp only [Act.eval, Act.put, Array.getD_eq_getD_getElem?, List.getElem?_toArray, List.getElem?_cons_zero, List.getElem?_cons_succ, Option.getD_some, List.setIfInBounds_toArray, List.set_cons_zero, List.set_cons_succ])
        | (refine wpS_assign rfl ?_; simp only [Act.eval, Act.put, Array.getD_eq_getD_getElem?, List.getElem?_toArray, List.getElem?_cons_zero, List.getElem?_cons_succ, Option.getD_some, List.setIfInBounds_toArray, List.set_cons_zero, List.set_cons_succ])
        | (refine wpS_read (v := ?_) rfl ?_ ?_; rotate_left; (focus (intro w' hG; obtain ⟨c0, c1, c2, c3, c4⟩ := HF.out w' (by first | exact (Grow.refl _).drew.trans hG | exact GG.out.trans hG); obtain ⟨d0, d1, d2, d3, d4⟩ := late5 HJ.out.2.2.2.2.1 (by first | exact .inr hG | exact .inl (GG.out.trans hG)); obtain ⟨e0, e1, e2, e3, e4⟩ := late5 HJ.out.2.2.2.2.2.2 (by first | exact .inr hG | exact .inl (GG.out.trans hG)); go_simp; try (with_reducible rfl))); simp only [Act.put, List.setIfInBounds_toArray, List.set_cons_zero, List.set_cons_succ])
        | (refine wpS_skip rfl ?_; simp only [Act.put, List.setIfInBounds_toArray, List.set_cons_zero, List.set_cons_succ]))
      refine wpS_call (f := ?_) (args := ?_) (by rfl) ?_ ?_
      rotate_left 2; focus (go_simp; constructor <;> with_reducible rfl)
      refine (HC1.out.1 _ GG.out).mono ?_
      rintro e w7 ⟨rfl, g7⟩
      refine ⟨_, rfl, g7, ?_⟩
      simp only [Act.put, List.setIfInBounds_toArray, List.set_cons_zero, List.set_cons_succ]
      replace GG : Hid (Grow wr w7) := GG.out.trans g7
      clear g7
      repeat (first
        | (refine wpS_move rfl ?_; simp only [Act.eval, Act.put, Array.getD_eq_getD_getElem?, List.getElem?_toArray, List.getElem?_cons_zero, List.getElem?_cons_succ, Option.getD_some, List.setIfInBounds_toArray, List.set_cons_zero, List.set_cons_succ])
        | (refine wpS_assign rfl ?_; simp only [Act.eval, Act.put, Array.getD_eq_getD_getElem?, List.getElem?_toArray, List.getElem?_cons_zero, List.getElem?_cons_succ, Option.getD_some, List.setIfInBounds_toArray, List.set_cons_zero, List.set_cons_succ])
        | (refine wpS_read (v := ?_) rfl ?_ ?_; rotate_left; (focus (intro w' hG; obtain ⟨c0, c1, c2, c3, c4⟩ := HF.out w' (by first | exact (Grow.refl _).drew.trans hG | exact GG.out.trans hG); obtain ⟨d0, d1, d2, d3, d4⟩ := late5 HJ.out.2.2.2.2.1 (by first | exact .inr hG | exact .inl (GG.out.trans hG)); obtain ⟨e0, e1, e2, e3, e4⟩ := late5 HJ.out.2.2.2.2.2.2 (by first | exact .inr hG | exact .inl (GG.out.trans hG)); go_simp; try (with_reducible rfl))); simp only [Act.put, List.setIfInBounds_toArray, List.set_cons_zero, List.set_cons_succ])
        | (refine wpS_skip rfl ?_; simp only [Act.put, List.setIfInBounds_toArray, List.set_cons_zero, List.set_cons_succ]))
      refine wpS_call (f := ?_) (args := ?_) (by rfl) ?_ ?_
      rotate_left 2; focus (go_simp; constructor <;> with_reducible rfl)
      refine (HC1.out.2 _ GG.out).mono ?_
      rintro e w8 ⟨rfl, g8⟩
      refine ⟨_, rfl, g8, ?_⟩
      simp only [Act.put, List.setIfInBounds_toArray, List.set_cons_zero, List.set_cons_succ]
      replace GG : Hid (Grow wr w8) := GG.out.trans g8
      clear g8
      repeat (first
        | (refine wpS_move rfl ?_; simp only [Act.eval, Act.put, Array.getD_eq_getD_getElem?, List.getElem?_toArray, List.getElem?_cons_zero, List.getElem?_cons_succ, Option.getD_some, List.setIfInBounds_toArray, List.set_cons_zero, List.set_cons_succ])
        | (refine wpS_assign rfl ?_; simp only [Act.eval, Act.put, Array.getD_eq_getD_getElem?, List.getElem?_toArray, List.getElem?_cons_zero, List.getElem?_cons_succ, Option.getD_some, List.setIfInBounds_toArray, List.set_cons_zero, List.set_cons_succ])
        | (refine wpS_read (v := ?_) rfl ?_ ?_; rotate_left; (focus (intro w' hG; obtain ⟨c0, c1, c2, c3, c4⟩ := HF.out w' (by first | exact (Grow.refl _).drew.trans hG | exact GG.out.trans hG); obtain ⟨d0, d1, d2, d3, d4⟩ := late5 HJ.out.2.2.2.2.1 (by first | exact .inr hG | exact .inl (GG.out.trans hG)); obtain ⟨e0, e1, e2, e3, e4⟩ := late5 HJ.out.2.2.2.2.2.2 (by first | exact .inr hG | exact .inl (GG.out.trans hG)); go_simp; try (with_reducible rfl))); simp only [Act.put, List.setIfInBounds_toArray, List.set_cons_zero, List.set_cons_succ])
        | (refine wpS_skip rfl ?_; simp only [Act.put, List.setIfInBounds_toArray, List.set_cons_zero, List.set_cons_succ]))
      refine wpS_call (f := ?_) (args := ?_) (by rfl) ?_ ?_
      rotate_left 2; focus (go_simp; constructor <;> with_reducible rfl)
      refine (HC2.out.1 _ GG.out).mono ?_
      rintro e w9 ⟨rfl, g9'⟩
      refine ⟨_, rfl, g9', ?_⟩
      simp only [Act.put, List.setIfInBounds_toArray, List.set_cons_zero, List.set_cons_succ]
      replace GG : Hid (Grow wr w9) := GG.out.trans g9'
      clear g9'
      repeat (first
        | (refine wpS_move rfl ?_; simp only [Act.eval, Act.put, Array.getD_eq_getD_getElem?, List.getElem?_toArray, List.getElem?_cons_zero, List.getElem?_cons_succ, Option.getD_some, List.setIfInBounds_toArray, List.set_cons_zero, List.set_cons_succ])
        | (refine wpS_assign rfl ?_; simp only [Act.eval, Act.put, Array.getD_eq_getD_getElem?, List.getElem?_toArray, List.getElem?_cons_zero, List.getElem?_cons_succ, Option.getD_some, List.setIfInBounds_toArray, List.set_cons_zero, List.set_cons_succ])
        | (refine wpS_read (v := ?_) rfl ?_ ?_; rotate_left; (focus (intro w' hG; obtain ⟨c0, c1, c2, c3, c4⟩ := HF.out w' (by first | exact (Grow.refl _).drew.trans hG | exact GG.out.trans hG); obtain ⟨d0, d1, d2, d3, d4⟩ := late5 HJ.out.2.2.2.2.1 (by first | exact .inr hG | exact .inl (GG.out.trans hG)); obtain ⟨e0, e1, e2, e3, e4⟩ := late5 HJ.out.2.2.2.2.2.2 (by first | exact .inr hG | exact .inl (GG.out.trans hG)); go_simp; try (with_reducible rfl))); simp only [Act.put, List.setIfInBounds_toArray, List.set_cons_zero, List.set_cons_succ])
        | (refine wpS_skip rfl ?_; simp only [Act.put, List.setIfInBounds_toArray, List.set_cons_zero, List.set_cons_succ]))
      refine wpS_call (f := ?_) (args := ?_) (by rfl) ?_ ?_
      rotate_left 2; focus (go_simp; constructor <;> with_reducible rfl)
      refine (HC2.out.2 _ GG.out).mono ?_
      rintro e wx ⟨rfl, gx⟩
      refine ⟨_, rfl, gx, ?_⟩
      simp only [Act.put, List.setIfInBounds_toArray, List.set_cons_zero, List.set_cons_succ]
      replace GG : Hid (Grow wr wx) := GG.out.trans gx
      clear gx
      repeat (first
        | (refine wpS_move rfl ?_; simp only [Act.eval, Act.put, Array.getD_eq_getD_getElem?, List.getElem?_toArray, List.getElem?_cons_zero, List.getElem?_cons_succ, Option.getD_some, List.setIfInBounds_toArray, List.set_cons_zero, List.set_cons_succ])
        | (refine wpS_assign rfl ?_; simp only [Act.eval, Act.put, Array.getD_eq_getD_getElem?, List.getElem?_toArray, List.getElem?_cons_zero, List.getElem?_cons_succ, Option.getD_some, List.setIfInBounds_toArray, List.set_cons_zero, List.set_cons_succ])
        | (refine wpS_read (v := ?_) rfl ?_ ?_; rotate_left; (focus (intro w' hG; obtain ⟨c0, c1, c2, c3, c4⟩ := HF.out w' (by first | exact (Grow.refl _).drew.trans hG | exact GG.out.trans hG); obtain ⟨d0, d1, d2, d3, d4⟩ := late5 HJ.out.2.2.2.2.1 (by first | exact .inr hG | exact .inl (GG.out.trans hG)); obtain ⟨e0, e1, e2, e3, e4⟩ := late5 HJ.out.2.2.2.2.2.2 (by first | exact .inr hG | exact .inl (GG.out.trans hG)); go_simp; try (with_reducible rfl))); simp only [Act.put, List.setIfInBounds_toArray, List.set_cons_zero, List.set_cons_succ])
        | (refine wpS_skip rfl ?_; simp only [Act.put, List.setIfInBounds_toArray, List.set_cons_zero, List.set_cons_succ]))
      refine wpS_nil ?_
      have HE : Hid (QsAt wx g9 L 34 ∧ VarAt wx w.heap.size [.int .i64 x.o, .int .i64 x.p, .int .i64 x.f, .int .i64 x.l, .slice a n c] ∧ Grow w wx ∧ Rd .u8 wx.heap.size wx (.slice xa zx.length xc) zx ∧ VarAt wx b7 [.int .i64 x.o, .int .i64 x.p, .int .i64 x.f, .int .i64 x.l, .slice xa zx.length xc] ∧ Rd .u8 wx.heap.size wx (.slice ya zy.length yc) zy ∧ VarAt wx b8 [.int .i64 y.o, .int .i64 y.p, .int .i64 y.f, .int .i64 y.l, .slice ya zy.length yc]) :=
        ⟨HJ.out.1.grow GG.out, HJ.out.2.1.grow GG.out, HJ.out.2.2.1.trans GG.out, RdS.growB HJ.out.2.2.2.1 GG.out, HJ.out.2.2.2.2.1.grow GG.out, RdS.growB HJ.out.2.2.2.2.2.1 GG.out, HJ.out.2.2.2.2.2.2.grow GG.out⟩
      clear HC1 HC2 HF GG HJ
      go_wp2
      go_roundg (7 - (j + 1))
      case measure => have := HK.out; omega
      case rel => exact ⟨j + 1, rfl, HK.out.1, by go_num, HE⟩
    · obtain rfl : j = 7 := by omega
      obtain ⟨⟨c0, c1, c2', c3, c4⟩, -⟩ := HJ.out.2.2.2.2.1.five
      have hcl := rclone_any wr x.o x.p x.f x.l xa zx.length xc zx _ HJ.out.2.2.2.1 (by have := HXO.out.1.2.2.2.2.2; dsimp only at this; omega)
      clear hlt hj hk
      go_wp2_with fail
      refine hcl.mono ?_
      rintro e w7 ⟨v7, rfl, ho7, g7⟩
      obtain ⟨vc, cc, rfl⟩ := ho7.shape
      have H7 : Hid (VarAt w7 w.heap.size [.int .i64 x.o, .int .i64 x.p, .int .i64 x.f, .int .i64 x.l, .slice a n c] ∧ VarAt w7 b7 [.int .i64 x.o, .int .i64 x.p, .int .i64 x.f, .int .i64 x.l, .slice xa zx.length xc] ∧ Grow w w7 ∧ Rd .u8 wr.heap.size w7 (.slice xa zx.length xc) zx ∧ OwnV (Value.int .u8) 0 (fun i => wr.heap.size ≤ i ∧ i < w7.heap.size) w7 (.slice vc zx.length cc) zx ∧ wr.heap.size ≤ w7.heap.size ∧ w.heap.size < wr.heap.size ∧ b7 < wr.heap.size) :=
        ⟨HJ.out.2.1.grow g7, HJ.out.2.2.2.2.1.grow g7, HJ.out.2.2.1.trans g7, HJ.out.2.2.2.1.below g7, OwnV.mono (Own.v ho7) (fun i h1 h2 => ⟨h2, h1⟩), g7.size, HJ.out.2.1.lt, HJ.out.2.2.2.2.1.lt⟩
      clear hcl ho7 g7 c0 c1 c2' c3 c4 HJ
      go_upto_region 10 with fail
      have ga : ∀ o1, Grow w7 (World.alloc w7 o1) := fun o1 => (Grow.refl w7).alloc o1
      refine wp_gen (fun u => VarAt u w.heap.size [.int .i64 x.o, .int .i64 x.p, .int .i64 x.f, .int .i64 x.l, .slice a n c] ∧ VarAt u b7 [.int .i64 x.o, .int .i64 x.p, .int .i64 x.f, .int .i64 x.l, .slice xa zx.length xc] ∧ Grow w u ∧ Rd .u8 wr.heap.size u (.slice xa zx.length xc) zx ∧ OwnV (Value.int .u8) 0 (fun i => wr.heap.size ≤ i ∧ i < w7.heap.size) u (.slice vc zx.length cc) zx ∧ VarAt u w7.heap.size [.int .i64 x.o, .int .i64 x.p, .int .i64 x.f, .int .i64 x.l, .slice vc zx.length cc] ∧ wr.heap.size ≤ w7.heap.size ∧ w.heap.size < wr.heap.size ∧ b7 < wr.heap.size)
        ⟨H7.out.1.grow (ga _), H7.out.2.1.grow (ga _), H7.out.2.2.1.trans (ga _), H7.out.2.2.2.1.below ((ga _).below H7.out.2.2.2.2.2.1), H7.out.2.2.2.2.1.grow (ga _), VarAt.new w7 _ _, H7.out.2.2.2.2.2⟩ ?_
      intro w8 h8
      have H8 := hid h8
      clear h8 ga H7
      generalize w7.heap.size = bc at *
      generalize wr.heap.size = Bc at *
      obtain ⟨⟨c0, c1, c2', c3, c4⟩, -⟩ := H8.out.2.1.five
      obtain ⟨⟨d0, d1, d2, d3, d4⟩, -⟩ := H8.out.2.2.2.2.2.1.five
      have hsm := rsame_any w8 x.o x.p x.f x.l x.o x.p x.f x.l vc xa zx.length zx.length cc xc zx zx _ _ (RdV.i H8.out.2.2.2.2.1.rd) H8.out.2.2.2.1 HXO.out.1.2.2.2.2.1 HXO.out.1.2.2.2.2.1
      rw [smE_self] at hsm
      go_wp2_with fail
      refine hsm.mono ?_
      rintro e w9 ⟨rfl, g9'⟩
      have H9 : Hid (VarAt w9 w.heap.size [.int .i64 x.o, .int .i64 x.p, .int .i64 x.f, .int .i64 x.l, .slice a n c] ∧ VarAt w9 b7 [.int .i64 x.o, .int .i64 x.p, .int .i64 x.f, .int .i64 x.l, .slice xa zx.length xc] ∧ Grow w w9 ∧ Rd .u8 Bc w9 (.slice xa zx.length xc) zx ∧ OwnV (Value.int .u8) 0 (fun i => Bc ≤ i ∧ i < bc) w9 (.slice vc zx.length cc) zx ∧ VarAt w9 bc [.int .i64 x.o, .int .i64 x.p, .int .i64 x.f, .int .i64 x.l, .slice vc zx.length cc] ∧ Bc ≤ bc ∧ w.heap.size < Bc ∧ b7 < Bc) :=
        ⟨H8.out.1.grow g9', H8.out.2.1.grow g9', H8.out.2.2.1.trans g9', H8.out.2.2.2.1.below (g9'.below (by have := H8.out.2.2.2.2.2.1.lt; have := H8.out.2.2.2.2.2.2; omega)), H8.out.2.2.2.2.1.grow g9', H8.out.2.2.2.2.2.1.grow g9', H8.out.2.2.2.2.2.2⟩
      clear hsm g9' H8 c0 c1 c2' c3 c4 d0 d1 d2 d3 d4
      go_wp2
      go_loopg [12] zx.length (fun k i wr => ∃ (j : Nat) (zs : List Int), k = zx.length - j ∧ j ≤ zx.length ∧ i = .int .i64 j ∧ Hid (zs.length = zx.length ∧ VarAt wr w.heap.size [.int .i64 x.o, .int .i64 x.p, .int .i64 x.f, .int .i64 x.l, .slice a n c] ∧ VarAt wr b7 [.int .i64 x.o, .int .i64 x.p, .int .i64 x.f, .int .i64 x.l, .slice xa zx.length xc] ∧ Grow w wr ∧ Rd .u8 Bc wr (.slice xa zx.length xc) zx ∧ OwnV (Value.int .u8) 0 (fun i => Bc ≤ i ∧ i < bc) wr (.slice vc zx.length cc) zs ∧ VarAt wr bc [.int .i64 x.o, .int .i64 x.p, .int .i64 x.f, .int .i64 x.l, .slice vc zx.length cc] ∧ Bc ≤ bc ∧ w.heap.size < Bc ∧ b7 < Bc))
      case atStart => exact ⟨0, zx, rfl, Nat.zero_le _, rfl, rfl, H9.out⟩
      case round =>
        obtain ⟨j, zs, hk, hj, rfl, HJ⟩ := hrel
        clear H9
        obtain ⟨⟨d0, d1, d2, d3, d4⟩, -⟩ := HJ.out.2.2.2.2.2.2.1.five
        by_cases hlt : j < zx.length
        · have hlt' : (j : Int) < (zx.length : Int) := by omega
          have h34i : (zx.length : Int) ≤ 34 := by have h34 : zx.length ≤ 34 := HXO.out.1.2.2.2.2.2; omega
          obtain ⟨gg, oo, c', hv, hpg, hgl, hcl, hcm, hcell, hfro, hset⟩ := HJ.out.2.2.2.2.2.1.row (j := j) (by have := HJ.out.1; omega)
          injection hv with e1 e2 e3
          subst e1
          have HS := hid hset
          have HK : Hid (j < zx.length ∧ gk = zx.length - j ∧ Bc ≤ gg ∧ gg < bc) := ⟨hlt, hk, hpg.1, hpg.2⟩
          generalize zs.getD j 0 = y0 at hcell
          have HJ2 : Hid (VarAt wr.drew w.heap.size [.int .i64 x.o, .int .i64 x.p, .int .i64 x.f, .int .i64 x.l, .slice a n c] ∧ VarAt wr.drew b7 [.int .i64 x.o, .int .i64 x.p, .int .i64 x.f, .int .i64 x.l, .slice xa zx.length xc] ∧ Grow w wr.drew ∧ Rd .u8 Bc wr.drew (.slice xa zx.length xc) zx ∧ VarAt wr.drew bc [.int .i64 x.o, .int .i64 x.p, .int .i64 x.f, .int .i64 x.l, .slice (some ⟨gg, oo, none⟩) zx.length cc] ∧ (zs.length = zx.length ∧ Bc ≤ bc ∧ w.heap.size < Bc ∧ b7 < Bc)) :=
            ⟨HJ.out.2.1.grow (Grow.refl _).drew, HJ.out.2.2.1.grow (Grow.refl _).drew, HJ.out.2.2.2.1.trans (Grow.refl _).drew, HJ.out.2.2.2.2.1.below ((Below.refl _ _).drew), HJ.out.2.2.2.2.2.2.1.grow (Grow.refl _).drew, HJ.out.1, HJ.out.2.2.2.2.2.2.2⟩
          have fx : ∀ w', Grow wr.drew w' → w'.cell? ⟨bc, 4, none⟩ = some (.slice (some ⟨gg, oo, none⟩) zx.length cc) ∧ w'.cell? ⟨gg, oo + j, none⟩ = some (.int .u8 y0) := fun w' hg =>
            ⟨(HJ2.out.2.2.2.2.1.grow hg).five.1.2.2.2.2, by
              have gw := (Grow.refl wr).drew.trans hg
              rw [Below.cell (p := ⟨gg, oo + j, none⟩) gw (World.block_lt_of_cell? _ _ hcell)]; exact hcell⟩
          have hfd : wr.drew.frozen? ⟨gg, oo + j, none⟩ = false := hfro
          have HS2 : Hid (∀ y, OwnV (Value.int .u8) 0 (fun i => Bc ≤ i ∧ i < bc) (wr.drew.setCell ⟨gg, oo + j, none⟩ (.int .u8 y)) (.slice (some ⟨gg, oo, none⟩) zx.length cc) (zs.set j y)) := hset
          clear hk hlt e2 e3 hpg hgl hcl hcm hcell hfro hset HS HJ
          go_wp2
          clear d0 d1 d2 d3 d4
          refine wp_region_last 11 (by kernel_rfl) [(0, false), (1, false), (2, false), (3, false), (4, false), (5, false), (6, false), (7, false), (8, false), (9, false), (10, false)] (by kernel_rfl) (by kernel_rfl) rfl (fun _ _ d _ _ h => by cases d <;> exact h) ?_
          simp only [inOrder, List.filterMap_cons, List.filterMap_nil, List.getElem?_toArray, List.getElem?_cons_zero, List.getElem?_cons_succ, Option.map_some]
          repeat (first
            | (refine wpS_move rfl ?_; simp only [Act.eval, Act.put, Array.getD_eq_getD_getElem?, List.getElem?_toArray, List.getElem?_cons_zero, List.getElem?_cons_succ, Option.getD_some, List.setIfInBounds_toArray, List.set_cons_zero, List.set_cons_succ])
            | (refine wpS_assign rfl ?_; simp only [Act.eval, Act.put, Array.getD_eq_getD_getElem?, List.getElem?_toArray, List.getElem?_cons_zero, List.getElem?_cons_succ, Option.getD_some, List.setIfInBounds_toArray, List.set_cons_zero, List.set_cons_succ])
            | (refine wpS_read (v := ?_) rfl ?_ ?_; rotate_left; (focus (intro w' hG; obtain ⟨q0, q1⟩ := fx w' hG; go_simp; try (with_reducible rfl))); simp only [Act.put, List.setIfInBounds_toArray, List.set_cons_zero, List.set_cons_succ])
            | (refine wpS_skip rfl ?_; simp only [Act.put, List.setIfInBounds_toArray, List.set_cons_zero, List.set_cons_succ]))
          refine wpS_nil ?_
          obtain ⟨q0, q1⟩ := fx wr.drew (Grow.refl _)
          refine last_store (w' := wr.drew.setCell ⟨gg, oo + j, none⟩ (.int .u8 (bits .xor .u8 y0 yb))) rfl rfl (by go_simp) ?_
          simp only [Act.put, List.setIfInBounds_toArray, List.set_cons_zero, List.set_cons_succ]
          have hO := HS2.out (bits .xor .u8 y0 yb)
          generalize bits .xor .u8 y0 yb = y1 at *
          have hu := upd_one wr.drew gg (oo + j) (.int .u8 y1)
          have HE : Hid ((zs.set j y1).length = zx.length ∧ VarAt (wr.drew.setCell ⟨gg, oo + j, none⟩ (.int .u8 y1)) w.heap.size [.int .i64 x.o, .int .i64 x.p, .int .i64 x.f, .int .i64 x.l, .slice a n c] ∧ VarAt (wr.drew.setCell ⟨gg, oo + j, none⟩ (.int .u8 y1)) b7 [.int .i64 x.o, .int .i64 x.p, .int .i64 x.f, .int .i64 x.l, .slice xa zx.length xc] ∧ Grow w (wr.drew.setCell ⟨gg, oo + j, none⟩ (.int .u8 y1)) ∧ Rd .u8 Bc (wr.drew.setCell ⟨gg, oo + j, none⟩ (.int .u8 y1)) (.slice xa zx.length xc) zx ∧ OwnV (Value.int .u8) 0 (fun i => Bc ≤ i ∧ i < bc) (wr.drew.setCell ⟨gg, oo + j, none⟩ (.int .u8 y1)) (.slice (some ⟨gg, oo, none⟩) zx.length cc) (zs.set j y1) ∧ VarAt (wr.drew.setCell ⟨gg, oo + j, none⟩ (.int .u8 y1)) bc [.int .i64 x.o, .int .i64 x.p, .int .i64 x.f, .int .i64 x.l, .slice (some ⟨gg, oo, none⟩) zx.length cc] ∧ Bc ≤ bc ∧ w.heap.size < Bc ∧ b7 < Bc) := by
            obtain ⟨k1, k2, k3, k4⟩ := HK.out
            obtain ⟨m1, m2, m3, m4, m5, m6, m7, m8, m9⟩ := HJ2.out
            exact ⟨by rw [List.length_set]; exact m6, m1.upd hu (by omega), m2.upd hu (by omega), UpdS.new m3 hu (fun i hi => by omega), m4.below (hu.below (by have := m5.lt; omega) (fun i hi => by omega)), hO, m5.upd hu (by omega), m7, m8, m9⟩
          generalize wr.drew.setCell ⟨gg, oo + j, none⟩ (.int .u8 y1) = wd at *
          clear hO hu HS2 HJ2 fx q0 q1 hfd
          go_wp2
          go_roundg (zx.length - (j + 1))
          case measure => have := HK.out; omega
          case rel => exact ⟨j + 1, zs.set j y1, rfl, HK.out.1, by go_num, HE⟩
        · obtain rfl : zx.length = j := by omega
          have H9 : Hid (VarAt wr w.heap.size [.int .i64 x.o, .int .i64 x.p, .int .i64 x.f, .int .i64 x.l, .slice a n c] ∧ VarAt wr b7 [.int .i64 x.o, .int .i64 x.p, .int .i64 x.f, .int .i64 x.l, .slice xa zx.length xc] ∧ Grow w wr ∧ Rd .u8 Bc wr (.slice xa zx.length xc) zx) := ⟨HJ.out.2.1, HJ.out.2.2.1, HJ.out.2.2.2.1, HJ.out.2.2.2.2.1⟩
          clear hlt hj hk HJ
          go_wp2
          refine wp_region_sched (by kernel_rfl) [(0, false), (1, false), (2, true), (3, true), (4, false), (5, true), (6, false), (7, false)] (by kernel_rfl) (by kernel_rfl) rfl (fun _ _ d _ _ h => by cases d <;> exact h) ?_
          simp only [inOrder, List.filterMap_cons, List.filterMap_nil, List.getElem?_toArray, List.getElem?_cons_zero, List.getElem?_cons_succ, Option.map_some]
          repeat (first
            | (refine wpS_move rfl ?_; simp only [Act.eval, Act.put, Array.getD_eq_getD_getElem?, List.getElem?_toArray, List.getElem?_cons_zero, List.getElem?_cons_succ, Option.getD_some, List.setIfInBounds_toArray, List.set_cons_zero, List.set_cons_succ])
            | (refine wpS_assign rfl ?_; simp only [Act.eval, Act.put, Array.getD_eq_getD_getElem?, List.getElem?_toArray, List.getElem?_cons_zero, List.getElem?_cons_succ, Option.getD_some, List.setIfInBounds_toArray, List.set_cons_zero, List.set_cons_succ])
            | (refine wpS_read (v := ?_) rfl ?_ ?_; rotate_left; (focus (intro w' hG; obtain ⟨c0, c1, c2', c3, c4⟩ := late5 H9.out.2.1 (.inr hG); obtain ⟨e0, e1, e2, e3, e4⟩ := late5 H9.out.1 (.inr hG); go_simp; try (with_reducible rfl))); simp only [Act.put, List.setIfInBounds_toArray, List.set_cons_zero, List.set_cons_succ])
            | (refine wpS_skip rfl ?_; simp only [Act.put, List.setIfInBounds_toArray, List.set_cons_zero, List.set_cons_succ]))
          have gd : Grow wr wr.drew := (Grow.refl _).drew
          refine wpS_call (f := ?_) (args := ?_) (by rfl) ?_ ?_
          rotate_left 2; focus (go_simp; constructor <;> with_reducible rfl)
          refine (HFX.out _ (H9.out.2.2.1.trans gd)).mono ?_
          rintro e wb ⟨vb, rfl, hob, gb⟩
          refine ⟨_, rfl, gb, ?_⟩
          simp only [Act.put, List.setIfInBounds_toArray, List.set_cons_zero, List.set_cons_succ]
          obtain ⟨ab, cb, rfl⟩ := hob.shape
          have g2 : Grow wr wb := gd.trans gb
          have hsm := rsame_any wb x.o x.p x.f x.l x.o x.p x.f x.l xa ab zx.length zx.length xc cb zx zx _ _ ((Rd.size H9.out.2.2.2).below g2) hob.rd HXO.out.1.2.2.2.2.1 HXO.out.1.2.2.2.2.1
          rw [smE_self] at hsm
          refine wpS_call (f := ?_) (args := ?_) (by rfl) ?_ ?_
          rotate_left 2; focus (go_simp; constructor <;> with_reducible rfl)
          refine (hsm).mono ?_
          rintro e wc ⟨rfl, gc⟩
          refine ⟨_, rfl, gc, ?_⟩
          simp only [Act.put, List.setIfInBounds_toArray, List.set_cons_zero, List.set_cons_succ]
          have G3 : Hid (Grow w wc) := (H9.out.2.2.1.trans g2).trans gc
          clear hob gb g2 gd gc hsm
          repeat (first
            | (refine wpS_move rfl ?_; simp only [Act.eval, Act.put, Array.getD_eq_getD_getElem?, List.getElem?_toArray, List.getElem?_cons_zero, List.getElem?_cons_succ, Option.getD_some, List.setIfInBounds_toArray, List.set_cons_zero, List.set_cons_succ])
            | (refine wpS_assign rfl ?_; simp only [Act.eval, Act.put, Array.getD_eq_getD_getElem?, List.getElem?_toArray, List.getElem?_cons_zero, List.getElem?_cons_succ, Option.getD_some, List.setIfInBounds_toArray, List.set_cons_zero, List.set_cons_succ])
            | (refine wpS_read (v := ?_) rfl ?_ ?_; rotate_left; (focus (intro w' hG; go_simp; try (with_reducible rfl))); simp only [Act.put, List.setIfInBounds_toArray, List.set_cons_zero, List.set_cons_succ])
            | (refine wpS_skip rfl ?_; simp only [Act.put, List.setIfInBounds_toArray, List.set_cons_zero, List.set_cons_succ]))
          refine wpS_call (f := ?_) (args := ?_) (by rfl) ?_ ?_
          rotate_left 2; focus (go_simp; constructor <;> with_reducible rfl)
          refine (HLV.out _ (HWT.out.grow G3.out)).mono ?_
          rintro e wf ⟨rfl, gf⟩
          refine ⟨_, rfl, gf, ?_⟩
          simp only [Act.put, List.setIfInBounds_toArray, List.set_cons_zero, List.set_cons_succ]
          repeat (first
            | (refine wpS_move rfl ?_; simp only [Act.eval, Act.put, Array.getD_eq_getD_getElem?, List.getElem?_toArray, List.getElem?_cons_zero, List.getElem?_cons_succ, Option.getD_some, List.setIfInBounds_toArray, List.set_cons_zero, List.set_cons_succ])
            | (refine wpS_assign rfl ?_; simp only [Act.eval, Act.put, Array.getD_eq_getD_getElem?, List.getElem?_toArray, List.getElem?_cons_zero, List.getElem?_cons_succ, Option.getD_some, List.setIfInBounds_toArray, List.set_cons_zero, List.set_cons_succ])
            | (refine wpS_read (v := ?_) rfl ?_ ?_; rotate_left; (focus (intro w' hG; go_simp; try (with_reducible rfl))); simp only [Act.put, List.setIfInBounds_toArray, List.set_cons_zero, List.set_cons_succ])
            | (refine wpS_skip rfl ?_; simp only [Act.put, List.setIfInBounds_toArray, List.set_cons_zero, List.set_cons_succ]))
          refine wpS_nil ?_
          go_wp2
          go_ret
          exact ⟨rfl, G3.out.trans gf⟩
end Go.Proofs.YtdafamocnjfmjaaDoor
