/-
  The walk of the law SuperSame. Conditions: the theorem's own.
-/
import Derived.Test.YtlcphhlimcnnaaaSupGood
import Derived.Test.YtlcphhlimcnnaaaSupAll
namespace Go.Proofs.Ytlcphhlimcnnaaa
open Go.RowKit
set_option linter.unusedVariables false
set_option linter.unusedSimpArgs false

set_option maxHeartbeats 8000000 in
theorem superSame_walk {p p2 : Nat → Prop} (ea eb f1 d1 s1 : Int) (v1 : Value) (ps : List Pt) (f2 d2 s2 : Int) (v2 : Value) (qs : List Pt) (w : World) (h : RdP p w v1 ps) (hok : ∀ x ∈ ps, x.Ok) (hea : (Lit.int .i64 ea).wf = true) (heb : (Lit.int .i64 eb).wf = true) (hd1 : W64 d1) (hs1 : W64 s1)
    (h' : RdP p2 w v2 qs) (hok' : ∀ x ∈ qs, x.Ok) (hd2 : W64 d2) (hs2 : W64 s2) :
    Calls Try.prog 6 #[.int .i64 ea, .int .i64 eb, .agg #[.int .i64 f1, .int .i64 d1, .int .i64 s1, v1], .agg #[.int .i64 f2, .int .i64 d2, .int .i64 s2, v2]] w fun e w' => e = .returned (.bool true) ∧ Below w.heap.size w w' := by
  have HI : Hid (VarAt ((w.alloc (.cells #[.int .i64 f1, .int .i64 d1, .int .i64 s1, v1] 24)).alloc (.cells #[.int .i64 f2, .int .i64 d2, .int .i64 s2, v2] 24)) w.heap.size [.int .i64 f1, .int .i64 d1, .int .i64 s1, v1] ∧ VarAt ((w.alloc (.cells #[.int .i64 f1, .int .i64 d1, .int .i64 s1, v1] 24)).alloc (.cells #[.int .i64 f2, .int .i64 d2, .int .i64 s2, v2] 24)) (w.heap.size + 1) [.int .i64 f2, .int .i64 d2, .int .i64 s2, v2] ∧ Grow w ((w.alloc (.cells #[.int .i64 f1, .int .i64 d1, .int .i64 s1, v1] 24)).alloc (.cells #[.int .i64 f2, .int .i64 d2, .int .i64 s2, v2] 24))) := two_boxes
  have hga := fun w' (g : Grow w w') => qgood_any ea f1 d1 s1 v1 ps w' (RdS.grow h g) hok hea hd1 hs1
  have hgb := fun w' (g : Grow w w') => qgood_any eb f2 d2 s2 v2 qs w' (RdS.grow h' g) hok' heb hd2 hs2
  obtain ⟨a1, cp1, rfl, h1, h2, -⟩ := h
  obtain ⟨a2, cp2, rfl, h12, h22, -⟩ := h'
  clear hok hd1 hs1 hok' hd2 hs2 h1 h2 h12 h22 hea heb
  go_enter Try.func6, Try.ntmps6
  go_wp2_with fail
  obtain ⟨b7, hb7⟩ : ∃ b7, b7 = w.heap.size + 1 := ⟨_, rfl⟩
  rw [← hb7] at HI ⊢
  clear hb7
  generalize ((w.alloc (.cells #[.int .i64 f1, .int .i64 d1, .int .i64 s1, .slice a1 ps.length cp1] 24)).alloc (.cells #[.int .i64 f2, .int .i64 d2, .int .i64 s2, .slice a2 qs.length cp2] 24)) = w1 at HI ⊢
  generalize w.heap.size = b6 at HI ⊢
  refine (hga _ HI.out.2.2).mono ?_
  rintro e w2 ⟨e0, f0, d0, s0, v0, q0, rfl, E0, G0, R0, g2⟩
  have HR0 : Hid (HasQ w2 ⟨e0, f0, d0, s0, v0⟩ q0) := hasQ_of R0
  obtain ⟨a0, c0, rfl⟩ := R0.shape
  have X1 : Hid (VarAt (w2.alloc (.cells #[.int .i64 e0, .int .i64 f0, .int .i64 d0, .int .i64 s0, .slice a0 q0.length c0] 26)) b7 [.int .i64 f2, .int .i64 d2, .int .i64 s2, .slice a2 qs.length cp2] ∧ VarAt (w2.alloc (.cells #[.int .i64 e0, .int .i64 f0, .int .i64 d0, .int .i64 s0, .slice a0 q0.length c0] 26)) w2.heap.size [.int .i64 e0, .int .i64 f0, .int .i64 d0, .int .i64 s0, .slice a0 q0.length c0] ∧ HasQ (w2.alloc (.cells #[.int .i64 e0, .int .i64 f0, .int .i64 d0, .int .i64 s0, .slice a0 q0.length c0] 26)) ⟨e0, f0, d0, s0, .slice a0 q0.length c0⟩ q0 ∧ Grow w (w2.alloc (.cells #[.int .i64 e0, .int .i64 f0, .int .i64 d0, .int .i64 s0, .slice a0 q0.length c0] 26))) :=
    ⟨(HI.out.2.1.grow g2).old _, VarAt.new w2 [.int .i64 e0, .int .i64 f0, .int .i64 d0, .int .i64 s0, .slice a0 q0.length c0] _, HR0.out.grow ((Grow.refl _).alloc _), (HI.out.2.2.trans g2).alloc _⟩
  clear E0 G0 R0 g2 HI hga HR0
  obtain ⟨⟨n0, n1, n2, n3⟩, -⟩ := X1.out.1.four
  go_wp2_with fail
  clear n0 n1 n2 n3
  generalize (w2.alloc (.cells #[.int .i64 e0, .int .i64 f0, .int .i64 d0, .int .i64 s0, .slice a0 q0.length c0] 26)) = w3 at X1 ⊢
  generalize w2.heap.size = b9 at X1 ⊢
  refine (hgb _ X1.out.2.2.2).mono ?_
  rintro e w4 ⟨e3, f3, d3, s3, v3, q3, rfl, E3, G3, R3, g4⟩
  have HR3 : Hid (HasQ w4 ⟨e3, f3, d3, s3, v3⟩ q3) := hasQ_of R3
  obtain ⟨a3, c3, rfl⟩ := R3.shape
  have X2 : Hid (VarAt (w4.alloc (.cells #[.int .i64 e3, .int .i64 f3, .int .i64 d3, .int .i64 s3, .slice a3 q3.length c3] 26)) b9 [.int .i64 e0, .int .i64 f0, .int .i64 d0, .int .i64 s0, .slice a0 q0.length c0] ∧ VarAt (w4.alloc (.cells #[.int .i64 e3, .int .i64 f3, .int .i64 d3, .int .i64 s3, .slice a3 q3.length c3] 26)) w4.heap.size [.int .i64 e3, .int .i64 f3, .int .i64 d3, .int .i64 s3, .slice a3 q3.length c3] ∧ HasQ (w4.alloc (.cells #[.int .i64 e3, .int .i64 f3, .int .i64 d3, .int .i64 s3, .slice a3 q3.length c3] 26)) ⟨e0, f0, d0, s0, .slice a0 q0.length c0⟩ q0 ∧ HasQ (w4.alloc (.cells #[.int .i64 e3, .int .i64 f3, .int .i64 d3, .int .i64 s3, .slice a3 q3.length c3] 26)) ⟨e3, f3, d3, s3, .slice a3 q3.length c3⟩ q3 ∧ Grow w (w4.alloc (.cells #[.int .i64 e3, .int .i64 f3, .int .i64 d3, .int .i64 s3, .slice a3 q3.length c3] 26))) :=
    ⟨X1.out.2.1.grow (g4.alloc _), VarAt.new w4 [.int .i64 e3, .int .i64 f3, .int .i64 d3, .int .i64 s3, .slice a3 q3.length c3] _, X1.out.2.2.1.grow (g4.alloc _), HR3.out.grow ((Grow.refl _).alloc _), (X1.out.2.2.2.trans g4).alloc _⟩
  clear E3 G3 R3 g4 X1 hgb HR3
  have X3 : Hid (VarAt ((w4.alloc (.cells #[.int .i64 e3, .int .i64 f3, .int .i64 d3, .int .i64 s3, .slice a3 q3.length c3] 26)).alloc (.cells #[.int .i64 e0, .int .i64 f3, .int .i64 d3, .int .i64 s3, .slice a3 q3.length c3] 26)) b9 [.int .i64 e0, .int .i64 f0, .int .i64 d0, .int .i64 s0, .slice a0 q0.length c0]) := X2.out.1.old _
  have hall := rdQ_new3 ((w4.alloc (.cells #[.int .i64 e3, .int .i64 f3, .int .i64 d3, .int .i64 s3, .slice a3 q3.length c3] 26)).alloc (.cells #[.int .i64 e0, .int .i64 f3, .int .i64 d3, .int .i64 s3, .slice a3 q3.length c3] 26)) (e0 := e0) (f0 := f0) (d0 := d0) (s0 := s0) (a0 := a0) (n0 := q0.length) (c0 := c0) (e1 := e3) (f1 := f3) (d1 := d3) (s1 := s3) (a1 := a3) (n1 := q3.length) (c1 := c3) (e2 := e0) (f2 := f3) (d2 := d3) (s2 := s3) (a2 := a3) (n2 := q3.length) (c2 := c3)
  have hsz : ((w4.alloc (.cells #[.int .i64 e3, .int .i64 f3, .int .i64 d3, .int .i64 s3, .slice a3 q3.length c3] 26)).alloc (.cells #[.int .i64 e0, .int .i64 f3, .int .i64 d3, .int .i64 s3, .slice a3 q3.length c3] 26)).heap.size = w4.heap.size + 1 + 1 := by rw [World.size_alloc, World.size_alloc]
  rw [hsz] at hall
  have HA : Hid (RdQ (fun _ => True) (((w4.alloc (.cells #[.int .i64 e3, .int .i64 f3, .int .i64 d3, .int .i64 s3, .slice a3 q3.length c3] 26)).alloc (.cells #[.int .i64 e0, .int .i64 f3, .int .i64 d3, .int .i64 s3, .slice a3 q3.length c3] 26)).alloc (.cells #[.int .i64 e0, .int .i64 f0, .int .i64 d0, .int .i64 s0, .slice a0 q0.length c0, .int .i64 e3, .int .i64 f3, .int .i64 d3, .int .i64 s3, .slice a3 q3.length c3, .int .i64 e0, .int .i64 f3, .int .i64 d3, .int .i64 s3, .slice a3 q3.length c3] 26)) (.slice (some ⟨w4.heap.size + 1 + 1, 0, none⟩) 3 3) [(⟨e0, f0, d0, s0, .slice a0 q0.length c0⟩ : Sg), ⟨e3, f3, d3, s3, .slice a3 q3.length c3⟩, ⟨e0, f3, d3, s3, .slice a3 q3.length c3⟩] ∧ (∀ c ∈ [(⟨e0, f0, d0, s0, .slice a0 q0.length c0⟩ : Sg), ⟨e3, f3, d3, s3, .slice a3 q3.length c3⟩, ⟨e0, f3, d3, s3, .slice a3 q3.length c3⟩], ∃ q, HasQ (((w4.alloc (.cells #[.int .i64 e3, .int .i64 f3, .int .i64 d3, .int .i64 s3, .slice a3 q3.length c3] 26)).alloc (.cells #[.int .i64 e0, .int .i64 f3, .int .i64 d3, .int .i64 s3, .slice a3 q3.length c3] 26)).alloc (.cells #[.int .i64 e0, .int .i64 f0, .int .i64 d0, .int .i64 s0, .slice a0 q0.length c0, .int .i64 e3, .int .i64 f3, .int .i64 d3, .int .i64 s3, .slice a3 q3.length c3, .int .i64 e0, .int .i64 f3, .int .i64 d3, .int .i64 s3, .slice a3 q3.length c3] 26)) c q) ∧ Grow w (((w4.alloc (.cells #[.int .i64 e3, .int .i64 f3, .int .i64 d3, .int .i64 s3, .slice a3 q3.length c3] 26)).alloc (.cells #[.int .i64 e0, .int .i64 f3, .int .i64 d3, .int .i64 s3, .slice a3 q3.length c3] 26)).alloc (.cells #[.int .i64 e0, .int .i64 f0, .int .i64 d0, .int .i64 s0, .slice a0 q0.length c0, .int .i64 e3, .int .i64 f3, .int .i64 d3, .int .i64 s3, .slice a3 q3.length c3, .int .i64 e0, .int .i64 f3, .int .i64 d3, .int .i64 s3, .slice a3 q3.length c3] 26))) := by
    have gg : Grow (w4.alloc (.cells #[.int .i64 e3, .int .i64 f3, .int .i64 d3, .int .i64 s3, .slice a3 q3.length c3] 26)) (((w4.alloc (.cells #[.int .i64 e3, .int .i64 f3, .int .i64 d3, .int .i64 s3, .slice a3 q3.length c3] 26)).alloc (.cells #[.int .i64 e0, .int .i64 f3, .int .i64 d3, .int .i64 s3, .slice a3 q3.length c3] 26)).alloc (.cells #[.int .i64 e0, .int .i64 f0, .int .i64 d0, .int .i64 s0, .slice a0 q0.length c0, .int .i64 e3, .int .i64 f3, .int .i64 d3, .int .i64 s3, .slice a3 q3.length c3, .int .i64 e0, .int .i64 f3, .int .i64 d3, .int .i64 s3, .slice a3 q3.length c3] 26)) := ((Grow.refl _).alloc _).alloc _
    refine ⟨RdS.mono hall (fun _ _ _ => trivial), fun c hc => ?_, X2.out.2.2.2.2.trans gg⟩
    simp only [List.mem_cons, List.not_mem_nil, or_false] at hc
    rcases hc with rfl | rfl | rfl
    · exact ⟨q0, X2.out.2.2.1.grow gg⟩
    · exact ⟨q3, X2.out.2.2.2.1.grow gg⟩
    · exact ⟨q3, X2.out.2.2.2.1.grow gg⟩
  obtain ⟨⟨m0, m1, m2, m3, m4⟩, -⟩ := X2.out.1.five
  obtain ⟨⟨n0, n1, n2, n3, n4⟩, -⟩ := X3.out.five
  clear hall hsz
  go_wp2
  clear m0 m1 m2 m3 m4 n0 n1 n2 n3 n4 X2 X3
  generalize (((w4.alloc (.cells #[.int .i64 e3, .int .i64 f3, .int .i64 d3, .int .i64 s3, .slice a3 q3.length c3] 26)).alloc (.cells #[.int .i64 e0, .int .i64 f3, .int .i64 d3, .int .i64 s3, .slice a3 q3.length c3] 26)).alloc (.cells #[.int .i64 e0, .int .i64 f0, .int .i64 d0, .int .i64 s0, .slice a0 q0.length c0, .int .i64 e3, .int .i64 f3, .int .i64 d3, .int .i64 s3, .slice a3 q3.length c3, .int .i64 e0, .int .i64 f3, .int .i64 d3, .int .i64 s3, .slice a3 q3.length c3] 26)) = w8 at HA ⊢
  generalize hgs : [(⟨e0, f0, d0, s0, .slice a0 q0.length c0⟩ : Sg), ⟨e3, f3, d3, s3, .slice a3 q3.length c3⟩, ⟨e0, f3, d3, s3, .slice a3 q3.length c3⟩] = gs at HA
  have HLn : Hid (gs.length = 3) := by rw [← hgs]; exact rfl
  clear hgs
  obtain ⟨b8, hb8⟩ : ∃ b8, b8 = w4.heap.size + 1 + 1 := ⟨_, rfl⟩
  rw [← hb8] at HA ⊢
  clear hb8
  have OG : Hid (∀ u u', (RdQ (fun _ => True) u (.slice (some ⟨b8, 0, none⟩) 3 3) gs ∧ (∀ c ∈ gs, ∃ q, HasQ u c q) ∧ Grow w u) → Grow u u' → RdQ (fun _ => True) u' (.slice (some ⟨b8, 0, none⟩) 3 3) gs ∧ (∀ c ∈ gs, ∃ q, HasQ u' c q) ∧ Grow w u') := fun u u' o g =>
    ⟨RdS.grow o.1 g, fun c hc => by obtain ⟨q, hq⟩ := o.2.1 c hc; exact ⟨q, hq.grow g⟩, o.2.2.trans g⟩
  go_loopg [13] 3 (fun m iv u => ∃ i : Nat, m = 3 - i ∧ i ≤ 3 ∧ iv = .int .i64 i ∧ Hid (RdQ (fun _ => True) u (.slice (some ⟨b8, 0, none⟩) 3 3) gs ∧ (∀ c ∈ gs, ∃ q, HasQ u c q) ∧ Grow w u))
  case atStart => exact ⟨0, by omega, by omega, rfl, HA⟩
  case round =>
    clear HA
    obtain ⟨i, hk, hi4, rfl, O⟩ := hrel
    by_cases hlt : i < 3
    · have hle : (i : Int) < 3 := by omega
      have HL : Hid (i < 3 ∧ gk = 3 - i) := ⟨hlt, hk⟩
      have hw1 : IntKind.i64.wrap ((i : Int) + 1) = (i : Int) + 1 := by rw [IntKind.wrap_i64]; omega
      clear hk hi4 hlt
      go_wp2
      go_loopg [14] 3 (fun m kv u => ∃ k : Nat, m = 3 - k ∧ k ≤ 3 ∧ kv = .int .i64 k ∧ Hid (RdQ (fun _ => True) u (.slice (some ⟨b8, 0, none⟩) 3 3) gs ∧ (∀ c ∈ gs, ∃ q, HasQ u c q) ∧ Grow w u))
      case atStart => exact ⟨0, by omega, by omega, rfl, O⟩
      case round =>
        clear O
        obtain ⟨k, hk, hk4, rfl, O⟩ := hrel
        by_cases hlt : k < 3
        · have hle2 : (k : Int) < 3 := by omega
          have HK : Hid (k < 3 ∧ gk = 3 - k) := ⟨hlt, hk⟩
          have hw2 : IntKind.i64.wrap ((k : Int) + 1) = (k : Int) + 1 := by rw [IntKind.wrap_i64]; omega
          have hi4 : i < 3 := HL.out.1
          have hxg : i < gs.length := by have := HLn.out; omega
          obtain ⟨bbx, oox, halx, _, _, hinx⟩ := rdQ_at O.out.1 hxg
          injection halx with halx
          injection halx with e1x e2x
          subst e1x e2x
          rw [Nat.zero_add] at hinx
          obtain ⟨qx, hqx⟩ := O.out.2.1 _ (getQ_mem hxg)
          generalize gs.getD i Sg.zero = cx at hinx hqx
          obtain ⟨xe, xf, xd, xs, xv⟩ := cx
          have HVx : Hid (HasQ wr ⟨xe, xf, xd, xs, xv⟩ qx) := hqx
          obtain ⟨xa, xc, hcvx⟩ := RdS.shape hqx
          have hcwx : xv = .slice xa qx.length xc := hcvx
          subst hcwx
          have HNx : Hid (QIn wr b8 (i * 5) ⟨xe, xf, xd, xs, .slice xa qx.length xc⟩) := hinx
          clear hinx hqx hcvx hxg
          have hyg : k < gs.length := by have := HLn.out; omega
          obtain ⟨bby, ooy, haly, _, _, hiny⟩ := rdQ_at O.out.1 hyg
          injection haly with haly
          injection haly with e1y e2y
          subst e1y e2y
          rw [Nat.zero_add] at hiny
          obtain ⟨qy, hqy⟩ := O.out.2.1 _ (getQ_mem hyg)
          generalize gs.getD k Sg.zero = cy at hiny hqy
          obtain ⟨ye, yf, yd, ys, yv⟩ := cy
          have HVy : Hid (HasQ wr ⟨ye, yf, yd, ys, yv⟩ qy) := hqy
          obtain ⟨ya, yc, hcvy⟩ := RdS.shape hqy
          have hcwy : yv = .slice ya qy.length yc := hcvy
          subst hcwy
          have HNy : Hid (QIn wr b8 (k * 5) ⟨ye, yf, yd, ys, .slice ya qy.length yc⟩) := hiny
          clear hiny hqy hcvy hyg
          clear hk hk4 hlt hi4
          have hs1 := fun w' (g : Grow wr w') => ssame_any xe xf xd xs _ qx ye yf yd ys _ qy w' (HVx.out.grow g) (HVy.out.grow g)
          have hs2 := fun w' (g : Grow wr w') => qsame_any xe xf xd xs _ qx ye yf yd ys _ qy w' (HVx.out.grow g) (HVy.out.grow g)
          generalize sameS xe xf xd xs qx ye yf yd ys qy = B at hs1 hs2
          simp only at hs1 hs2
          go_wp2
          have kx : ∀ w', Grow wr.drew w' → QIn w' b8 (i * 5) ⟨xe, xf, xd, xs, .slice xa qx.length xc⟩ ∧ QIn w' b8 (k * 5) ⟨ye, yf, yd, ys, .slice ya qy.length yc⟩ := fun w' h => ⟨HNx.out.up ((Grow.refl wr).drew.trans h), HNy.out.up ((Grow.refl wr).drew.trans h)⟩
          simp only [QIn] at kx
          refine wp_region_sched (by kernel_rfl) [(0, false), (1, false), (2, false), (3, false), (5, false), (6, false), (7, false), (8, false), (11, false), (12, false), (13, false), (14, false), (15, false), (16, false), (17, false), (18, false), (4, true), (9, true), (10, true), (19, true), (20, false)] (by kernel_rfl) (by kernel_rfl) rfl (fun _ _ d _ _ h => by cases d <;> exact h) ?_
          simp only [inOrder, List.filterMap_cons, List.filterMap_nil, List.getElem?_toArray, List.getElem?_cons_zero, List.getElem?_cons_succ, Option.map_some]
          repeat (first
            | (refine wpS_move rfl ?_; simp only [Act.eval, Act.put, Array.getD_eq_getD_getElem?, List.getElem?_toArray, List.getElem?_cons_zero, List.getElem?_cons_succ, Option.getD_some, List.setIfInBounds_toArray, List.set_cons_zero, List.set_cons_succ])
            | (refine wpS_assign rfl ?_; simp only [Act.eval, Act.put, Array.getD_eq_getD_getElem?, List.getElem?_toArray, List.getElem?_cons_zero, List.getElem?_cons_succ, Option.getD_some, List.setIfInBounds_toArray, List.set_cons_zero, List.set_cons_succ])
            | (refine wpS_read (v := ?_) rfl ?_ ?_; rotate_left; (focus (intro w' hG; obtain ⟨⟨k0, k1, k2, k3, k4⟩, m0, m1, m2, m3, m4⟩ := kx w' hG; go_simp; try (with_reducible rfl))); simp only [Act.put, List.setIfInBounds_toArray, List.set_cons_zero, List.set_cons_succ])
            | (refine wpS_skip rfl ?_; simp only [Act.put, List.setIfInBounds_toArray, List.set_cons_zero, List.set_cons_succ]))
          refine wpS_call (f := ?_) (args := ?_) (by rfl) ?_ ?_
          rotate_left 2; focus (go_simp; constructor <;> with_reducible rfl)
          refine (of_any xe xf xd xs xa _ xc _).mono ?_
          rintro e u1 ⟨rfl, j1⟩
          refine ⟨_, rfl, j1, ?_⟩
          simp only [Act.put, List.setIfInBounds_toArray, List.set_cons_zero, List.set_cons_succ]
          repeat (first
            | (refine wpS_move rfl ?_; simp only [Act.eval, Act.put, Array.getD_eq_getD_getElem?, List.getElem?_toArray, List.getElem?_cons_zero, List.getElem?_cons_succ, Option.getD_some, List.setIfInBounds_toArray, List.set_cons_zero, List.set_cons_succ])
            | (refine wpS_assign rfl ?_; simp only [Act.eval, Act.put, Array.getD_eq_getD_getElem?, List.getElem?_toArray, List.getElem?_cons_zero, List.getElem?_cons_succ, Option.getD_some, List.setIfInBounds_toArray, List.set_cons_zero, List.set_cons_succ])
            | (refine wpS_read (v := ?_) rfl ?_ ?_; rotate_left; (focus (intro w' hG; skip; go_simp; try (with_reducible rfl))); simp only [Act.put, List.setIfInBounds_toArray, List.set_cons_zero, List.set_cons_succ])
            | (refine wpS_skip rfl ?_; simp only [Act.put, List.setIfInBounds_toArray, List.set_cons_zero, List.set_cons_succ]))
          refine wpS_call (f := ?_) (args := ?_) (by rfl) ?_ ?_
          rotate_left 2; focus (go_simp; constructor <;> with_reducible rfl)
          refine (of_any ye yf yd ys ya _ yc _).mono ?_
          rintro e u2 ⟨rfl, j2⟩
          refine ⟨_, rfl, j2, ?_⟩
          simp only [Act.put, List.setIfInBounds_toArray, List.set_cons_zero, List.set_cons_succ]
          repeat (first
            | (refine wpS_move rfl ?_; simp only [Act.eval, Act.put, Array.getD_eq_getD_getElem?, List.getElem?_toArray, List.getElem?_cons_zero, List.getElem?_cons_succ, Option.getD_some, List.setIfInBounds_toArray, List.set_cons_zero, List.set_cons_succ])
            | (refine wpS_assign rfl ?_; simp only [Act.eval, Act.put, Array.getD_eq_getD_getElem?, List.getElem?_toArray, List.getElem?_cons_zero, List.getElem?_cons_succ, Option.getD_some, List.setIfInBounds_toArray, List.set_cons_zero, List.set_cons_succ])
            | (refine wpS_read (v := ?_) rfl ?_ ?_; rotate_left; (focus (intro w' hG; skip; go_simp; try (with_reducible rfl))); simp only [Act.put, List.setIfInBounds_toArray, List.set_cons_zero, List.set_cons_succ])
            | (refine wpS_skip rfl ?_; simp only [Act.put, List.setIfInBounds_toArray, List.set_cons_zero, List.set_cons_succ]))
          refine wpS_call (f := ?_) (args := ?_) (by rfl) ?_ ?_
          rotate_left 2; focus (go_simp; constructor <;> with_reducible rfl)
          refine (hs1 u2 (((Grow.refl wr).drew.trans j1).trans j2)).mono ?_
          rintro e u3 ⟨rfl, j3⟩
          refine ⟨_, rfl, j3, ?_⟩
          simp only [Act.put, List.setIfInBounds_toArray, List.set_cons_zero, List.set_cons_succ]
          repeat (first
            | (refine wpS_move rfl ?_; simp only [Act.eval, Act.put, Array.getD_eq_getD_getElem?, List.getElem?_toArray, List.getElem?_cons_zero, List.getElem?_cons_succ, Option.getD_some, List.setIfInBounds_toArray, List.set_cons_zero, List.set_cons_succ])
            | (refine wpS_assign rfl ?_; simp only [Act.eval, Act.put, Array.getD_eq_getD_getElem?, List.getElem?_toArray, List.getElem?_cons_zero, List.getElem?_cons_succ, Option.getD_some, List.setIfInBounds_toArray, List.set_cons_zero, List.set_cons_succ])
            | (refine wpS_read (v := ?_) rfl ?_ ?_; rotate_left; (focus (intro w' hG; skip; go_simp; try (with_reducible rfl))); simp only [Act.put, List.setIfInBounds_toArray, List.set_cons_zero, List.set_cons_succ])
            | (refine wpS_skip rfl ?_; simp only [Act.put, List.setIfInBounds_toArray, List.set_cons_zero, List.set_cons_succ]))
          refine wpS_call (f := ?_) (args := ?_) (by rfl) ?_ ?_
          rotate_left 2; focus (go_simp; constructor <;> with_reducible rfl)
          refine (hs2 u3 ((((Grow.refl wr).drew.trans j1).trans j2).trans j3)).mono ?_
          rintro e u4 ⟨rfl, j4⟩
          refine ⟨_, rfl, j4, ?_⟩
          simp only [Act.put, List.setIfInBounds_toArray, List.set_cons_zero, List.set_cons_succ]
          repeat (first
            | (refine wpS_move rfl ?_; simp only [Act.eval, Act.put, Array.getD_eq_getD_getElem?, List.getElem?_toArray, List.getElem?_cons_zero, List.getElem?_cons_succ, Option.getD_some, List.setIfInBounds_toArray, List.set_cons_zero, List.set_cons_succ])
            | (refine wpS_assign rfl ?_; simp only [Act.eval, Act.put, Array.getD_eq_getD_getElem?, List.getElem?_toArray, List.getElem?_cons_zero, List.getElem?_cons_succ, Option.getD_some, List.setIfInBounds_toArray, List.set_cons_zero, List.set_cons_succ])
            | (refine wpS_read (v := ?_) rfl ?_ ?_; rotate_left; (focus (intro w' hG; skip; go_simp; try (with_reducible rfl))); simp only [Act.put, List.setIfInBounds_toArray, List.set_cons_zero, List.set_cons_succ])
            | (refine wpS_skip rfl ?_; simp only [Act.put, List.setIfInBounds_toArray, List.set_cons_zero, List.set_cons_succ]))
          refine wpS_nil ?_
          have O2 : Hid (RdQ (fun _ => True) u4 (.slice (some ⟨b8, 0, none⟩) 3 3) gs ∧ (∀ c ∈ gs, ∃ q, HasQ u4 c q) ∧ Grow w u4) := OG.out _ _ O.out (((((Grow.refl wr).drew.trans j1).trans j2).trans j3).trans j4)
          go_wp2
          go_roundg (3 - (k + 1))
          case measure => have := HK.out; omega
          case rel => exact ⟨k + 1, rfl, HK.out.1, by go_num, O2⟩
        · have hle2 : ¬ (k : Int) < 3 := by omega
          go_wp2
          go_roundg (3 - (i + 1))
          case measure => have := HL.out; omega
          case rel => exact ⟨i + 1, rfl, HL.out.1, by go_num, O⟩
    · have hle : ¬ (i : Int) < 3 := by omega
      clear hk hi4 hlt
      go_wp2_with fail
      refine (lives_any _).mono ?_
      rintro e u4 ⟨rfl, j4⟩
      go_wp2
      go_ret
      exact ⟨rfl, O.out.2.2.trans j4⟩
end Go.Proofs.Ytlcphhlimcnnaaa
