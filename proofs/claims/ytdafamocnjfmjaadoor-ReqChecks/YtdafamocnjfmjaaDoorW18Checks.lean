/-
  The walk of ReqChecks. Conditions: the theorem's own.
-/
import Derived.Test.YtdafamocnjfmjaaDoorReqQs
import Derived.Test.YtdafamocnjfmjaaDoorReqL
import Derived.Test.YtdafamocnjfmjaaDoorReqDoc
import Derived.Test.YtdafamocnjfmjaaDoorReqGoodW
import Derived.Deep.CutRange
namespace Go.Proofs.YtdafamocnjfmjaaDoor
open Go.RowKit
set_option linter.unusedVariables false
set_option linter.unusedSimpArgs false

theorem Rd.sl {B : Nat} {w : World} {v : Value} {zs : List Int} (h : Rd .u8 B w v zs) : ∃ a c, v = .slice a zs.length c := by
  obtain ⟨a, c, rfl, _⟩ := h
  exact ⟨a, c, rfl⟩
/-- both Checks of one request -/
def Chk2 (o p f l : Int) (a : Option Addr) (n c : Nat) (k : Int) (E : Int) : Prop :=
  (∀ u, WT u → Calls Tryd.prog 12 #[.agg #[.int .i64 o, .int .i64 p, .int .i64 f, .int .i64 l, .slice a n c], .int .i64 k] u fun e w' => e = .returned (.int .i64 E) ∧ Grow u w') ∧
  ∀ u, Calls Tryd.prog 13 #[.agg #[.int .i64 o, .int .i64 p, .int .i64 f, .int .i64 l, .slice a n c], .int .i64 k] u fun e w' => e = .returned (.int .i64 E) ∧ Grow u w'
theorem chk2 (o p f l : Int) (a : Option Addr) (n c : Nat) (k : Int) (hf : (Lit.int .i64 f).wf = true) (hl : (Lit.int .i64 l).wf = true) (hn : n ≤ 1000000) : Chk2 o p f l a n c k (ckE o p f l n k) :=
  ⟨fun u hu => check_any u o p f l a n c k hu hf hl hn, fun u => rcheck_any u o p f l a n c k⟩

set_option maxRecDepth 16000 in
set_option maxHeartbeats 16000000 in
theorem reqChecks_walk (x : Rq) (a : Option Addr) (n c : Nat) (wh pg : Int) (w : World) (hw : WT w) (hr : Rd .u8 w.heap.size w (.slice a n c) x.z) (hok : x.Ok maxLen) (hwh : (Lit.int .i64 wh).wf = true) (hpg : (Lit.int .i64 pg).wf = true) :
    Calls Tryd.prog 3 #[.agg #[.int .i64 x.o, .int .i64 x.p, .int .i64 x.f, .int .i64 x.l, .slice a n c], .int .i64 wh, .int .i64 pg] w fun e w' => e = .returned (.bool true) ∧ Grow w w' := by
  have H0 : Hid (VarAt (w.alloc (.cells #[.int .i64 x.o, .int .i64 x.p, .int .i64 x.f, .int .i64 x.l, .slice a n c] 24)) w.heap.size [.int .i64 x.o, .int .i64 x.p, .int .i64 x.f, .int .i64 x.l, .slice a n c] ∧ Grow w (w.alloc (.cells #[.int .i64 x.o, .int .i64 x.p, .int .i64 x.f, .int .i64 x.l, .slice a n c] 24))) := ⟨VarAt.new w _ _, (Grow.refl w).alloc _⟩
  have har : Calls Tryd.prog 8 #[.int .i64 pg, .int .i64 6] (w.alloc (.cells #[.int .i64 x.o, .int .i64 x.p, .int .i64 x.f, .int .i64 x.l, .slice a n c] 24)) fun e w' => e = .returned (.int .i64 (around pg 6)) ∧ VarAt w' w.heap.size [.int .i64 x.o, .int .i64 x.p, .int .i64 x.f, .int .i64 x.l, .slice a n c] ∧ Grow w w' := (around_any pg 6 _ hpg (by omega) (by omega)).mono (by rintro e w' ⟨rfl, rfl⟩; exact ⟨rfl, H0.out⟩)
  have hb := around_bd pg 6 (by omega)
  generalize around pg 6 = k0 at har hb
  obtain ⟨K, hK⟩ : ∃ K : Int, K = 1 + k0 := ⟨_, rfl⟩
  have hk0 : IntKind.i64.wrap (1 + k0) = K := by rw [IntKind.wrap_i64]; omega
  have HG : Hid (∀ u, Grow w u → Calls Tryd.prog 9 #[.agg #[.int .i64 x.o, .int .i64 x.p, .int .i64 x.f, .int .i64 x.l, .slice a n c], .int .i64 K] u (GoodPost u K)) := fun u g => rgood_any u x a n c w.heap.size K (hr.below g) hok (by omega)
  have HFE : Hid (∀ u, Grow w u → Calls Tryd.prog 10 #[.agg #[.int .i64 x.o, .int .i64 x.p, .int .i64 x.f, .int .i64 x.l, .slice a n c]] u fun e w' => ∃ v, e = .returned (.agg #[.int .i64 x.o, .int .i64 x.p, .int .i64 x.f, .int .i64 x.l, v]) ∧ Own .u8 u.heap.size w' v (x.z.take 34) ∧ Grow u w') := fun u g => rfew_any u x.o x.p x.f x.l a n c x.z w.heap.size (hr.below g)
  have HO : Hid (∀ (g : Rq) (ga : Option Addr) (gn gc : Nat) u, Grow w u → Rd .u8 u.heap.size u (.slice ga gn gc) g.z → Calls Tryd.prog 11 #[.agg #[.int .i64 g.o, .int .i64 g.p, .int .i64 g.f, .int .i64 g.l, .slice ga gn gc], .agg #[.int .i64 x.o, .int .i64 x.p, .int .i64 x.f, .int .i64 x.l, .slice a n c], .int .i64 wh] u fun e w' => ∃ v, e = .returned (.agg #[.int .i64 (oddQ g x (around wh 5)).o, .int .i64 (oddQ g x (around wh 5)).p, .int .i64 (oddQ g x (around wh 5)).f, .int .i64 (oddQ g x (around wh 5)).l, v]) ∧ Rd .u8 w'.heap.size w' v (oddQ g x (around wh 5)).z ∧ Grow u w') := fun g ga gn gc u gg hg => odd_any u g x ga gn gc a n c u.heap.size w.heap.size wh hg (hr.below gg) hwh
  have HX : Hid (WT w ∧ x.Ok maxLen) := ⟨hw, hok⟩
  generalize around wh 5 = jj at HO
  clear hw hr hok hwh hpg
  clear hK hb
  go_enter Tryd.func3, Tryd.ntmps3
  go_wp2_with fail
  refine har.mono ?_
  rintro e w1 ⟨rfl, h1⟩
  have H1 : Hid (VarAt w1 w.heap.size [.int .i64 x.o, .int .i64 x.p, .int .i64 x.f, .int .i64 x.l, .slice a n c] ∧ Grow w w1) := h1
  clear har h1 H0
  obtain ⟨⟨c0, c1, c2, c3, c4⟩, -⟩ := H1.out.1.five
  go_wp2_with fail
  refine (HG.out _ H1.out.2).mono ?_
  rintro e w2 ⟨q, vq, rfl, hq1, hq2, hq3, hq4⟩
  obtain ⟨qa, qc, rfl⟩ := hq1.sl
  have HQ : Hid (Rd .u8 w2.heap.size w2 (.slice qa q.z.length qc) q.z ∧ q.Ok 34 ∧ ckE q.o q.p q.f q.l q.z.length K = 0) := ⟨hq1, hq3, hq4⟩
  have H2 : Hid (VarAt w2 w.heap.size [.int .i64 x.o, .int .i64 x.p, .int .i64 x.f, .int .i64 x.l, .slice a n c] ∧ Grow w w2) := ⟨H1.out.1.grow hq2, H1.out.2.trans hq2⟩
  clear hq1 hq2 hq3 hq4 H1 HG c0 c1 c2 c3 c4
  go_upto_region 3 with fail
  refine wp_gen (fun u => VarAt u w.heap.size [.int .i64 x.o, .int .i64 x.p, .int .i64 x.f, .int .i64 x.l, .slice a n c] ∧ VarAt u w2.heap.size [.int .i64 q.o, .int .i64 q.p, .int .i64 q.f, .int .i64 q.l, .slice qa q.z.length qc] ∧ Grow w u ∧ Rd .u8 u.heap.size u (.slice qa q.z.length qc) q.z) ⟨H2.out.1.old _, VarAt.new w2 _ _, H2.out.2.alloc _, Rd.mono (HQ.out.1.below ((Grow.refl w2).alloc _)) ((Grow.refl w2).alloc _).size⟩ ?_
  intro w3 h3
  have H3 := hid h3
  have HQ2 := hid HQ.out.2
  clear h3 H2 HQ
  generalize w2.heap.size = g8 at *
  refine wp_region_sched (by kernel_rfl) [(0, false), (2, false), (3, false), (4, false), (5, false), (1, true), (6, true), (7, true), (8, false)] (by kernel_rfl) (by kernel_rfl) rfl (fun _ _ d _ _ h => by cases d <;> exact h) ?_
  simp only [inOrder, List.filterMap_cons, List.filterMap_nil, List.getElem?_toArray, List.getElem?_cons_zero, List.getElem?_cons_succ, Option.map_some]
  repeat (first
    | (refine wpS_move rfl ?_; simp only [Act.eval, Act.put, Array.getD_eq_getD_getElem?, List.getElem?_toArray, List.getElem?_cons_zero, List.getElem?_cons_succ, Option.getD_some, List.setIfInBounds_toArray, List.set_cons_zero, List.set_cons_succ])
    | (refine wpS_assign rfl ?_; simp only [Act.eval, Act.put, Array.getD_eq_getD_getElem?, List.getElem?_toArray, List.getElem?_cons_zero, List.getElem?_cons_succ, Option.getD_some, List.setIfInBounds_toArray, List.set_cons_zero, List.set_cons_succ])
    | (refine wpS_read (v := ?_) rfl ?_ ?_; rotate_left; (focus (intro w' hG; obtain ⟨c0, c1, c2, c3, c4⟩ := late5 H3.out.1 (by first | exact .inl hG | exact .inr hG); obtain ⟨d0, d1, d2, d3, d4⟩ := late5 H3.out.2.1 (by first | exact .inl hG | exact .inr hG); go_simp; try (with_reducible rfl))); simp only [Act.put, List.setIfInBounds_toArray, List.set_cons_zero, List.set_cons_succ])
    | (refine wpS_skip rfl ?_; simp only [Act.put, List.setIfInBounds_toArray, List.set_cons_zero, List.set_cons_succ]))
  have g3 : Grow w3 w3.drew := (Grow.refl _).drew
  refine wpS_call (f := ?_) (args := ?_) (by rfl) ?_ ?_
  rotate_left 2; focus (go_simp; constructor <;> with_reducible rfl)
  refine (HFE.out _ (H3.out.2.2.1.trans g3)).mono ?_
  rintro e w4 ⟨v4, rfl, ho4, g4⟩
  refine ⟨_, rfl, g4, ?_⟩
  simp only [Act.put, List.setIfInBounds_toArray, List.set_cons_zero, List.set_cons_succ]
  obtain ⟨a4, c4, rfl⟩ := ho4.shape
  have g34 := g3.trans g4
  refine wpS_call (f := ?_) (args := ?_) (by rfl) ?_ ?_
  rotate_left 2; focus (go_simp; constructor <;> with_reducible rfl)
  refine (HO.out q qa q.z.length qc w4 (H3.out.2.2.1.trans g34) (Rd.mono (H3.out.2.2.2.below g34) g34.size)).mono ?_
  rintro e w5 ⟨v5, rfl, ho5, g5⟩
  refine ⟨_, rfl, g5, ?_⟩
  simp only [Act.put, List.setIfInBounds_toArray, List.set_cons_zero, List.set_cons_succ]
  obtain ⟨a5, c5, rfl⟩ := ho5.sl
  have hoq : (oddQ q x jj).Ok 34 := HQ2.out.1.odd HX.out.2 (by omega) jj
  generalize oddQ q x jj = y at *
  have g35 := g34.trans g5
  have HL : Hid (∀ v ∈ ([⟨x.o, x.p, x.f, x.l, a4, (x.z.take 34).length, c4⟩, ⟨q.o, q.p, q.f, q.l, qa, q.z.length, qc⟩, ⟨y.o, y.p, y.f, y.l, a5, y.z.length, c5⟩] : List RqV), ∃ z, RqI w5 34 v z) := fun v hv => by
    rcases List.mem_cons.1 hv with rfl | hv
    · exact ⟨x.z.take 34, Rd.mono (ho4.rd.below g5) g5.size, HX.out.2.2.2.1, HX.out.2.2.2.2.1, HX.out.2.2.2.2.2.1.take 34, by rw [List.length_take]; omega⟩
    rcases List.mem_cons.1 hv with rfl | hv
    · exact ⟨q.z, Rd.mono (H3.out.2.2.2.below g35) g35.size, HQ2.out.1.2.2.1, HQ2.out.1.2.2.2.1, HQ2.out.1.2.2.2.2.1, HQ2.out.1.2.2.2.2.2⟩
    rcases List.mem_cons.1 hv with rfl | hv
    · exact ⟨y.z, ho5, hoq.2.2.1, hoq.2.2.2.1, hoq.2.2.2.2.1, hoq.2.2.2.2.2⟩
    · cases hv
  refine wpS_act (by rfl) (exec_rq3 rfl rfl rfl rfl) ((Grow.refl _).alloc _) ?_
  simp only [Act.put, List.setIfInBounds_toArray, List.set_cons_zero, List.set_cons_succ]
  have hqs := qs_new w5 _ 34 (by show 3 ≤ 1000; omega) HL.out
  have H6 : Hid (QsAt (w5.alloc (.cells ([⟨x.o, x.p, x.f, x.l, a4, (x.z.take 34).length, c4⟩, ⟨q.o, q.p, q.f, q.l, qa, q.z.length, qc⟩, ⟨y.o, y.p, y.f, y.l, a5, y.z.length, c5⟩].flatMap RqV.cs).toArray 24)) w5.heap.size ([⟨x.o, x.p, x.f, x.l, a4, (x.z.take 34).length, c4⟩, ⟨q.o, q.p, q.f, q.l, qa, q.z.length, qc⟩, ⟨y.o, y.p, y.f, y.l, a5, y.z.length, c5⟩] : List RqV) 34 ∧ VarAt (w5.alloc (.cells ([⟨x.o, x.p, x.f, x.l, a4, (x.z.take 34).length, c4⟩, ⟨q.o, q.p, q.f, q.l, qa, q.z.length, qc⟩, ⟨y.o, y.p, y.f, y.l, a5, y.z.length, c5⟩].flatMap RqV.cs).toArray 24)) g8 [.int .i64 q.o, .int .i64 q.p, .int .i64 q.f, .int .i64 q.l, .slice qa q.z.length qc] ∧ Grow w (w5.alloc (.cells ([⟨x.o, x.p, x.f, x.l, a4, (x.z.take 34).length, c4⟩, ⟨q.o, q.p, q.f, q.l, qa, q.z.length, qc⟩, ⟨y.o, y.p, y.f, y.l, a5, y.z.length, c5⟩].flatMap RqV.cs).toArray 24))) :=
    ⟨hqs, (H3.out.2.1.grow g35).old _, (H3.out.2.2.1.trans g35).alloc _⟩
  generalize hW6 : (w5.alloc (.cells ([⟨x.o, x.p, x.f, x.l, a4, (x.z.take 34).length, c4⟩, ⟨q.o, q.p, q.f, q.l, qa, q.z.length, qc⟩, ⟨y.o, y.p, y.f, y.l, a5, y.z.length, c5⟩].flatMap RqV.cs).toArray 24)) = w6 at *
  clear hW6 hqs HL hoq ho4 ho5 g4 g5 g3 g34 g35 H3 HFE HO
  generalize w5.heap.size = g9 at *
  obtain ⟨L, hL⟩ : ∃ L : List RqV, L = [⟨x.o, x.p, x.f, x.l, a4, (x.z.take 34).length, c4⟩, ⟨q.o, q.p, q.f, q.l, qa, q.z.length, qc⟩, ⟨y.o, y.p, y.f, y.l, a5, y.z.length, c5⟩] := ⟨_, rfl⟩
  rw [← hL] at H6
  have HLL : Hid (L.length = 3) := by rw [hL]; rfl
  clear hL
  repeat (first
    | (refine wpS_move rfl ?_; simp only [Act.eval, Act.put, Array.getD_eq_getD_getElem?, List.getElem?_toArray, List.getElem?_cons_zero, List.getElem?_cons_succ, Option.getD_some, List.setIfInBounds_toArray, List.set_cons_zero, List.set_cons_succ])
    | (refine wpS_assign rfl ?_; simp only [Act.eval, Act.put, Array.getD_eq_getD_getElem?, List.getElem?_toArray, List.getElem?_cons_zero, List.getElem?_cons_succ, Option.getD_some, List.setIfInBounds_toArray, List.set_cons_zero, List.set_cons_succ])
    | (refine wpS_read (v := ?_) rfl ?_ ?_; rotate_left; (focus (intro w' hG; go_simp; try (with_reducible rfl))); simp only [Act.put, List.setIfInBounds_toArray, List.set_cons_zero, List.set_cons_succ])
    | (refine wpS_skip rfl ?_; simp only [Act.put, List.setIfInBounds_toArray, List.set_cons_zero, List.set_cons_succ]))
  refine wpS_nil ?_
  have HCQ := hid (chk2 q.o q.p q.f q.l qa q.z.length qc K HQ2.out.1.2.2.1 HQ2.out.1.2.2.2.1 (by have := HQ2.out.1.2.2.2.2.2; omega))
  rw [HQ2.out.2] at HCQ
  have HLV : Hid (∀ u, WT u → Calls Tryd.prog 14 #[] u fun e w' => e = .returned (.bool true) ∧ Grow u w') := fun u hu => lives_any u hu
  clear HQ2
  go_wp2
  go_loopg [10] 3 (fun k i wr => ∃ j : Nat, k = 3 - j ∧ j ≤ 3 ∧ i = .int .i64 j ∧ Hid (QsAt wr g9 L 34 ∧ VarAt wr g8 [.int .i64 q.o, .int .i64 q.p, .int .i64 q.f, .int .i64 q.l, .slice qa q.z.length qc] ∧ Grow w wr))
  case atStart => exact ⟨0, rfl, Nat.zero_le _, rfl, H6.out⟩
  case round =>
    obtain ⟨j, hk, hj, rfl, HJ⟩ := hrel
    clear H6
    by_cases hlt : j < 3
    · have hlt' : (j : Int) < 3 := by omega
      obtain ⟨y1, z1, hI, -, fx⟩ := HJ.out.1.at (j := j) (by rw [HLL.out]; exact hlt)
      have hn1 : y1.n ≤ 1000000 := by
        obtain ⟨hh, -⟩ := hI.1.caps
        have := hI.2.2.2.2
        omega
      have HC1 := hid (chk2 y1.o y1.p y1.f y1.l y1.a y1.n y1.c K hI.2.1 hI.2.2.1 hn1)
      have HC2 := hid (chk2 y1.o y1.p y1.f y1.l y1.a y1.n y1.c pg hI.2.1 hI.2.2.1 hn1)
      have HF := hid fx
      have HK : Hid (j < 3 ∧ gk = 3 - j) := ⟨hlt, hk⟩
      generalize ckE y1.o y1.p y1.f y1.l y1.n K = E1 at HC1
      generalize ckE y1.o y1.p y1.f y1.l y1.n pg = E2 at HC2
      clear hk hlt fx hI hn1
      obtain ⟨o1, p1, f1, l1, a1, n1, c1⟩ := y1
      dsimp only at HC1 HC2 HF
      go_wp2
      refine wp_region_sched (by kernel_rfl) [(0, false), (1, false), (2, false), (3, false), (4, false), (6, false), (7, false), (8, false), (9, false), (10, false), (5, true), (11, true), (12, false), (13, false), (14, false), (15, false), (16, false), (17, false), (18, false), (20, false), (21, false), (22, false), (23, false), (24, false), (19, true), (25, true), (26, false), (27, false)] (by kernel_rfl) (by kernel_rfl) rfl (fun _ _ d _ _ h => by cases d <;> exact h) ?_
      simp only [inOrder, List.filterMap_cons, List.filterMap_nil, List.getElem?_toArray, List.getElem?_cons_zero, List.getElem?_cons_succ, Option.map_some]
      repeat (first
        | (refine wpS_move rfl ?_; simp only [Act.eval, Act.put, Array.getD_eq_getD_getElem?, List.getElem?_toArray, List.getElem?_cons_zero, List.getElem?_cons_succ, Option.getD_some, List.setIfInBounds_toArray, List.set_cons_zero, List.set_cons_succ])
        | (refine wpS_assign rfl ?_; simp only [Act.eval, Act.put, Array.getD_eq_getD_getElem?, List.getElem?_toArray, List.getElem?_cons_zero, List.getElem?_cons_succ, Option.getD_some, List.setIfInBounds_toArray, List.set_cons_zero, List.set_cons_succ])
        | (refine wpS_read (v := ?_) rfl ?_ ?_; rotate_left; (focus (intro w' hG; obtain ⟨c0, c1, c2, c3, c4⟩ := HF.out w' (by first | exact hG | exact (Grow.refl _).drew.trans hG); go_simp; try (with_reducible rfl))); simp only [Act.put, List.setIfInBounds_toArray, List.set_cons_zero, List.set_cons_succ])
        | (refine wpS_skip rfl ?_; simp only [Act.put, List.setIfInBounds_toArray, List.set_cons_zero, List.set_cons_succ]))
      have GG : Hid (WT wr.drew ∧ Grow wr wr.drew) := ⟨(HX.out.1.grow HJ.out.2.2).grow (Grow.refl _).drew, (Grow.refl _).drew⟩
      refine wpS_call (f := ?_) (args := ?_) (by rfl) ?_ ?_
      rotate_left 2; focus (go_simp; constructor <;> with_reducible rfl)
      refine (HC1.out.1 _ GG.out.1).mono ?_
      rintro e w7 ⟨rfl, g7⟩
      refine ⟨_, rfl, g7, ?_⟩
      simp only [Act.put, List.setIfInBounds_toArray, List.set_cons_zero, List.set_cons_succ]
      replace GG : Hid (WT w7 ∧ Grow wr w7) := ⟨GG.out.1.grow g7, GG.out.2.trans g7⟩
      clear g7
      repeat (first
        | (refine wpS_move rfl ?_; simp only [Act.eval, Act.put, Array.getD_eq_getD_getElem?, List.getElem?_toArray, List.getElem?_cons_zero, List.getElem?_cons_succ, Option.getD_some, List.setIfInBounds_toArray, List.set_cons_zero, List.set_cons_succ])
        | (refine wpS_assign rfl ?_; simp only [Act.eval, Act.put, Array.getD_eq_getD_getElem?, List.getElem?_toArray, List.getElem?_cons_zero, List.getElem?_cons_succ, Option.getD_some, List.setIfInBounds_toArray, List.set_cons_zero, List.set_cons_succ])
        | (refine wpS_read (v := ?_) rfl ?_ ?_; rotate_left; (focus (intro w' hG; obtain ⟨c0, c1, c2, c3, c4⟩ := HF.out w' (by first | exact hG | exact (Grow.refl _).drew.trans hG | exact GG.out.2.trans hG); go_simp; try (with_reducible rfl))); simp only [Act.put, List.setIfInBounds_toArray, List.set_cons_zero, List.set_cons_succ])
        | (refine wpS_skip rfl ?_; simp only [Act.put, List.setIfInBounds_toArray, List.set_cons_zero, List.set_cons_succ]))
      refine wpS_call (f := ?_) (args := ?_) (by rfl) ?_ ?_
      rotate_left 2; focus (go_simp; constructor <;> with_reducible rfl)
      refine (HC1.out.2 _).mono ?_
      rintro e w8 ⟨rfl, g8⟩
      refine ⟨_, rfl, g8, ?_⟩
      simp only [Act.put, List.setIfInBounds_toArray, List.set_cons_zero, List.set_cons_succ]
      replace GG : Hid (WT w8 ∧ Grow wr w8) := ⟨GG.out.1.grow g8, GG.out.2.trans g8⟩
      clear g8
      repeat (first
        | (refine wpS_move rfl ?_; simp only [Act.eval, Act.put, Array.getD_eq_getD_getElem?, List.getElem?_toArray, List.getElem?_cons_zero, List.getElem?_cons_succ, Option.getD_some, List.setIfInBounds_toArray, List.set_cons_zero, List.set_cons_succ])
        | (refine wpS_assign rfl ?_; simp only [Act.eval, Act.put, Array.getD_eq_getD_getElem?, List.getElem?_toArray, List.getElem?_cons_zero, List.getElem?_cons_succ, Option.getD_some, List.setIfInBounds_toArray, List.set_cons_zero, List.set_cons_succ])
        | (refine wpS_read (v := ?_) rfl ?_ ?_; rotate_left; (focus (intro w' hG; obtain ⟨c0, c1, c2, c3, c4⟩ := HF.out w' (by first | exact hG | exact (Grow.refl _).drew.trans hG | exact GG.out.2.trans hG); go_simp; try (with_reducible rfl))); simp only [Act.put, List.setIfInBounds_toArray, List.set_cons_zero, List.set_cons_succ])
        | (refine wpS_skip rfl ?_; simp only [Act.put, List.setIfInBounds_toArray, List.set_cons_zero, List.set_cons_succ]))
      refine wpS_call (f := ?_) (args := ?_) (by rfl) ?_ ?_
      rotate_left 2; focus (go_simp; constructor <;> with_reducible rfl)
      refine (HC2.out.1 _ GG.out.1).mono ?_
      rintro e w9 ⟨rfl, g9'⟩
      refine ⟨_, rfl, g9', ?_⟩
      simp only [Act.put, List.setIfInBounds_toArray, List.set_cons_zero, List.set_cons_succ]
      replace GG : Hid (WT w9 ∧ Grow wr w9) := ⟨GG.out.1.grow g9', GG.out.2.trans g9'⟩
      clear g9'
      repeat (first
        | (refine wpS_move rfl ?_; simp only [Act.eval, Act.put, Array.getD_eq_getD_getElem?, List.getElem?_toArray, List.getElem?_cons_zero, List.getElem?_cons_succ, Option.getD_some, List.setIfInBounds_toArray, List.set_cons_zero, List.set_cons_succ])
        | (refine wpS_assign rfl ?_; simp only [Act.eval, Act.put, Array.getD_eq_getD_getElem?, List.getElem?_toArray, List.getElem?_cons_zero, List.getElem?_cons_succ, Option.getD_some, List.setIfInBounds_toArray, List.set_cons_zero, List.set_cons_succ])
        | (refine wpS_read (v := ?_) rfl ?_ ?_; rotate_left; (focus (intro w' hG; obtain ⟨c0, c1, c2, c3, c4⟩ := HF.out w' (by first | exact hG | exact (Grow.refl _).drew.trans hG | exact GG.out.2.trans hG); go_simp; try (with_reducible rfl))); simp only [Act.put, List.setIfInBounds_toArray, List.set_cons_zero, List.set_cons_succ])
        | (refine wpS_skip rfl ?_; simp only [Act.put, List.setIfInBounds_toArray, List.set_cons_zero, List.set_cons_succ]))
      refine wpS_call (f := ?_) (args := ?_) (by rfl) ?_ ?_
      rotate_left 2; focus (go_simp; constructor <;> with_reducible rfl)
      refine (HC2.out.2 _).mono ?_
      rintro e wx ⟨rfl, gx⟩
      refine ⟨_, rfl, gx, ?_⟩
      simp only [Act.put, List.setIfInBounds_toArray, List.set_cons_zero, List.set_cons_succ]
      replace GG : Hid (WT wx ∧ Grow wr wx) := ⟨GG.out.1.grow gx, GG.out.2.trans gx⟩
      clear gx
      repeat (first
        | (refine wpS_move rfl ?_; simp only [Act.eval, Act.put, Array.getD_eq_getD_getElem?, List.getElem?_toArray, List.getElem?_cons_zero, List.getElem?_cons_succ, Option.getD_some, List.setIfInBounds_toArray, List.set_cons_zero, List.set_cons_succ])
        | (refine wpS_assign rfl ?_; simp only [Act.eval, Act.put, Array.getD_eq_getD_getElem?, List.getElem?_toArray, List.getElem?_cons_zero, List.getElem?_cons_succ, Option.getD_some, List.setIfInBounds_toArray, List.set_cons_zero, List.set_cons_succ])
        | (refine wpS_read (v := ?_) rfl ?_ ?_; rotate_left; (focus (intro w' hG; obtain ⟨c0, c1, c2, c3, c4⟩ := HF.out w' (by first | exact hG | exact (Grow.refl _).drew.trans hG | exact GG.out.2.trans hG); go_simp; try (with_reducible rfl))); simp only [Act.put, List.setIfInBounds_toArray, List.set_cons_zero, List.set_cons_succ])
        | (refine wpS_skip rfl ?_; simp only [Act.put, List.setIfInBounds_toArray, List.set_cons_zero, List.set_cons_succ]))
      refine wpS_nil ?_
      have HE : Hid (QsAt wx g9 L 34 ∧ VarAt wx g8 [.int .i64 q.o, .int .i64 q.p, .int .i64 q.f, .int .i64 q.l, .slice qa q.z.length qc] ∧ Grow w wx) := ⟨HJ.out.1.grow GG.out.2, HJ.out.2.1.grow GG.out.2, HJ.out.2.2.trans GG.out.2⟩
      clear HC1 HC2 HF GG HJ HCQ
      go_wp2
      go_roundg (3 - (j + 1))
      case measure => have := HK.out; omega
      case rel => exact ⟨j + 1, rfl, HK.out.1, by go_num, HE⟩
    · obtain rfl : j = 3 := by omega
      obtain ⟨⟨c0, c1, c2, c3, c4⟩, -⟩ := HJ.out.2.1.five
      clear hlt hj hk
      go_wp2_with fail
      refine (HCQ.out.1 _ (HX.out.1.grow HJ.out.2.2)).mono ?_
      rintro e w7 ⟨rfl, g7⟩
      have G7 : Hid (Grow w w7) := HJ.out.2.2.trans g7
      clear g7 c0 c1 c2 c3 c4
      go_wp2_with fail
      refine (HLV.out _ (HX.out.1.grow G7.out)).mono ?_
      rintro e w8 ⟨rfl, g8⟩
      go_wp2
      go_ret
      exact ⟨rfl, G7.out.trans g8⟩
end Go.Proofs.YtdafamocnjfmjaaDoor
