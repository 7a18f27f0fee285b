/-
  The walks of the document's Few and of a request of which a field is another one's. Conditions: each theorem's own.
-/
import Derived.Test.YtdafamocnjfmjaaDoorReqSm
namespace Go.Proofs.YtdafamocnjfmjaaDoor
open Go.RowKit
set_option linter.unusedVariables false
set_option linter.unusedSimpArgs false

theorem wp_gen {P : Program} {code : Code} {Q : Exit → Act → World → Prop} {a : Act} (S : World → Prop) {w : World} (h : S w) (k : ∀ w, S w → code.wp P Q a w) : code.wp P Q a w := k w h

set_option maxRecDepth 8000 in
set_option maxHeartbeats 4000000 in
theorem rfew_any (w : World) (o p f l : Int) (a : Option Addr) (n c : Nat) (z : List Int) (B : Nat) (h : Rd .u8 B w (.slice a n c) z) :
    Calls Tryd.prog 10 #[.agg #[.int .i64 o, .int .i64 p, .int .i64 f, .int .i64 l, .slice a n c]] w fun e w' => ∃ v, e = .returned (.agg #[.int .i64 o, .int .i64 p, .int .i64 f, .int .i64 l, v]) ∧ Own .u8 w.heap.size w' v (z.take 34) ∧ Grow w w' := by
  have g1 : Grow w ((w.alloc (.cells #[.int .i64 o, .int .i64 p, .int .i64 f, .int .i64 l, .slice a n c] 24)).alloc (.cells #[.int .i64 0, .int .i64 0, .int .i64 0, .int .i64 0, .slice none 0 0] 24)) := ((Grow.refl w).alloc _).alloc _
  have HV : Hid (VarAt ((w.alloc (.cells #[.int .i64 o, .int .i64 p, .int .i64 f, .int .i64 l, .slice a n c] 24)).alloc (.cells #[.int .i64 0, .int .i64 0, .int .i64 0, .int .i64 0, .slice none 0 0] 24)) w.heap.size [.int .i64 o, .int .i64 p, .int .i64 f, .int .i64 l, .slice a n c] ∧ VarAt ((w.alloc (.cells #[.int .i64 o, .int .i64 p, .int .i64 f, .int .i64 l, .slice a n c] 24)).alloc (.cells #[.int .i64 0, .int .i64 0, .int .i64 0, .int .i64 0, .slice none 0 0] 24)) (w.heap.size + 1) [.int .i64 0, .int .i64 0, .int .i64 0, .int .i64 0, .slice none 0 0] ∧ Grow w ((w.alloc (.cells #[.int .i64 o, .int .i64 p, .int .i64 f, .int .i64 l, .slice a n c] 24)).alloc (.cells #[.int .i64 0, .int .i64 0, .int .i64 0, .int .i64 0, .slice none 0 0] 24)) ∧ w.heap.size + 2 = ((w.alloc (.cells #[.int .i64 o, .int .i64 p, .int .i64 f, .int .i64 l, .slice a n c] 24)).alloc (.cells #[.int .i64 0, .int .i64 0, .int .i64 0, .int .i64 0, .slice none 0 0] 24)).heap.size) :=
    ⟨(VarAt.new w _ _).old _, VarAt.new2 w _ _ _, g1, by simp⟩
  have hcl := fewB_any (.slice a n c) z 34 34 _ _ rfl ((Rd.size h).below g1) (by omega)
  clear g1 h
  generalize z.take 34 = z1 at hcl ⊢
  go_enter Tryd.func10, Tryd.ntmps10
  go_wp2_with fail
  refine hcl.mono ?_
  rintro e w1 ⟨v1, rfl, ho1, g1⟩
  obtain ⟨a1, c1, rfl⟩ := ho1.shape
  have HO : Hid (Own .u8 (w.heap.size + 2) w1 (.slice a1 z1.length c1) z1) := by rw [← HV.out.2.2.2] at ho1; exact ho1
  have HX : Hid (VarAt w1 w.heap.size [.int .i64 o, .int .i64 p, .int .i64 f, .int .i64 l, .slice a n c] ∧ VarAt w1 (w.heap.size + 1) [.int .i64 0, .int .i64 0, .int .i64 0, .int .i64 0, .slice none 0 0] ∧ Grow w w1) := ⟨HV.out.1.grow g1, HV.out.2.1.grow g1, HV.out.2.2.1.trans g1⟩
  clear hcl ho1 g1 HV
  obtain ⟨⟨c0, c1', c2, c3, c4⟩, f0, f1, f2, f3, f4⟩ := HX.out.1.five
  obtain ⟨⟨d0, d1, d2, d3, d4⟩, k0, k1, k2, k3, k4⟩ := HX.out.2.1.five
  go_wp2
  have hU := (upd_one w1 w.heap.size 4 (.slice a1 z1.length c1)).mono (S' := fun i => w.heap.size ≤ i ∧ i < w.heap.size + 2) (fun i hi => by omega)
  have hU2 := hU.trans ((upd_five (w1.setCell ⟨w.heap.size, 4, none⟩ (.slice a1 z1.length c1)) (w.heap.size + 1) (.int .i64 o) (.int .i64 p) (.int .i64 f) (.int .i64 l) (.slice a1 z1.length c1)).mono (fun i hi => by omega))
  refine bodyPost_ret_by (results_cell rfl _ _ _ _ rfl (load_Rq (w.heap.size + 1) o p f l (.slice a1 z1.length c1) _ ((HX.out.2.1.upd (upd_one w1 w.heap.size 4 (.slice a1 z1.length c1)) (by omega)).set5 _ _ _ _ _) rfl)) rfl ⟨_, rfl, ?_, UpdS.new HX.out.2.2 hU2 (fun i hi => hi.1)⟩
  exact (Own.upd HO.out hU2 (fun i hi => hi.2)).base (by omega)

/-- what odd's boxes are, in a world -/
def OddW (g r : Rq) (a : Option Addr) (n c : Nat) (a2 : Option Addr) (n2 c2 : Nat) (w w' : World) : Prop :=
  VarAt w' w.heap.size [.int .i64 g.o, .int .i64 g.p, .int .i64 g.f, .int .i64 g.l, .slice a n c] ∧ VarAt w' (w.heap.size + 1) [.int .i64 r.o, .int .i64 r.p, .int .i64 r.f, .int .i64 r.l, .slice a2 n2 c2] ∧ VarAt w' (w.heap.size + 2) [.int .i64 0, .int .i64 0, .int .i64 0, .int .i64 0, .slice none 0 0] ∧ Grow w w' ∧ w.heap.size + 3 ≤ w'.heap.size
theorem oddW_start (g r : Rq) (a : Option Addr) (n c : Nat) (a2 : Option Addr) (n2 c2 : Nat) (w : World) : OddW g r a n c a2 n2 c2 w (((w.alloc (.cells #[.int .i64 g.o, .int .i64 g.p, .int .i64 g.f, .int .i64 g.l, .slice a n c] 24)).alloc (.cells #[.int .i64 r.o, .int .i64 r.p, .int .i64 r.f, .int .i64 r.l, .slice a2 n2 c2] 24)).alloc (.cells #[.int .i64 0, .int .i64 0, .int .i64 0, .int .i64 0, .slice none 0 0] 24)) :=
  ⟨((VarAt.new w _ _).old _).old _, (VarAt.new2 w _ _ _).old _, VarAt.new3 w _ _ _ _, (((Grow.refl w).alloc _).alloc _).alloc _, by simp⟩

set_option maxRecDepth 8000 in
set_option maxHeartbeats 8000000 in
theorem odd_any (w : World) (g r : Rq) (a : Option Addr) (n c : Nat) (a2 : Option Addr) (n2 c2 : Nat) (B B2 : Nat) (wh : Int) (hg : Rd .u8 B w (.slice a n c) g.z) (hr : Rd .u8 B2 w (.slice a2 n2 c2) r.z) (hwh : (Lit.int .i64 wh).wf = true) :
    Calls Tryd.prog 11 #[.agg #[.int .i64 g.o, .int .i64 g.p, .int .i64 g.f, .int .i64 g.l, .slice a n c], .agg #[.int .i64 r.o, .int .i64 r.p, .int .i64 r.f, .int .i64 r.l, .slice a2 n2 c2], .int .i64 wh] w fun e w' => ∃ v, e = .returned (.agg #[.int .i64 (oddQ g r (around wh 5)).o, .int .i64 (oddQ g r (around wh 5)).p, .int .i64 (oddQ g r (around wh 5)).f, .int .i64 (oddQ g r (around wh 5)).l, v]) ∧ Rd .u8 w'.heap.size w' v (oddQ g r (around wh 5)).z ∧ Grow w w' := by
  have har : Calls Tryd.prog 8 #[.int .i64 wh, .int .i64 5] (((w.alloc (.cells #[.int .i64 g.o, .int .i64 g.p, .int .i64 g.f, .int .i64 g.l, .slice a n c] 24)).alloc (.cells #[.int .i64 r.o, .int .i64 r.p, .int .i64 r.f, .int .i64 r.l, .slice a2 n2 c2] 24)).alloc (.cells #[.int .i64 0, .int .i64 0, .int .i64 0, .int .i64 0, .slice none 0 0] 24)) fun e w' => e = .returned (.int .i64 (around wh 5)) ∧ OddW g r a n c a2 n2 c2 w w' := (around_any wh 5 _ hwh (by omega) (by omega)).mono (by rintro e w' ⟨rfl, rfl⟩; exact ⟨rfl, oddW_start g r a n c a2 n2 c2 w⟩)
  have hb := around_bd wh 5 (by omega)
  have HR : Hid (Rd .u8 w.heap.size w (.slice a n c) g.z ∧ Rd .u8 w.heap.size w (.slice a2 n2 c2) r.z) := ⟨Rd.size hg, Rd.size hr⟩
  generalize around wh 5 = j at *
  clear hg hr
  rcases (show j = 0 ∨ j = 1 ∨ j = 2 ∨ j = 3 ∨ j = 4 by omega) with rfl | rfl | rfl | rfl | rfl
  · have HQ : oddQ g r 0 = ⟨r.o, g.p, g.f, g.l, g.z⟩ := rfl
    rw [HQ]
    dsimp only
    clear HQ hb
    go_enter Tryd.func11, Tryd.ntmps11
    go_wp2_with fail
    refine har.mono ?_
    rintro e w1 ⟨rfl, hX⟩
    have HX : Hid (OddW g r a n c a2 n2 c2 w w1) := hX
    clear har hX
    obtain ⟨⟨c0, c1, c2', c3, c4⟩, f0, f1, f2, f3, f4⟩ := HX.out.1.five
    obtain ⟨⟨e0, e1, e2, e3, e4⟩, -⟩ := HX.out.2.1.five
    obtain ⟨⟨d0, d1, d2, d3, d4⟩, k0, k1, k2, k3, k4⟩ := HX.out.2.2.1.five
    go_wp2
    have hU := (upd_one w1 w.heap.size 0 (.int .i64 r.o)).mono (S' := fun i => w.heap.size ≤ i ∧ i < w.heap.size + 3) (fun i hi => by omega)
    have hU2 := hU.trans ((upd_five (w1.setCell ⟨w.heap.size, 0, none⟩ (.int .i64 r.o)) (w.heap.size + 2) (.int .i64 r.o) (.int .i64 g.p) (.int .i64 g.f) (.int .i64 g.l) (.slice a n c)).mono (fun i hi => by omega))
    have hG := UpdS.new HX.out.2.2.2.1 hU2 (fun i hi => hi.1)
    refine bodyPost_ret_by (results_cell rfl _ _ _ _ rfl (load_Rq (w.heap.size + 2) r.o g.p g.f g.l (.slice a n c) _ ((HX.out.2.2.1.upd (upd_one w1 w.heap.size 0 (.int .i64 r.o)) (by omega)).set5 _ _ _ _ _) rfl)) rfl ⟨_, rfl, ?_, hG⟩
    exact Rd.mono (HR.out.1.below hG) hG.size
  · have HQ : oddQ g r 1 = ⟨g.o, r.p, g.f, g.l, g.z⟩ := rfl
    rw [HQ]
    dsimp only
    clear HQ hb
    go_enter Tryd.func11, Tryd.ntmps11
    go_wp2_with fail
    refine har.mono ?_
    rintro e w1 ⟨rfl, hX⟩
    have HX : Hid (OddW g r a n c a2 n2 c2 w w1) := hX
    clear har hX
    obtain ⟨⟨c0, c1, c2', c3, c4⟩, f0, f1, f2, f3, f4⟩ := HX.out.1.five
    obtain ⟨⟨e0, e1, e2, e3, e4⟩, -⟩ := HX.out.2.1.five
    obtain ⟨⟨d0, d1, d2, d3, d4⟩, k0, k1, k2, k3, k4⟩ := HX.out.2.2.1.five
    go_wp2
    have hU := (upd_one w1 w.heap.size 1 (.int .i64 r.p)).mono (S' := fun i => w.heap.size ≤ i ∧ i < w.heap.size + 3) (fun i hi => by omega)
    have hU2 := hU.trans ((upd_five (w1.setCell ⟨w.heap.size, 1, none⟩ (.int .i64 r.p)) (w.heap.size + 2) (.int .i64 g.o) (.int .i64 r.p) (.int .i64 g.f) (.int .i64 g.l) (.slice a n c)).mono (fun i hi => by omega))
    have hG := UpdS.new HX.out.2.2.2.1 hU2 (fun i hi => hi.1)
    refine bodyPost_ret_by (results_cell rfl _ _ _ _ rfl (load_Rq (w.heap.size + 2) g.o r.p g.f g.l (.slice a n c) _ ((HX.out.2.2.1.upd (upd_one w1 w.heap.size 1 (.int .i64 r.p)) (by omega)).set5 _ _ _ _ _) rfl)) rfl ⟨_, rfl, ?_, hG⟩
    exact Rd.mono (HR.out.1.below hG) hG.size
  · have HQ : oddQ g r 2 = ⟨g.o, g.p, r.f, g.l, g.z⟩ := rfl
    rw [HQ]
    dsimp only
    clear HQ hb
    go_enter Tryd.func11, Tryd.ntmps11
    go_wp2_with fail
    refine har.mono ?_
    rintro e w1 ⟨rfl, hX⟩
    have HX : Hid (OddW g r a n c a2 n2 c2 w w1) := hX
    clear har hX
    obtain ⟨⟨c0, c1, c2', c3, c4⟩, f0, f1, f2, f3, f4⟩ := HX.out.1.five
    obtain ⟨⟨e0, e1, e2, e3, e4⟩, -⟩ := HX.out.2.1.five
    obtain ⟨⟨d0, d1, d2, d3, d4⟩, k0, k1, k2, k3, k4⟩ := HX.out.2.2.1.five
    go_wp2
    have hU := (upd_one w1 w.heap.size 2 (.int .i64 r.f)).mono (S' := fun i => w.heap.size ≤ i ∧ i < w.heap.size + 3) (fun i hi => by omega)
    have hU2 := hU.trans ((upd_five (w1.setCell ⟨w.heap.size, 2, none⟩ (.int .i64 r.f)) (w.heap.size + 2) (.int .i64 g.o) (.int .i64 g.p) (.int .i64 r.f) (.int .i64 g.l) (.slice a n c)).mono (fun i hi => by omega))
    have hG := UpdS.new HX.out.2.2.2.1 hU2 (fun i hi => hi.1)
    refine bodyPost_ret_by (results_cell rfl _ _ _ _ rfl (load_Rq (w.heap.size + 2) g.o g.p r.f g.l (.slice a n c) _ ((HX.out.2.2.1.upd (upd_one w1 w.heap.size 2 (.int .i64 r.f)) (by omega)).set5 _ _ _ _ _) rfl)) rfl ⟨_, rfl, ?_, hG⟩
    exact Rd.mono (HR.out.1.below hG) hG.size
  · have HQ : oddQ g r 3 = ⟨g.o, g.p, g.f, r.l, g.z⟩ := rfl
    rw [HQ]
    dsimp only
    clear HQ hb
    go_enter Tryd.func11, Tryd.ntmps11
    go_wp2_with fail
    refine har.mono ?_
    rintro e w1 ⟨rfl, hX⟩
    have HX : Hid (OddW g r a n c a2 n2 c2 w w1) := hX
    clear har hX
    obtain ⟨⟨c0, c1, c2', c3, c4⟩, f0, f1, f2, f3, f4⟩ := HX.out.1.five
    obtain ⟨⟨e0, e1, e2, e3, e4⟩, -⟩ := HX.out.2.1.five
    obtain ⟨⟨d0, d1, d2, d3, d4⟩, k0, k1, k2, k3, k4⟩ := HX.out.2.2.1.five
    go_wp2
    have hU := (upd_one w1 w.heap.size 3 (.int .i64 r.l)).mono (S' := fun i => w.heap.size ≤ i ∧ i < w.heap.size + 3) (fun i hi => by omega)
    have hU2 := hU.trans ((upd_five (w1.setCell ⟨w.heap.size, 3, none⟩ (.int .i64 r.l)) (w.heap.size + 2) (.int .i64 g.o) (.int .i64 g.p) (.int .i64 g.f) (.int .i64 r.l) (.slice a n c)).mono (fun i hi => by omega))
    have hG := UpdS.new HX.out.2.2.2.1 hU2 (fun i hi => hi.1)
    refine bodyPost_ret_by (results_cell rfl _ _ _ _ rfl (load_Rq (w.heap.size + 2) g.o g.p g.f r.l (.slice a n c) _ ((HX.out.2.2.1.upd (upd_one w1 w.heap.size 3 (.int .i64 r.l)) (by omega)).set5 _ _ _ _ _) rfl)) rfl ⟨_, rfl, ?_, hG⟩
    exact Rd.mono (HR.out.1.below hG) hG.size
  · have HQ : oddQ g r 4 = ⟨g.o, g.p, g.f, g.l, (r.z.take 34)⟩ := rfl
    rw [HQ]
    dsimp only
    clear HQ hb
    have hcl := fun W (hW : Rd .u8 w.heap.size W (.slice a2 n2 c2) r.z) => fewB_any (.slice a2 n2 c2) r.z 34 34 _ W rfl hW (by omega)
    generalize r.z.take 34 = z1 at hcl ⊢
    go_enter Tryd.func11, Tryd.ntmps11
    go_wp2_with fail
    refine har.mono ?_
    rintro e w1 ⟨rfl, hX⟩
    have HX : Hid (OddW g r a n c a2 n2 c2 w w1) := hX
    clear har hX
    obtain ⟨⟨c0, c1, c2', c3, c4⟩, f0, f1, f2, f3, f4⟩ := HX.out.1.five
    obtain ⟨⟨e0, e1, e2, e3, e4⟩, -⟩ := HX.out.2.1.five
    obtain ⟨⟨d0, d1, d2, d3, d4⟩, k0, k1, k2, k3, k4⟩ := HX.out.2.2.1.five
    have hcl1 := hcl w1 (HR.out.2.below HX.out.2.2.2.1)
    clear hcl
    clear c0 c1 c2' c3 c4 f0 f1 f2 f3 f4 d0 d1 d2 d3 d4 k0 k1 k2 k3 k4
    go_wp2_with fail
    refine hcl1.mono ?_
    rintro e w2 ⟨v1, rfl, ho1, g1⟩
    obtain ⟨a1, cp1, rfl⟩ := ho1.shape
    have HO : Hid (Own .u8 (w.heap.size + 3) w2 (.slice a1 z1.length cp1) z1) := ho1.base HX.out.2.2.2.2
    have HY : Hid (VarAt w2 w.heap.size [.int .i64 g.o, .int .i64 g.p, .int .i64 g.f, .int .i64 g.l, .slice a n c] ∧ VarAt w2 (w.heap.size + 2) [.int .i64 0, .int .i64 0, .int .i64 0, .int .i64 0, .slice none 0 0] ∧ Grow w w2) := ⟨HX.out.1.grow g1, HX.out.2.2.1.grow g1, HX.out.2.2.2.1.trans g1⟩
    clear hcl1 ho1 g1 HX e0 e1 e2 e3 e4
    obtain ⟨⟨c0, c1, c2', c3, c4⟩, f0, f1, f2, f3, f4⟩ := HY.out.1.five
    obtain ⟨⟨d0, d1, d2, d3, d4⟩, k0, k1, k2, k3, k4⟩ := HY.out.2.1.five
    go_wp2
    have hU := (upd_one w2 w.heap.size 4 (.slice a1 z1.length cp1)).mono (S' := fun i => w.heap.size ≤ i ∧ i < w.heap.size + 3) (fun i hi => by omega)
    have hU2 := hU.trans ((upd_five (w2.setCell ⟨w.heap.size, 4, none⟩ (.slice a1 z1.length cp1)) (w.heap.size + 2) (.int .i64 g.o) (.int .i64 g.p) (.int .i64 g.f) (.int .i64 g.l) (.slice a1 z1.length cp1)).mono (fun i hi => by omega))
    refine bodyPost_ret_by (results_cell rfl _ _ _ _ rfl (load_Rq (w.heap.size + 2) g.o g.p g.f g.l (.slice a1 z1.length cp1) _ ((HY.out.2.1.upd (upd_one w2 w.heap.size 4 (.slice a1 z1.length cp1)) (by omega)).set5 _ _ _ _ _) rfl)) rfl ⟨_, rfl, ?_, UpdS.new HY.out.2.2 hU2 (fun i hi => hi.1)⟩
    exact Rd.size (Own.rd (Own.upd HO.out hU2 (fun i hi => hi.2)))
end Go.Proofs.YtdafamocnjfmjaaDoor
