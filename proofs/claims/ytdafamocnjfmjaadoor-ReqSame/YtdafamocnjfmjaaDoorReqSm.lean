/-
  The walks of Same, of the document's Same, of Clone, of the document's Few. Conditions: each theorem's own.
-/
import Derived.Test.YtdafamocnjfmjaaDoorReqV
import Derived.Test.YtdafamocnjfmjaaDoorLayReader
namespace Go.Proofs.YtdafamocnjfmjaaDoor
open Go.RowKit
set_option linter.unusedVariables false
set_option linter.unusedSimpArgs false

/-- are two the same, field by field -/
def smE (o p f l : Int) (z : List Int) (o' p' f' l' : Int) (z' : List Int) : Bool := decide (o = o' ∧ p = p' ∧ f = f' ∧ l = l' ∧ z = z')
theorem smE_yes {o p f l : Int} {z : List Int} {o' p' f' l' : Int} {z' : List Int} (h : o = o' ∧ p = p' ∧ f = f' ∧ l = l') : smE o p f l z o' p' f' l' z' = decide (z = z') := decide_eq_decide.2 ⟨fun ⟨_, _, _, _, e⟩ => e, fun e => ⟨h.1, h.2.1, h.2.2.1, h.2.2.2, e⟩⟩
theorem smE_no {o p f l : Int} {z : List Int} {o' p' f' l' : Int} {z' : List Int} (h : ¬ (o = o' ∧ p = p' ∧ f = f' ∧ l = l')) : smE o p f l z o' p' f' l' z' = false := decide_eq_false (fun ⟨a, b, c, d, _⟩ => h ⟨a, b, c, d⟩)
theorem smE_self (o p f l : Int) (z : List Int) : smE o p f l z o p f l z = true := by simp [smE]

set_option maxRecDepth 8000 in
set_option maxHeartbeats 4000000 in
theorem same_any (w : World) (o p f l o' p' f' l' : Int) (a a' : Option Addr) (n n' c c' : Nat) (z z' : List Int) (B B' : Nat) (h : Rd .u8 B w (.slice a n c) z) (h' : Rd .u8 B' w (.slice a' n' c') z') (hz : Oct z) (hz' : Oct z') :
    Calls Tryd.prog 23 #[.agg #[.int .i64 o, .int .i64 p, .int .i64 f, .int .i64 l, .slice a n c], .agg #[.int .i64 o', .int .i64 p', .int .i64 f', .int .i64 l', .slice a' n' c']] w fun e w' => e = .returned (.bool (smE o p f l z o' p' f' l' z')) ∧ Grow w w' := by
  have HG : Hid (∀ x y, Grow w ((w.alloc x).alloc y)) := fun x y => ((Grow.refl w).alloc x).alloc y
  by_cases e0 : o = o'
  · by_cases e1 : p = p'
    · by_cases e2 : f = f'
      · by_cases e3 : l = l'
        · have HE : Hid (smE o p f l z o' p' f' l' z' = decide (z = z')) := smE_yes ⟨e0, e1, e2, e3⟩
          subst e0 e1 e2 e3
          have hq := equal_any (.slice a n c) (.slice a' n' c') z z' _ _ _ ((Rd.size h).below (HG.out (.cells #[.int .i64 o, .int .i64 p, .int .i64 f, .int .i64 l, .slice a n c] 24) (.cells #[.int .i64 o, .int .i64 p, .int .i64 f, .int .i64 l, .slice a' n' c'] 24))) ((Rd.size h').below (HG.out (.cells #[.int .i64 o, .int .i64 p, .int .i64 f, .int .i64 l, .slice a n c] 24) (.cells #[.int .i64 o, .int .i64 p, .int .i64 f, .int .i64 l, .slice a' n' c'] 24))) hz hz'
          generalize decide (z = z') = q at hq HE
          clear h h'
          go_enter Tryd.func23, Tryd.ntmps23
          go_wp2_with fail
          refine hq.mono ?_
          rintro e w1 ⟨rfl, rfl⟩
          clear hq
          go_wp2
          go_ret
          exact ⟨ret_bool HE.out.symm, HG.out _ _⟩
        · have HE : Hid (smE o p f l z o' p' f' l' z' = false) := smE_no (fun h => e3 h.2.2.2)
          have b3 : (l == l') = false := beq_eq_false_iff_ne.2 e3
          subst e0 e1 e2
          clear h h' e3
          go_enter Tryd.func23, Tryd.ntmps23
          go_wp2
          go_ret
          exact ⟨ret_bool HE.out.symm, HG.out _ _⟩
      · have HE : Hid (smE o p f l z o' p' f' l' z' = false) := smE_no (fun h => e2 h.2.2.1)
        have b3 : (f == f') = false := beq_eq_false_iff_ne.2 e2
        subst e0 e1
        clear h h' e2
        go_enter Tryd.func23, Tryd.ntmps23
        go_wp2
        go_ret
        exact ⟨ret_bool HE.out.symm, HG.out _ _⟩
    · have HE : Hid (smE o p f l z o' p' f' l' z' = false) := smE_no (fun h => e1 h.2.1)
      have b3 : (p == p') = false := beq_eq_false_iff_ne.2 e1
      subst e0
      clear h h' e1
      go_enter Tryd.func23, Tryd.ntmps23
      go_wp2
      go_ret
      exact ⟨ret_bool HE.out.symm, HG.out _ _⟩
  · have HE : Hid (smE o p f l z o' p' f' l' z' = false) := smE_no (fun h => e0 h.1)
    have b3 : (o == o') = false := beq_eq_false_iff_ne.2 e0
    clear h h' e0
    go_enter Tryd.func23, Tryd.ntmps23
    go_wp2
    go_ret
    exact ⟨ret_bool HE.out.symm, HG.out _ _⟩

set_option maxRecDepth 8000 in
set_option maxHeartbeats 4000000 in
theorem rsame_any (w : World) (o p f l o' p' f' l' : Int) (a a' : Option Addr) (n n' c c' : Nat) (z z' : List Int) (B B' : Nat) (h : Rd .u8 B w (.slice a n c) z) (h' : Rd .u8 B' w (.slice a' n' c') z') (hz : Oct z) (hz' : Oct z') :
    Calls Tryd.prog 21 #[.agg #[.int .i64 o, .int .i64 p, .int .i64 f, .int .i64 l, .slice a n c], .agg #[.int .i64 o', .int .i64 p', .int .i64 f', .int .i64 l', .slice a' n' c']] w fun e w' => e = .returned (.bool (smE o p f l z o' p' f' l' z')) ∧ Grow w w' := by
  have HG : Hid (∀ x y, Grow w ((w.alloc x).alloc y)) := fun x y => ((Grow.refl w).alloc x).alloc y
  by_cases e0 : o = o'
  · by_cases e1 : p = p'
    · by_cases e2 : f = f'
      · by_cases e3 : l = l'
        · have HE : Hid (smE o p f l z o' p' f' l' z' = decide (z = z')) := smE_yes ⟨e0, e1, e2, e3⟩
          subst e0 e1 e2 e3
          have hq1 := ((Rd.size h).below (HG.out (.cells #[.int .i64 o, .int .i64 p, .int .i64 f, .int .i64 l, .slice a n c] 24) (.cells #[.int .i64 o, .int .i64 p, .int .i64 f, .int .i64 l, .slice a' n' c'] 24))).string (P := Tryd.prog) 22 9 5 Tryd.underlying22 Tryd.underlying5 Tryd.underlying9
          have hq2 := ((Rd.size h').below (HG.out (.cells #[.int .i64 o, .int .i64 p, .int .i64 f, .int .i64 l, .slice a n c] 24) (.cells #[.int .i64 o, .int .i64 p, .int .i64 f, .int .i64 l, .slice a' n' c'] 24))).string (P := Tryd.prog) 22 9 5 Tryd.underlying22 Tryd.underlying5 Tryd.underlying9
          have hqb := str_beq hz hz'
          generalize decide (z = z') = q at hqb HE
          generalize strOfNums z = s1 at hq1 hqb
          generalize strOfNums z' = s2 at hq2 hqb
          clear h h' hz hz'
          go_enter Tryd.func21, Tryd.ntmps21
          go_wp2
          go_ret
          exact ⟨ret_bool HE.out.symm, HG.out _ _⟩
        · have HE : Hid (smE o p f l z o' p' f' l' z' = false) := smE_no (fun h => e3 h.2.2.2)
          have b3 : (l == l') = false := beq_eq_false_iff_ne.2 e3
          subst e0 e1 e2
          clear h h' e3
          go_enter Tryd.func21, Tryd.ntmps21
          go_wp2
          go_ret
          exact ⟨ret_bool HE.out.symm, HG.out _ _⟩
      · have HE : Hid (smE o p f l z o' p' f' l' z' = false) := smE_no (fun h => e2 h.2.2.1)
        have b3 : (f == f') = false := beq_eq_false_iff_ne.2 e2
        subst e0 e1
        clear h h' e2
        go_enter Tryd.func21, Tryd.ntmps21
        go_wp2
        go_ret
        exact ⟨ret_bool HE.out.symm, HG.out _ _⟩
    · have HE : Hid (smE o p f l z o' p' f' l' z' = false) := smE_no (fun h => e1 h.2.1)
      have b3 : (p == p') = false := beq_eq_false_iff_ne.2 e1
      subst e0
      clear h h' e1
      go_enter Tryd.func21, Tryd.ntmps21
      go_wp2
      go_ret
      exact ⟨ret_bool HE.out.symm, HG.out _ _⟩
  · have HE : Hid (smE o p f l z o' p' f' l' z' = false) := smE_no (fun h => e0 h.1)
    have b3 : (o == o') = false := beq_eq_false_iff_ne.2 e0
    clear h h' e0
    go_enter Tryd.func21, Tryd.ntmps21
    go_wp2
    go_ret
    exact ⟨ret_bool HE.out.symm, HG.out _ _⟩

set_option maxRecDepth 8000 in
set_option maxHeartbeats 4000000 in
theorem rclone_any (w : World) (o p f l : Int) (a : Option Addr) (n c : Nat) (z : List Int) (B : Nat) (h : Rd .u8 B w (.slice a n c) z) (hl : z.length ≤ 1000000) :
    Calls Tryd.prog 24 #[.agg #[.int .i64 o, .int .i64 p, .int .i64 f, .int .i64 l, .slice a n c]] w fun e w' => ∃ v, e = .returned (.agg #[.int .i64 o, .int .i64 p, .int .i64 f, .int .i64 l, v]) ∧ Own .u8 w.heap.size w' v z ∧ Grow w w' := by
  have g1 : Grow w ((w.alloc (.cells #[.int .i64 o, .int .i64 p, .int .i64 f, .int .i64 l, .slice a n c] 24)).alloc (.cells #[.int .i64 0, .int .i64 0, .int .i64 0, .int .i64 0, .slice none 0 0] 24)) := ((Grow.refl w).alloc _).alloc _
  have HV : Hid (VarAt ((w.alloc (.cells #[.int .i64 o, .int .i64 p, .int .i64 f, .int .i64 l, .slice a n c] 24)).alloc (.cells #[.int .i64 0, .int .i64 0, .int .i64 0, .int .i64 0, .slice none 0 0] 24)) w.heap.size [.int .i64 o, .int .i64 p, .int .i64 f, .int .i64 l, .slice a n c] ∧ VarAt ((w.alloc (.cells #[.int .i64 o, .int .i64 p, .int .i64 f, .int .i64 l, .slice a n c] 24)).alloc (.cells #[.int .i64 0, .int .i64 0, .int .i64 0, .int .i64 0, .slice none 0 0] 24)) (w.heap.size + 1) [.int .i64 0, .int .i64 0, .int .i64 0, .int .i64 0, .slice none 0 0] ∧ Grow w ((w.alloc (.cells #[.int .i64 o, .int .i64 p, .int .i64 f, .int .i64 l, .slice a n c] 24)).alloc (.cells #[.int .i64 0, .int .i64 0, .int .i64 0, .int .i64 0, .slice none 0 0] 24)) ∧ w.heap.size + 2 = ((w.alloc (.cells #[.int .i64 o, .int .i64 p, .int .i64 f, .int .i64 l, .slice a n c] 24)).alloc (.cells #[.int .i64 0, .int .i64 0, .int .i64 0, .int .i64 0, .slice none 0 0] 24)).heap.size) :=
    ⟨(VarAt.new w _ _).old _, VarAt.new2 w _ _ _, g1, by simp⟩
  have hcl := clone_any (.slice a n c) z _ _ ((Rd.size h).below g1) hl
  clear g1 h
  go_enter Tryd.func24, Tryd.ntmps24
  go_wp2_with fail
  refine hcl.mono ?_
  rintro e w1 ⟨v1, rfl, ho1, g1⟩
  obtain ⟨a1, c1, rfl⟩ := ho1.shape
  have HO : Hid (Own .u8 (w.heap.size + 2) w1 (.slice a1 z.length c1) z) := by rw [← HV.out.2.2.2] at ho1; exact ho1
  have HX : Hid (VarAt w1 w.heap.size [.int .i64 o, .int .i64 p, .int .i64 f, .int .i64 l, .slice a n c] ∧ VarAt w1 (w.heap.size + 1) [.int .i64 0, .int .i64 0, .int .i64 0, .int .i64 0, .slice none 0 0] ∧ Grow w w1) := ⟨HV.out.1.grow g1, HV.out.2.1.grow g1, HV.out.2.2.1.trans g1⟩
  clear hcl ho1 g1 HV
  obtain ⟨⟨c0, c1', c2, c3, c4⟩, f0, f1, f2, f3, f4⟩ := HX.out.1.five
  obtain ⟨⟨d0, d1, d2, d3, d4⟩, k0, k1, k2, k3, k4⟩ := HX.out.2.1.five
  go_wp2
  have hU := (upd_one w1 w.heap.size 4 (.slice a1 z.length c1)).mono (S' := fun i => w.heap.size ≤ i ∧ i < w.heap.size + 2) (fun i hi => by omega)
  have hU2 := hU.trans ((upd_five (w1.setCell ⟨w.heap.size, 4, none⟩ (.slice a1 z.length c1)) (w.heap.size + 1) (.int .i64 o) (.int .i64 p) (.int .i64 f) (.int .i64 l) (.slice a1 z.length c1)).mono (fun i hi => by omega))
  refine bodyPost_ret_by (results_cell rfl _ _ _ _ rfl (load_Rq (w.heap.size + 1) o p f l (.slice a1 z.length c1) _ ((HX.out.2.1.upd (upd_one w1 w.heap.size 4 (.slice a1 z.length c1)) (by omega)).set5 _ _ _ _ _) rfl)) rfl ⟨_, rfl, ?_, UpdS.new HX.out.2.2 hU2 (fun i hi => hi.1)⟩
  exact (Own.upd HO.out hU2 (fun i hi => hi.2)).base (by omega)
end Go.Proofs.YtdafamocnjfmjaaDoor
