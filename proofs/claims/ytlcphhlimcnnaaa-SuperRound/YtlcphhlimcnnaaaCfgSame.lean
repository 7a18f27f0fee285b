/-
  The walks of Same, and of the document's. Conditions: each theorem's own.
-/
import Derived.Test.YtlcphhlimcnnaaaCfgFew
namespace Go.Proofs.Ytlcphhlimcnnaaa
open Go.RowKit
set_option linter.unusedVariables false
set_option linter.unusedSimpArgs false

theorem two_boxes {w : World} {f1 d1 s1 f2 d2 s2 : Int} {v1 v2 : Value} : VarAt ((w.alloc (.cells #[.int .i64 f1, .int .i64 d1, .int .i64 s1, v1] 24)).alloc (.cells #[.int .i64 f2, .int .i64 d2, .int .i64 s2, v2] 24)) w.heap.size [.int .i64 f1, .int .i64 d1, .int .i64 s1, v1] ∧ VarAt ((w.alloc (.cells #[.int .i64 f1, .int .i64 d1, .int .i64 s1, v1] 24)).alloc (.cells #[.int .i64 f2, .int .i64 d2, .int .i64 s2, v2] 24)) (w.heap.size + 1) [.int .i64 f2, .int .i64 d2, .int .i64 s2, v2] ∧ Grow w ((w.alloc (.cells #[.int .i64 f1, .int .i64 d1, .int .i64 s1, v1] 24)).alloc (.cells #[.int .i64 f2, .int .i64 d2, .int .i64 s2, v2] 24)) := by
  refine ⟨(VarAt.new w [.int .i64 f1, .int .i64 d1, .int .i64 s1, v1] _).grow ((Grow.refl _).alloc _), ?_, ((Grow.refl w).alloc _).alloc _⟩
  have := VarAt.new (w.alloc (.cells #[.int .i64 f1, .int .i64 d1, .int .i64 s1, v1] 24)) [.int .i64 f2, .int .i64 d2, .int .i64 s2, v2] 24
  rw [World.size_alloc] at this
  exact this
theorem sameG_no {f1 d1 s1 : Int} {ps : List Pt} {f2 d2 s2 : Int} {qs : List Pt} (h : ¬ (f1 = f2 ∧ d1 = d2 ∧ s1 = s2 ∧ ps.length = qs.length)) : sameG f1 d1 s1 ps f2 d2 s2 qs = false := by
  cases hs : sameG f1 d1 s1 ps f2 d2 s2 qs with
  | false => rfl
  | true =>
    simp only [sameG, Bool.and_eq_true, beq_iff_eq] at hs
    exact absurd ⟨hs.1.1.1.1, hs.1.1.1.2, hs.1.1.2, hs.1.2⟩ h
theorem sameG_all {f1 d1 s1 : Int} {ps : List Pt} {f2 d2 s2 : Int} {qs : List Pt} (h : f1 = f2 ∧ d1 = d2 ∧ s1 = s2 ∧ ps.length = qs.length) : sameG f1 d1 s1 ps f2 d2 s2 qs = allEq ps qs := by
  obtain ⟨rfl, rfl, rfl, h⟩ := h
  simp [sameG, h]

set_option maxHeartbeats 4000000 in
theorem csame_any_no {p p2 : Nat → Prop} (f1 d1 s1 : Int) (v1 : Value) (ps : List Pt) (f2 d2 s2 : Int) (v2 : Value) (qs : List Pt) (w : World) (h : RdP p w v1 ps) (h' : RdP p2 w v2 qs) (hne : ¬ (f1 = f2 ∧ d1 = d2 ∧ s1 = s2 ∧ ps.length = qs.length)) :
    Calls Try.prog 37 #[.agg #[.int .i64 f1, .int .i64 d1, .int .i64 s1, v1], .agg #[.int .i64 f2, .int .i64 d2, .int .i64 s2, v2]] w fun e w' => e = .returned (.bool (sameG f1 d1 s1 ps f2 d2 s2 qs)) ∧ Grow w w' := by
  have HI : Hid (VarAt ((w.alloc (.cells #[.int .i64 f1, .int .i64 d1, .int .i64 s1, v1] 24)).alloc (.cells #[.int .i64 f2, .int .i64 d2, .int .i64 s2, v2] 24)) w.heap.size [.int .i64 f1, .int .i64 d1, .int .i64 s1, v1] ∧ VarAt ((w.alloc (.cells #[.int .i64 f1, .int .i64 d1, .int .i64 s1, v1] 24)).alloc (.cells #[.int .i64 f2, .int .i64 d2, .int .i64 s2, v2] 24)) (w.heap.size + 1) [.int .i64 f2, .int .i64 d2, .int .i64 s2, v2] ∧ Grow w ((w.alloc (.cells #[.int .i64 f1, .int .i64 d1, .int .i64 s1, v1] 24)).alloc (.cells #[.int .i64 f2, .int .i64 d2, .int .i64 s2, v2] 24))) := two_boxes
  have HR : Hid (RdP p w v1 ps ∧ RdP p2 w v2 qs) := ⟨h, h'⟩
  obtain ⟨a, cp, rfl, h1, h2, -⟩ := h
  obtain ⟨a2, cp2, rfl, h12, h22, -⟩ := h'
  unfold maxLen at h2 h22
  by_cases t0 : f1 = f2
  · by_cases t1 : d1 = d2
    · by_cases t2 : s1 = s2
      · by_cases t3 : ps.length = qs.length
        · exact absurd ⟨t0, t1, t2, t3⟩ hne
        · skip
          have e0 : (f1 == f2) = true := by simp; omega
          have n0 : (f1 != f2) = false := by simp; omega
          have e1 : (d1 == d2) = true := by simp; omega
          have n1 : (d1 != d2) = false := by simp; omega
          have e2 : (s1 == s2) = true := by simp; omega
          have n2 : (s1 != s2) = false := by simp; omega
          have e3 : ((ps.length : Int) == (qs.length : Int)) = false := by simp; omega
          have n3 : ((ps.length : Int) != (qs.length : Int)) = true := by simp; omega
          have HS : Hid (sameG f1 d1 s1 ps f2 d2 s2 qs = false) := sameG_no (by omega)
          clear hne t0 t1 t2 t3
          go_enter Try.func37, Try.ntmps37
          go_wp2
          go_ret
          exact ⟨ret_bool HS.out.symm, HI.out.2.2⟩
      · skip
        have e0 : (f1 == f2) = true := by simp; omega
        have n0 : (f1 != f2) = false := by simp; omega
        have e1 : (d1 == d2) = true := by simp; omega
        have n1 : (d1 != d2) = false := by simp; omega
        have e2 : (s1 == s2) = false := by simp; omega
        have n2 : (s1 != s2) = true := by simp; omega
        have HS : Hid (sameG f1 d1 s1 ps f2 d2 s2 qs = false) := sameG_no (by omega)
        clear hne t0 t1 t2
        go_enter Try.func37, Try.ntmps37
        go_wp2
        go_ret
        exact ⟨ret_bool HS.out.symm, HI.out.2.2⟩
    · skip
      have e0 : (f1 == f2) = true := by simp; omega
      have n0 : (f1 != f2) = false := by simp; omega
      have e1 : (d1 == d2) = false := by simp; omega
      have n1 : (d1 != d2) = true := by simp; omega
      have HS : Hid (sameG f1 d1 s1 ps f2 d2 s2 qs = false) := sameG_no (by omega)
      clear hne t0 t1
      go_enter Try.func37, Try.ntmps37
      go_wp2
      go_ret
      exact ⟨ret_bool HS.out.symm, HI.out.2.2⟩
  · skip
    have e0 : (f1 == f2) = false := by simp; omega
    have n0 : (f1 != f2) = true := by simp; omega
    have HS : Hid (sameG f1 d1 s1 ps f2 d2 s2 qs = false) := sameG_no (by omega)
    clear hne t0
    go_enter Try.func37, Try.ntmps37
    go_wp2
    go_ret
    exact ⟨ret_bool HS.out.symm, HI.out.2.2⟩

set_option maxHeartbeats 4000000 in
theorem csame_any_yes {p p2 : Nat → Prop} (f1 d1 s1 : Int) (v1 : Value) (ps : List Pt) (f2 d2 s2 : Int) (v2 : Value) (qs : List Pt) (w : World) (h : RdP p w v1 ps) (h' : RdP p2 w v2 qs) (heq : f1 = f2 ∧ d1 = d2 ∧ s1 = s2 ∧ ps.length = qs.length) :
    Calls Try.prog 37 #[.agg #[.int .i64 f1, .int .i64 d1, .int .i64 s1, v1], .agg #[.int .i64 f2, .int .i64 d2, .int .i64 s2, v2]] w fun e w' => e = .returned (.bool (sameG f1 d1 s1 ps f2 d2 s2 qs)) ∧ Grow w w' := by
  have HI : Hid (VarAt ((w.alloc (.cells #[.int .i64 f1, .int .i64 d1, .int .i64 s1, v1] 24)).alloc (.cells #[.int .i64 f2, .int .i64 d2, .int .i64 s2, v2] 24)) w.heap.size [.int .i64 f1, .int .i64 d1, .int .i64 s1, v1] ∧ VarAt ((w.alloc (.cells #[.int .i64 f1, .int .i64 d1, .int .i64 s1, v1] 24)).alloc (.cells #[.int .i64 f2, .int .i64 d2, .int .i64 s2, v2] 24)) (w.heap.size + 1) [.int .i64 f2, .int .i64 d2, .int .i64 s2, v2] ∧ Grow w ((w.alloc (.cells #[.int .i64 f1, .int .i64 d1, .int .i64 s1, v1] 24)).alloc (.cells #[.int .i64 f2, .int .i64 d2, .int .i64 s2, v2] 24))) := two_boxes
  have HR : Hid (RdP p w v1 ps ∧ RdP p2 w v2 qs) := ⟨h, h'⟩
  obtain ⟨a, cp, rfl, h1, h2, -⟩ := h
  obtain ⟨a2, cp2, rfl, h12, h22, -⟩ := h'
  unfold maxLen at h2 h22
  have e0 : (f1 == f2) = true := by obtain ⟨t0, t1, t2, t3⟩ := heq; simp; omega
  have n0 : (f1 != f2) = false := by obtain ⟨t0, t1, t2, t3⟩ := heq; simp; omega
  have e1 : (d1 == d2) = true := by obtain ⟨t0, t1, t2, t3⟩ := heq; simp; omega
  have n1 : (d1 != d2) = false := by obtain ⟨t0, t1, t2, t3⟩ := heq; simp; omega
  have e2 : (s1 == s2) = true := by obtain ⟨t0, t1, t2, t3⟩ := heq; simp; omega
  have n2 : (s1 != s2) = false := by obtain ⟨t0, t1, t2, t3⟩ := heq; simp; omega
  have e3 : ((ps.length : Int) == (qs.length : Int)) = true := by obtain ⟨t0, t1, t2, t3⟩ := heq; simp; omega
  have n3 : ((ps.length : Int) != (qs.length : Int)) = false := by obtain ⟨t0, t1, t2, t3⟩ := heq; simp; omega
  have HS : Hid (sameG f1 d1 s1 ps f2 d2 s2 qs = allEq ps qs ∧ ps.length = qs.length) := ⟨sameG_all heq, heq.2.2.2⟩
  clear heq
  go_enter Try.func37, Try.ntmps37
  go_wp2
  obtain ⟨b2, hb2⟩ : ∃ b2, b2 = w.heap.size + 1 := ⟨_, rfl⟩
  rw [← hb2] at HI ⊢
  clear hb2
  generalize ((w.alloc (.cells #[.int .i64 f1, .int .i64 d1, .int .i64 s1, .slice a ps.length cp] 24)).alloc (.cells #[.int .i64 f2, .int .i64 d2, .int .i64 s2, .slice a2 qs.length cp2] 24)) = w1 at HI ⊢
  generalize w.heap.size = b1 at HI ⊢
  clear e0 e1 e2 e3 n0 n1 n2 n3
  go_loopg [38] ps.length (fun m iv wr => ∃ j : Nat, m = ps.length - j ∧ j ≤ ps.length ∧ iv = .int .i64 j ∧ Hid (VarAt wr b1 [.int .i64 f1, .int .i64 d1, .int .i64 s1, .slice a ps.length cp] ∧ VarAt wr b2 [.int .i64 f2, .int .i64 d2, .int .i64 s2, .slice a2 qs.length cp2] ∧ Grow w wr ∧ ∀ i, i < j → eqP (ps.getD i Pt.zero) (qs.getD i Pt.zero) = true))
  case atStart => exact ⟨0, by omega, by omega, rfl, HI.out.1, HI.out.2.1, HI.out.2.2, fun i hi => absurd hi (Nat.not_lt_zero _)⟩
  case round =>
    clear HI
    obtain ⟨j, hk, hj, rfl, Y⟩ := hrel
    obtain ⟨⟨m0, m1, m2, m3⟩, -⟩ := Y.out.1.four
    by_cases hlt : j < ps.length
    · have hlq : j < qs.length := by have := HS.out.2; omega
      have hle : (j : Int) < (ps.length : Int) := by omega
      have hle2 : (j : Int) < (qs.length : Int) := by omega
      have HL : Hid (j < ps.length ∧ gk = ps.length - j) := ⟨hlt, hk⟩
      have hw1 : IntKind.i64.wrap ((j : Int) + 1) = (j : Int) + 1 := by rw [IntKind.wrap_i64]; omega
      obtain ⟨bb, oo, rfl, hp1, hbl, hin⟩ := rdP_at HR.out.1 hlt
      obtain ⟨bb2, oo2, rfl, hp2, hbl2, hin2⟩ := rdP_at HR.out.2 hlq
      have HF : Hid ((eqP (ps.getD j Pt.zero) (qs.getD j Pt.zero) = true → eqP (ps.getD j Pt.zero) (qs.getD j Pt.zero) = true) ∧ (eqP (ps.getD j Pt.zero) (qs.getD j Pt.zero) = false → sameG f1 d1 s1 ps f2 d2 s2 qs = false)) := ⟨fun h => h, fun h => by rw [HS.out.1]; exact allEq_no hlt h⟩
      have H1 : Hid (PIn wr bb (oo + j * 3) (ps.getD j Pt.zero) ∧ PIn wr bb2 (oo2 + j * 3) (qs.getD j Pt.zero)) := ⟨hin.grow Y.out.2.2.1, hin2.grow Y.out.2.2.1⟩
      have Y3 : Hid (∀ i, i < j → eqP (ps.getD i Pt.zero) (qs.getD i Pt.zero) = true) := Y.out.2.2.2
      have HEQ : Hid (∀ d x, ps.getD j Pt.zero = d → qs.getD j Pt.zero = x → (eqP d x = true → eqP (ps.getD j Pt.zero) (qs.getD j Pt.zero) = true) ∧ (eqP d x = false → sameG f1 d1 s1 ps f2 d2 s2 qs = false)) := fun d x e1 e2 => by rw [← e1, ← e2]; exact HF.out
      clear hin hin2 hk hj hlt hlq HF
      generalize hd0 : ps.getD j Pt.zero = d at H1
      generalize hx0 : qs.getD j Pt.zero = x at H1
      have HF : Hid ((eqP d x = true → eqP (ps.getD j Pt.zero) (qs.getD j Pt.zero) = true) ∧ (eqP d x = false → sameG f1 d1 s1 ps f2 d2 s2 qs = false)) := HEQ.out d x hd0 hx0
      clear hd0 hx0 HEQ
      have X1 : Hid (VarAt (wr.alloc (.cells #[.int .i64 d.q, .int .i64 d.b, .int .i64 d.g] 57)) b1 [.int .i64 f1, .int .i64 d1, .int .i64 s1, .slice (some ⟨bb, oo, none⟩) ps.length cp] ∧ VarAt (wr.alloc (.cells #[.int .i64 d.q, .int .i64 d.b, .int .i64 d.g] 57)) b2 [.int .i64 f2, .int .i64 d2, .int .i64 s2, .slice (some ⟨bb2, oo2, none⟩) qs.length cp2] ∧ Grow w (wr.alloc (.cells #[.int .i64 d.q, .int .i64 d.b, .int .i64 d.g] 57)) ∧ VarAt (wr.alloc (.cells #[.int .i64 d.q, .int .i64 d.b, .int .i64 d.g] 57)) wr.heap.size [.int .i64 d.q, .int .i64 d.b, .int .i64 d.g] ∧ PIn (wr.alloc (.cells #[.int .i64 d.q, .int .i64 d.b, .int .i64 d.g] 57)) bb2 (oo2 + j * 3) x) := ⟨Y.out.1.grow ((Grow.refl _).alloc _), Y.out.2.1.grow ((Grow.refl _).alloc _), Y.out.2.2.1.alloc _, VarAt.new wr [.int .i64 d.q, .int .i64 d.b, .int .i64 d.g] _, H1.out.2.grow ((Grow.refl _).alloc _)⟩
      obtain ⟨k0, k1, k2⟩ := H1.out.1
      by_cases uq : d.q = x.q
      · by_cases ub : d.b = x.b
        · by_cases ug : d.g = x.g
          · skip
            have eb0 : (d.q == x.q) = true := by simp; omega
            have eb1 : (d.b == x.b) = true := by simp; omega
            have eb2 : (d.g == x.g) = true := by simp; omega
            have HE : Hid (eqP d x = true) := by simp [Hid, eqP, eb0, eb1, eb2]
            clear uq ub ug
            go_wp2
            clear k0 k1 k2 m0 m1 m2 m3
            generalize (wr.alloc (.cells #[.int .i64 d.q, .int .i64 d.b, .int .i64 d.g] 57)) = w2 at X1 ⊢
            generalize wr.heap.size = b6 at X1 ⊢
            have kx : ∀ w', Grow w2.drew w' → VarAt w' b2 [.int .i64 f2, .int .i64 d2, .int .i64 s2, .slice (some ⟨bb2, oo2, none⟩) qs.length cp2] ∧ VarAt w' b6 [.int .i64 d.q, .int .i64 d.b, .int .i64 d.g] ∧ PIn w' bb2 (oo2 + j * 3) x := fun w' h => ⟨X1.out.2.1.grow ((Grow.refl w2).drew.trans h), X1.out.2.2.2.1.grow ((Grow.refl w2).drew.trans h), X1.out.2.2.2.2.grow ((Grow.refl w2).drew.trans h)⟩
            refine wp_region_sched (by kernel_rfl) [(0, false), (1, false), (2, false), (3, false), (4, false), (5, false), (6, false)] (by kernel_rfl) (by kernel_rfl) rfl (fun _ _ d _ _ h => by cases d <;> exact h) ?_
            simp only [inOrder, List.filterMap_cons, List.filterMap_nil, List.getElem?_toArray, List.getElem?_cons_zero, List.getElem?_cons_succ, Option.map_some]
            repeat (first
              | (refine wpS_move rfl ?_; simp only [Act.eval, Act.put, Array.getD_eq_getD_getElem?, List.getElem?_toArray, List.getElem?_cons_zero, List.getElem?_cons_succ, Option.getD_some, List.setIfInBounds_toArray, List.set_cons_zero, List.set_cons_succ])
              | (refine wpS_assign rfl ?_; simp only [Act.eval, Act.put, Array.getD_eq_getD_getElem?, List.getElem?_toArray, List.getElem?_cons_zero, List.getElem?_cons_succ, Option.getD_some, List.setIfInBounds_toArray, List.set_cons_zero, List.set_cons_succ])
              | (refine wpS_read (v := ?_) rfl ?_ ?_; rotate_left; (focus (intro w' hG; obtain ⟨⟨k0, k1, k2, k3⟩, -⟩ := (kx w' hG).1.four; obtain ⟨⟨d0, d1, d2⟩, -⟩ := (kx w' hG).2.1.three; obtain ⟨x0, x1, x2⟩ := (kx w' hG).2.2; go_simp; try (with_reducible rfl))); simp only [Act.put, List.setIfInBounds_toArray, List.set_cons_zero, List.set_cons_succ])
              | (refine wpS_skip rfl ?_; simp only [Act.put, List.setIfInBounds_toArray, List.set_cons_zero, List.set_cons_succ]))
            refine wpS_nil ?_
            go_wp2
            go_roundg (ps.length - (j + 1))
            case measure => have := HL.out; omega
            case rel => exact ⟨j + 1, rfl, HL.out.1, by go_num, X1.out.1.grow (Grow.refl _).drew, X1.out.2.1.grow (Grow.refl _).drew, X1.out.2.2.1.drew, fun i hi => by
              by_cases e : i = j
              · rw [e]; exact HF.out.1 HE.out
              · exact Y3.out i (by omega)⟩
          · skip
            have eb0 : (d.q == x.q) = true := by simp; omega
            have eb1 : (d.b == x.b) = true := by simp; omega
            have eb2 : (d.g == x.g) = false := by simp; omega
            have HE : Hid (eqP d x = false) := by simp [Hid, eqP, eb0, eb1, eb2]
            clear uq ub ug
            go_wp2
            clear k0 k1 k2 m0 m1 m2 m3
            generalize (wr.alloc (.cells #[.int .i64 d.q, .int .i64 d.b, .int .i64 d.g] 57)) = w2 at X1 ⊢
            generalize wr.heap.size = b6 at X1 ⊢
            have kx : ∀ w', Grow w2.drew w' → VarAt w' b2 [.int .i64 f2, .int .i64 d2, .int .i64 s2, .slice (some ⟨bb2, oo2, none⟩) qs.length cp2] ∧ VarAt w' b6 [.int .i64 d.q, .int .i64 d.b, .int .i64 d.g] ∧ PIn w' bb2 (oo2 + j * 3) x := fun w' h => ⟨X1.out.2.1.grow ((Grow.refl w2).drew.trans h), X1.out.2.2.2.1.grow ((Grow.refl w2).drew.trans h), X1.out.2.2.2.2.grow ((Grow.refl w2).drew.trans h)⟩
            refine wp_region_sched (by kernel_rfl) [(0, false), (1, false), (2, false), (3, false), (4, false), (5, false), (6, false)] (by kernel_rfl) (by kernel_rfl) rfl (fun _ _ d _ _ h => by cases d <;> exact h) ?_
            simp only [inOrder, List.filterMap_cons, List.filterMap_nil, List.getElem?_toArray, List.getElem?_cons_zero, List.getElem?_cons_succ, Option.map_some]
            repeat (first
              | (refine wpS_move rfl ?_; simp only [Act.eval, Act.put, Array.getD_eq_getD_getElem?, List.getElem?_toArray, List.getElem?_cons_zero, List.getElem?_cons_succ, Option.getD_some, List.setIfInBounds_toArray, List.set_cons_zero, List.set_cons_succ])
              | (refine wpS_assign rfl ?_; simp only [Act.eval, Act.put, Array.getD_eq_getD_getElem?, List.getElem?_toArray, List.getElem?_cons_zero, List.getElem?_cons_succ, Option.getD_some, List.setIfInBounds_toArray, List.set_cons_zero, List.set_cons_succ])
              | (refine wpS_read (v := ?_) rfl ?_ ?_; rotate_left; (focus (intro w' hG; obtain ⟨⟨k0, k1, k2, k3⟩, -⟩ := (kx w' hG).1.four; obtain ⟨⟨d0, d1, d2⟩, -⟩ := (kx w' hG).2.1.three; obtain ⟨x0, x1, x2⟩ := (kx w' hG).2.2; go_simp; try (with_reducible rfl))); simp only [Act.put, List.setIfInBounds_toArray, List.set_cons_zero, List.set_cons_succ])
              | (refine wpS_skip rfl ?_; simp only [Act.put, List.setIfInBounds_toArray, List.set_cons_zero, List.set_cons_succ]))
            refine wpS_nil ?_
            go_wp2
            try rw [Exit.noGoto_ret]
            go_ret
            exact ⟨ret_bool (HF.out.2 HE.out).symm, X1.out.2.2.1.drew⟩
        · skip
          have eb0 : (d.q == x.q) = true := by simp; omega
          have eb1 : (d.b == x.b) = false := by simp; omega
          have HE : Hid (eqP d x = false) := by simp [Hid, eqP, eb0, eb1]
          clear uq ub
          go_wp2
          clear k0 k1 k2 m0 m1 m2 m3
          generalize (wr.alloc (.cells #[.int .i64 d.q, .int .i64 d.b, .int .i64 d.g] 57)) = w2 at X1 ⊢
          generalize wr.heap.size = b6 at X1 ⊢
          have kx : ∀ w', Grow w2.drew w' → VarAt w' b2 [.int .i64 f2, .int .i64 d2, .int .i64 s2, .slice (some ⟨bb2, oo2, none⟩) qs.length cp2] ∧ VarAt w' b6 [.int .i64 d.q, .int .i64 d.b, .int .i64 d.g] ∧ PIn w' bb2 (oo2 + j * 3) x := fun w' h => ⟨X1.out.2.1.grow ((Grow.refl w2).drew.trans h), X1.out.2.2.2.1.grow ((Grow.refl w2).drew.trans h), X1.out.2.2.2.2.grow ((Grow.refl w2).drew.trans h)⟩
          refine wp_region_sched (by kernel_rfl) [(0, false), (1, false), (2, false), (3, false), (4, false), (5, false), (6, false)] (by kernel_rfl) (by kernel_rfl) rfl (fun _ _ d _ _ h => by cases d <;> exact h) ?_
          simp only [inOrder, List.filterMap_cons, List.filterMap_nil, List.getElem?_toArray, List.getElem?_cons_zero, List.getElem?_cons_succ, Option.map_some]
          repeat (first
            | (refine wpS_move rfl ?_; simp only [Act.eval, Act.put, Array.getD_eq_getD_getElem?, List.getElem?_toArray, List.getElem?_cons_zero, List.getElem?_cons_succ, Option.getD_some, List.setIfInBounds_toArray, List.set_cons_zero, List.set_cons_succ])
            | (refine wpS_assign rfl ?_; simp only [Act.eval, Act.put, Array.getD_eq_getD_getElem?, List.getElem?_toArray, List.getElem?_cons_zero, List.getElem?_cons_succ, Option.getD_some, List.setIfInBounds_toArray, List.set_cons_zero, List.set_cons_succ])
            | (refine wpS_read (v := ?_) rfl ?_ ?_; rotate_left; (focus (intro w' hG; obtain ⟨⟨k0, k1, k2, k3⟩, -⟩ := (kx w' hG).1.four; obtain ⟨⟨d0, d1, d2⟩, -⟩ := (kx w' hG).2.1.three; obtain ⟨x0, x1, x2⟩ := (kx w' hG).2.2; go_simp; try (with_reducible rfl))); simp only [Act.put, List.setIfInBounds_toArray, List.set_cons_zero, List.set_cons_succ])
            | (refine wpS_skip rfl ?_; simp only [Act.put, List.setIfInBounds_toArray, List.set_cons_zero, List.set_cons_succ]))
          refine wpS_nil ?_
          go_wp2
          try rw [Exit.noGoto_ret]
          go_ret
          exact ⟨ret_bool (HF.out.2 HE.out).symm, X1.out.2.2.1.drew⟩
      · skip
        have eb0 : (d.q == x.q) = false := by simp; omega
        have HE : Hid (eqP d x = false) := by simp [Hid, eqP, eb0]
        clear uq
        go_wp2
        clear k0 k1 k2 m0 m1 m2 m3
        generalize (wr.alloc (.cells #[.int .i64 d.q, .int .i64 d.b, .int .i64 d.g] 57)) = w2 at X1 ⊢
        generalize wr.heap.size = b6 at X1 ⊢
        have kx : ∀ w', Grow w2.drew w' → VarAt w' b2 [.int .i64 f2, .int .i64 d2, .int .i64 s2, .slice (some ⟨bb2, oo2, none⟩) qs.length cp2] ∧ VarAt w' b6 [.int .i64 d.q, .int .i64 d.b, .int .i64 d.g] ∧ PIn w' bb2 (oo2 + j * 3) x := fun w' h => ⟨X1.out.2.1.grow ((Grow.refl w2).drew.trans h), X1.out.2.2.2.1.grow ((Grow.refl w2).drew.trans h), X1.out.2.2.2.2.grow ((Grow.refl w2).drew.trans h)⟩
        refine wp_region_sched (by kernel_rfl) [(0, false), (1, false), (2, false), (3, false), (4, false), (5, false), (6, false)] (by kernel_rfl) (by kernel_rfl) rfl (fun _ _ d _ _ h => by cases d <;> exact h) ?_
        simp only [inOrder, List.filterMap_cons, List.filterMap_nil, List.getElem?_toArray, List.getElem?_cons_zero, List.getElem?_cons_succ, Option.map_some]
        repeat (first
          | (refine wpS_move rfl ?_; simp only [Act.eval, Act.put, Array.getD_eq_getD_getElem?, List.getElem?_toArray, List.getElem?_cons_zero, List.getElem?_cons_succ, Option.getD_some, List.setIfInBounds_toArray, List.set_cons_zero, List.set_cons_succ])
          | (refine wpS_assign rfl ?_; simp only [Act.eval, Act.put, Array.getD_eq_getD_getElem?, List.getElem?_toArray, List.getElem?_cons_zero, List.getElem?_cons_succ, Option.getD_some, List.setIfInBounds_toArray, List.set_cons_zero, List.set_cons_succ])
          | (refine wpS_read (v := ?_) rfl ?_ ?_; rotate_left; (focus (intro w' hG; obtain ⟨⟨k0, k1, k2, k3⟩, -⟩ := (kx w' hG).1.four; obtain ⟨⟨d0, d1, d2⟩, -⟩ := (kx w' hG).2.1.three; obtain ⟨x0, x1, x2⟩ := (kx w' hG).2.2; go_simp; try (with_reducible rfl))); simp only [Act.put, List.setIfInBounds_toArray, List.set_cons_zero, List.set_cons_succ])
          | (refine wpS_skip rfl ?_; simp only [Act.put, List.setIfInBounds_toArray, List.set_cons_zero, List.set_cons_succ]))
        refine wpS_nil ?_
        go_wp2
        try rw [Exit.noGoto_ret]
        go_ret
        exact ⟨ret_bool (HF.out.2 HE.out).symm, X1.out.2.2.1.drew⟩
    · have hle : ¬ (j : Int) < (ps.length : Int) := by omega
      have HE : Hid (sameG f1 d1 s1 ps f2 d2 s2 qs = true) := by rw [HS.out.1]; exact allEq_yes (fun i hi => Y.out.2.2.2 i (by omega))
      go_wp2
      go_ret
      exact ⟨ret_bool HE.out.symm, Y.out.2.2.1⟩

theorem csame_any {p p2 : Nat → Prop} (f1 d1 s1 : Int) (v1 : Value) (ps : List Pt) (f2 d2 s2 : Int) (v2 : Value) (qs : List Pt) (w : World) (h : RdP p w v1 ps) (h' : RdP p2 w v2 qs) :
    Calls Try.prog 37 #[.agg #[.int .i64 f1, .int .i64 d1, .int .i64 s1, v1], .agg #[.int .i64 f2, .int .i64 d2, .int .i64 s2, v2]] w fun e w' => e = .returned (.bool (sameG f1 d1 s1 ps f2 d2 s2 qs)) ∧ Grow w w' := by
  by_cases he : f1 = f2 ∧ d1 = d2 ∧ s1 = s2 ∧ ps.length = qs.length
  · exact csame_any_yes f1 d1 s1 v1 ps f2 d2 s2 v2 qs w h h' he
  · exact csame_any_no f1 d1 s1 v1 ps f2 d2 s2 v2 qs w h h' he

set_option maxHeartbeats 4000000 in
theorem rsame_any_no {p p2 : Nat → Prop} (f1 d1 s1 : Int) (v1 : Value) (ps : List Pt) (f2 d2 s2 : Int) (v2 : Value) (qs : List Pt) (w : World) (h : RdP p w v1 ps) (h' : RdP p2 w v2 qs) (hne : ¬ (f1 = f2 ∧ d1 = d2 ∧ s1 = s2 ∧ ps.length = qs.length)) :
    Calls Try.prog 35 #[.agg #[.int .i64 f1, .int .i64 d1, .int .i64 s1, v1], .agg #[.int .i64 f2, .int .i64 d2, .int .i64 s2, v2]] w fun e w' => e = .returned (.bool (sameG f1 d1 s1 ps f2 d2 s2 qs)) ∧ Grow w w' := by
  have HI : Hid (VarAt ((w.alloc (.cells #[.int .i64 f1, .int .i64 d1, .int .i64 s1, v1] 24)).alloc (.cells #[.int .i64 f2, .int .i64 d2, .int .i64 s2, v2] 24)) w.heap.size [.int .i64 f1, .int .i64 d1, .int .i64 s1, v1] ∧ VarAt ((w.alloc (.cells #[.int .i64 f1, .int .i64 d1, .int .i64 s1, v1] 24)).alloc (.cells #[.int .i64 f2, .int .i64 d2, .int .i64 s2, v2] 24)) (w.heap.size + 1) [.int .i64 f2, .int .i64 d2, .int .i64 s2, v2] ∧ Grow w ((w.alloc (.cells #[.int .i64 f1, .int .i64 d1, .int .i64 s1, v1] 24)).alloc (.cells #[.int .i64 f2, .int .i64 d2, .int .i64 s2, v2] 24))) := two_boxes
  have HR : Hid (RdP p w v1 ps ∧ RdP p2 w v2 qs) := ⟨h, h'⟩
  obtain ⟨a, cp, rfl, h1, h2, -⟩ := h
  obtain ⟨a2, cp2, rfl, h12, h22, -⟩ := h'
  unfold maxLen at h2 h22
  by_cases t0 : f1 = f2
  · by_cases t1 : d1 = d2
    · by_cases t2 : s1 = s2
      · by_cases t3 : ps.length = qs.length
        · exact absurd ⟨t0, t1, t2, t3⟩ hne
        · skip
          have e0 : (f1 == f2) = true := by simp; omega
          have n0 : (f1 != f2) = false := by simp; omega
          have e1 : (d1 == d2) = true := by simp; omega
          have n1 : (d1 != d2) = false := by simp; omega
          have e2 : (s1 == s2) = true := by simp; omega
          have n2 : (s1 != s2) = false := by simp; omega
          have e3 : ((ps.length : Int) == (qs.length : Int)) = false := by simp; omega
          have n3 : ((ps.length : Int) != (qs.length : Int)) = true := by simp; omega
          have HS : Hid (sameG f1 d1 s1 ps f2 d2 s2 qs = false) := sameG_no (by omega)
          clear hne t0 t1 t2 t3
          go_enter Try.func35, Try.ntmps35
          go_wp2
          go_ret
          exact ⟨ret_bool HS.out.symm, HI.out.2.2⟩
      · skip
        have e0 : (f1 == f2) = true := by simp; omega
        have n0 : (f1 != f2) = false := by simp; omega
        have e1 : (d1 == d2) = true := by simp; omega
        have n1 : (d1 != d2) = false := by simp; omega
        have e2 : (s1 == s2) = false := by simp; omega
        have n2 : (s1 != s2) = true := by simp; omega
        have HS : Hid (sameG f1 d1 s1 ps f2 d2 s2 qs = false) := sameG_no (by omega)
        clear hne t0 t1 t2
        go_enter Try.func35, Try.ntmps35
        go_wp2
        go_ret
        exact ⟨ret_bool HS.out.symm, HI.out.2.2⟩
    · skip
      have e0 : (f1 == f2) = true := by simp; omega
      have n0 : (f1 != f2) = false := by simp; omega
      have e1 : (d1 == d2) = false := by simp; omega
      have n1 : (d1 != d2) = true := by simp; omega
      have HS : Hid (sameG f1 d1 s1 ps f2 d2 s2 qs = false) := sameG_no (by omega)
      clear hne t0 t1
      go_enter Try.func35, Try.ntmps35
      go_wp2
      go_ret
      exact ⟨ret_bool HS.out.symm, HI.out.2.2⟩
  · skip
    have e0 : (f1 == f2) = false := by simp; omega
    have n0 : (f1 != f2) = true := by simp; omega
    have HS : Hid (sameG f1 d1 s1 ps f2 d2 s2 qs = false) := sameG_no (by omega)
    clear hne t0
    go_enter Try.func35, Try.ntmps35
    go_wp2
    go_ret
    exact ⟨ret_bool HS.out.symm, HI.out.2.2⟩

set_option maxHeartbeats 4000000 in
theorem rsame_any_yes {p p2 : Nat → Prop} (f1 d1 s1 : Int) (v1 : Value) (ps : List Pt) (f2 d2 s2 : Int) (v2 : Value) (qs : List Pt) (w : World) (h : RdP p w v1 ps) (h' : RdP p2 w v2 qs) (heq : f1 = f2 ∧ d1 = d2 ∧ s1 = s2 ∧ ps.length = qs.length) :
    Calls Try.prog 35 #[.agg #[.int .i64 f1, .int .i64 d1, .int .i64 s1, v1], .agg #[.int .i64 f2, .int .i64 d2, .int .i64 s2, v2]] w fun e w' => e = .returned (.bool (sameG f1 d1 s1 ps f2 d2 s2 qs)) ∧ Grow w w' := by
  have HI : Hid (VarAt ((w.alloc (.cells #[.int .i64 f1, .int .i64 d1, .int .i64 s1, v1] 24)).alloc (.cells #[.int .i64 f2, .int .i64 d2, .int .i64 s2, v2] 24)) w.heap.size [.int .i64 f1, .int .i64 d1, .int .i64 s1, v1] ∧ VarAt ((w.alloc (.cells #[.int .i64 f1, .int .i64 d1, .int .i64 s1, v1] 24)).alloc (.cells #[.int .i64 f2, .int .i64 d2, .int .i64 s2, v2] 24)) (w.heap.size + 1) [.int .i64 f2, .int .i64 d2, .int .i64 s2, v2] ∧ Grow w ((w.alloc (.cells #[.int .i64 f1, .int .i64 d1, .int .i64 s1, v1] 24)).alloc (.cells #[.int .i64 f2, .int .i64 d2, .int .i64 s2, v2] 24))) := two_boxes
  have HR : Hid (RdP p w v1 ps ∧ RdP p2 w v2 qs) := ⟨h, h'⟩
  obtain ⟨a, cp, rfl, h1, h2, -⟩ := h
  obtain ⟨a2, cp2, rfl, h12, h22, -⟩ := h'
  unfold maxLen at h2 h22
  have e0 : (f1 == f2) = true := by obtain ⟨t0, t1, t2, t3⟩ := heq; simp; omega
  have n0 : (f1 != f2) = false := by obtain ⟨t0, t1, t2, t3⟩ := heq; simp; omega
  have e1 : (d1 == d2) = true := by obtain ⟨t0, t1, t2, t3⟩ := heq; simp; omega
  have n1 : (d1 != d2) = false := by obtain ⟨t0, t1, t2, t3⟩ := heq; simp; omega
  have e2 : (s1 == s2) = true := by obtain ⟨t0, t1, t2, t3⟩ := heq; simp; omega
  have n2 : (s1 != s2) = false := by obtain ⟨t0, t1, t2, t3⟩ := heq; simp; omega
  have e3 : ((ps.length : Int) == (qs.length : Int)) = true := by obtain ⟨t0, t1, t2, t3⟩ := heq; simp; omega
  have n3 : ((ps.length : Int) != (qs.length : Int)) = false := by obtain ⟨t0, t1, t2, t3⟩ := heq; simp; omega
  have HS : Hid (sameG f1 d1 s1 ps f2 d2 s2 qs = allEq ps qs ∧ ps.length = qs.length) := ⟨sameG_all heq, heq.2.2.2⟩
  clear heq
  go_enter Try.func35, Try.ntmps35
  go_wp2
  obtain ⟨b2, hb2⟩ : ∃ b2, b2 = w.heap.size + 1 := ⟨_, rfl⟩
  rw [← hb2] at HI ⊢
  clear hb2
  generalize ((w.alloc (.cells #[.int .i64 f1, .int .i64 d1, .int .i64 s1, .slice a ps.length cp] 24)).alloc (.cells #[.int .i64 f2, .int .i64 d2, .int .i64 s2, .slice a2 qs.length cp2] 24)) = w1 at HI ⊢
  generalize w.heap.size = b1 at HI ⊢
  clear e0 e1 e2 e3 n0 n1 n2 n3
  go_loopg [5] ps.length (fun m iv wr => ∃ j : Nat, m = ps.length - j ∧ j ≤ ps.length ∧ iv = .int .i64 j ∧ Hid (VarAt wr b1 [.int .i64 f1, .int .i64 d1, .int .i64 s1, .slice a ps.length cp] ∧ VarAt wr b2 [.int .i64 f2, .int .i64 d2, .int .i64 s2, .slice a2 qs.length cp2] ∧ Grow w wr ∧ ∀ i, i < j → eqP (ps.getD i Pt.zero) (qs.getD i Pt.zero) = true))
  case atStart => exact ⟨0, by omega, by omega, rfl, HI.out.1, HI.out.2.1, HI.out.2.2, fun i hi => absurd hi (Nat.not_lt_zero _)⟩
  case round =>
    clear HI
    obtain ⟨j, hk, hj, rfl, Y⟩ := hrel
    obtain ⟨⟨m0, m1, m2, m3⟩, -⟩ := Y.out.1.four
    by_cases hlt : j < ps.length
    · have hlq : j < qs.length := by have := HS.out.2; omega
      have hle : (j : Int) < (ps.length : Int) := by omega
      have hle2 : (j : Int) < (qs.length : Int) := by omega
      have HL : Hid (j < ps.length ∧ gk = ps.length - j) := ⟨hlt, hk⟩
      have hw1 : IntKind.i64.wrap ((j : Int) + 1) = (j : Int) + 1 := by rw [IntKind.wrap_i64]; omega
      obtain ⟨bb, oo, rfl, hp1, hbl, hin⟩ := rdP_at HR.out.1 hlt
      obtain ⟨bb2, oo2, rfl, hp2, hbl2, hin2⟩ := rdP_at HR.out.2 hlq
      have HF : Hid ((eqP (ps.getD j Pt.zero) (qs.getD j Pt.zero) = true → eqP (ps.getD j Pt.zero) (qs.getD j Pt.zero) = true) ∧ (eqP (ps.getD j Pt.zero) (qs.getD j Pt.zero) = false → sameG f1 d1 s1 ps f2 d2 s2 qs = false)) := ⟨fun h => h, fun h => by rw [HS.out.1]; exact allEq_no hlt h⟩
      have H1 : Hid (PIn wr bb (oo + j * 3) (ps.getD j Pt.zero) ∧ PIn wr bb2 (oo2 + j * 3) (qs.getD j Pt.zero)) := ⟨hin.grow Y.out.2.2.1, hin2.grow Y.out.2.2.1⟩
      have Y3 : Hid (∀ i, i < j → eqP (ps.getD i Pt.zero) (qs.getD i Pt.zero) = true) := Y.out.2.2.2
      have HEQ : Hid (∀ d x, ps.getD j Pt.zero = d → qs.getD j Pt.zero = x → (eqP d x = true → eqP (ps.getD j Pt.zero) (qs.getD j Pt.zero) = true) ∧ (eqP d x = false → sameG f1 d1 s1 ps f2 d2 s2 qs = false)) := fun d x e1 e2 => by rw [← e1, ← e2]; exact HF.out
      clear hin hin2 hk hj hlt hlq HF
      generalize hd0 : ps.getD j Pt.zero = d at H1
      generalize hx0 : qs.getD j Pt.zero = x at H1
      have HF : Hid ((eqP d x = true → eqP (ps.getD j Pt.zero) (qs.getD j Pt.zero) = true) ∧ (eqP d x = false → sameG f1 d1 s1 ps f2 d2 s2 qs = false)) := HEQ.out d x hd0 hx0
      clear hd0 hx0 HEQ

      by_cases uq : d.q = x.q
      · by_cases ub : d.b = x.b
        · by_cases ug : d.g = x.g
          · skip
            have eb0 : (d.q == x.q) = true := by simp; omega
            have eb1 : (d.b == x.b) = true := by simp; omega
            have eb2 : (d.g == x.g) = true := by simp; omega
            have HE : Hid (eqP d x = true) := by simp [Hid, eqP, eb0, eb1, eb2]
            clear uq ub ug
            go_wp2
            clear m0 m1 m2 m3
            have kx : ∀ w', Grow wr.drew w' → VarAt w' b1 [.int .i64 f1, .int .i64 d1, .int .i64 s1, .slice (some ⟨bb, oo, none⟩) ps.length cp] ∧ VarAt w' b2 [.int .i64 f2, .int .i64 d2, .int .i64 s2, .slice (some ⟨bb2, oo2, none⟩) qs.length cp2] ∧ PIn w' bb (oo + j * 3) d ∧ PIn w' bb2 (oo2 + j * 3) x := fun w' h => ⟨Y.out.1.grow ((Grow.refl wr).drew.trans h), Y.out.2.1.grow ((Grow.refl wr).drew.trans h), H1.out.1.grow ((Grow.refl wr).drew.trans h), H1.out.2.grow ((Grow.refl wr).drew.trans h)⟩
            refine wp_region_sched (by kernel_rfl) [(0, false), (1, false), (2, false), (3, false), (4, false), (5, false), (6, false), (7, false), (8, false), (9, false), (10, false)] (by kernel_rfl) (by kernel_rfl) rfl (fun _ _ d _ _ h => by cases d <;> exact h) ?_
            simp only [inOrder, List.filterMap_cons, List.filterMap_nil, List.getElem?_toArray, List.getElem?_cons_zero, List.getElem?_cons_succ, Option.map_some]
            repeat (first
              | (refine wpS_move rfl ?_; simp only [Act.eval, Act.put, Array.getD_eq_getD_getElem?, List.getElem?_toArray, List.getElem?_cons_zero, List.getElem?_cons_succ, Option.getD_some, List.setIfInBounds_toArray, List.set_cons_zero, List.set_cons_succ])
              | (refine wpS_assign rfl ?_; simp only [Act.eval, Act.put, Array.getD_eq_getD_getElem?, List.getElem?_toArray, List.getElem?_cons_zero, List.getElem?_cons_succ, Option.getD_some, List.setIfInBounds_toArray, List.set_cons_zero, List.set_cons_succ])
              | (refine wpS_read (v := ?_) rfl ?_ ?_; rotate_left; (focus (intro w' hG; obtain ⟨⟨k0, k1, k2, k3⟩, -⟩ := (kx w' hG).1.four; obtain ⟨⟨l0, l1, l2, l3⟩, -⟩ := (kx w' hG).2.1.four; obtain ⟨d0, d1, d2⟩ := (kx w' hG).2.2.1; obtain ⟨x0, x1, x2⟩ := (kx w' hG).2.2.2; go_simp; try (with_reducible rfl))); simp only [Act.put, List.setIfInBounds_toArray, List.set_cons_zero, List.set_cons_succ])
              | (refine wpS_skip rfl ?_; simp only [Act.put, List.setIfInBounds_toArray, List.set_cons_zero, List.set_cons_succ]))
            refine wpS_nil ?_
            go_wp2
            go_roundg (ps.length - (j + 1))
            case measure => have := HL.out; omega
            case rel => exact ⟨j + 1, rfl, HL.out.1, by go_num, Y.out.1.grow (Grow.refl _).drew, Y.out.2.1.grow (Grow.refl _).drew, Y.out.2.2.1.drew, fun i hi => by
              by_cases e : i = j
              · rw [e]; exact HF.out.1 HE.out
              · exact Y3.out i (by omega)⟩
          · skip
            have eb0 : (d.q == x.q) = true := by simp; omega
            have eb1 : (d.b == x.b) = true := by simp; omega
            have eb2 : (d.g == x.g) = false := by simp; omega
            have HE : Hid (eqP d x = false) := by simp [Hid, eqP, eb0, eb1, eb2]
            clear uq ub ug
            go_wp2
            clear m0 m1 m2 m3
            have kx : ∀ w', Grow wr.drew w' → VarAt w' b1 [.int .i64 f1, .int .i64 d1, .int .i64 s1, .slice (some ⟨bb, oo, none⟩) ps.length cp] ∧ VarAt w' b2 [.int .i64 f2, .int .i64 d2, .int .i64 s2, .slice (some ⟨bb2, oo2, none⟩) qs.length cp2] ∧ PIn w' bb (oo + j * 3) d ∧ PIn w' bb2 (oo2 + j * 3) x := fun w' h => ⟨Y.out.1.grow ((Grow.refl wr).drew.trans h), Y.out.2.1.grow ((Grow.refl wr).drew.trans h), H1.out.1.grow ((Grow.refl wr).drew.trans h), H1.out.2.grow ((Grow.refl wr).drew.trans h)⟩
            refine wp_region_sched (by kernel_rfl) [(0, false), (1, false), (2, false), (3, false), (4, false), (5, false), (6, false), (7, false), (8, false), (9, false), (10, false)] (by kernel_rfl) (by kernel_rfl) rfl (fun _ _ d _ _ h => by cases d <;> exact h) ?_
            simp only [inOrder, List.filterMap_cons, List.filterMap_nil, List.getElem?_toArray, List.getElem?_cons_zero, List.getElem?_cons_succ, Option.map_some]
            repeat (first
              | (refine wpS_move rfl ?_; simp only [Act.eval, Act.put, Array.getD_eq_getD_getElem?, List.getElem?_toArray, List.getElem?_cons_zero, List.getElem?_cons_succ, Option.getD_some, List.setIfInBounds_toArray, List.set_cons_zero, List.set_cons_succ])
              | (refine wpS_assign rfl ?_; simp only [Act.eval, Act.put, Array.getD_eq_getD_getElem?, List.getElem?_toArray, List.getElem?_cons_zero, List.getElem?_cons_succ, Option.getD_some, List.setIfInBounds_toArray, List.set_cons_zero, List.set_cons_succ])
              | (refine wpS_read (v := ?_) rfl ?_ ?_; rotate_left; (focus (intro w' hG; obtain ⟨⟨k0, k1, k2, k3⟩, -⟩ := (kx w' hG).1.four; obtain ⟨⟨l0, l1, l2, l3⟩, -⟩ := (kx w' hG).2.1.four; obtain ⟨d0, d1, d2⟩ := (kx w' hG).2.2.1; obtain ⟨x0, x1, x2⟩ := (kx w' hG).2.2.2; go_simp; try (with_reducible rfl))); simp only [Act.put, List.setIfInBounds_toArray, List.set_cons_zero, List.set_cons_succ])
              | (refine wpS_skip rfl ?_; simp only [Act.put, List.setIfInBounds_toArray, List.set_cons_zero, List.set_cons_succ]))
            refine wpS_nil ?_
            go_wp2
            try rw [Exit.noGoto_ret]
            go_ret
            exact ⟨ret_bool (HF.out.2 HE.out).symm, Y.out.2.2.1.drew⟩
        · skip
          have eb0 : (d.q == x.q) = true := by simp; omega
          have eb1 : (d.b == x.b) = false := by simp; omega
          have HE : Hid (eqP d x = false) := by simp [Hid, eqP, eb0, eb1]
          clear uq ub
          go_wp2
          clear m0 m1 m2 m3
          have kx : ∀ w', Grow wr.drew w' → VarAt w' b1 [.int .i64 f1, .int .i64 d1, .int .i64 s1, .slice (some ⟨bb, oo, none⟩) ps.length cp] ∧ VarAt w' b2 [.int .i64 f2, .int .i64 d2, .int .i64 s2, .slice (some ⟨bb2, oo2, none⟩) qs.length cp2] ∧ PIn w' bb (oo + j * 3) d ∧ PIn w' bb2 (oo2 + j * 3) x := fun w' h => ⟨Y.out.1.grow ((Grow.refl wr).drew.trans h), Y.out.2.1.grow ((Grow.refl wr).drew.trans h), H1.out.1.grow ((Grow.refl wr).drew.trans h), H1.out.2.grow ((Grow.refl wr).drew.trans h)⟩
          refine wp_region_sched (by kernel_rfl) [(0, false), (1, false), (2, false), (3, false), (4, false), (5, false), (6, false), (7, false), (8, false), (9, false), (10, false)] (by kernel_rfl) (by kernel_rfl) rfl (fun _ _ d _ _ h => by cases d <;> exact h) ?_
          simp only [inOrder, List.filterMap_cons, List.filterMap_nil, List.getElem?_toArray, List.getElem?_cons_zero, List.getElem?_cons_succ, Option.map_some]
          repeat (first
            | (refine wpS_move rfl ?_; simp only [Act.eval, Act.put, Array.getD_eq_getD_getElem?, List.getElem?_toArray, List.getElem?_cons_zero, List.getElem?_cons_succ, Option.getD_some, List.setIfInBounds_toArray, List.set_cons_zero, List.set_cons_succ])
            | (refine wpS_assign rfl ?_; simp only [Act.eval, Act.put, Array.getD_eq_getD_getElem?, List.getElem?_toArray, List.getElem?_cons_zero, List.getElem?_cons_succ, Option.getD_some, List.setIfInBounds_toArray, List.set_cons_zero, List.set_cons_succ])
            | (refine wpS_read (v := ?_) rfl ?_ ?_; rotate_left; (focus (intro w' hG; obtain ⟨⟨k0, k1, k2, k3⟩, -⟩ := (kx w' hG).1.four; obtain ⟨⟨l0, l1, l2, l3⟩, -⟩ := (kx w' hG).2.1.four; obtain ⟨d0, d1, d2⟩ := (kx w' hG).2.2.1; obtain ⟨x0, x1, x2⟩ := (kx w' hG).2.2.2; go_simp; try (with_reducible rfl))); simp only [Act.put, List.setIfInBounds_toArray, List.set_cons_zero, List.set_cons_succ])
            | (refine wpS_skip rfl ?_; simp only [Act.put, List.setIfInBounds_toArray, List.set_cons_zero, List.set_cons_succ]))
          refine wpS_nil ?_
          go_wp2
          try rw [Exit.noGoto_ret]
          go_ret
          exact ⟨ret_bool (HF.out.2 HE.out).symm, Y.out.2.2.1.drew⟩
      · skip
        have eb0 : (d.q == x.q) = false := by simp; omega
        have HE : Hid (eqP d x = false) := by simp [Hid, eqP, eb0]
        clear uq
        go_wp2
        clear m0 m1 m2 m3
        have kx : ∀ w', Grow wr.drew w' → VarAt w' b1 [.int .i64 f1, .int .i64 d1, .int .i64 s1, .slice (some ⟨bb, oo, none⟩) ps.length cp] ∧ VarAt w' b2 [.int .i64 f2, .int .i64 d2, .int .i64 s2, .slice (some ⟨bb2, oo2, none⟩) qs.length cp2] ∧ PIn w' bb (oo + j * 3) d ∧ PIn w' bb2 (oo2 + j * 3) x := fun w' h => ⟨Y.out.1.grow ((Grow.refl wr).drew.trans h), Y.out.2.1.grow ((Grow.refl wr).drew.trans h), H1.out.1.grow ((Grow.refl wr).drew.trans h), H1.out.2.grow ((Grow.refl wr).drew.trans h)⟩
        refine wp_region_sched (by kernel_rfl) [(0, false), (1, false), (2, false), (3, false), (4, false), (5, false), (6, false), (7, false), (8, false), (9, false), (10, false)] (by kernel_rfl) (by kernel_rfl) rfl (fun _ _ d _ _ h => by cases d <;> exact h) ?_
        simp only [inOrder, List.filterMap_cons, List.filterMap_nil, List.getElem?_toArray, List.getElem?_cons_zero, List.getElem?_cons_succ, Option.map_some]
        repeat (first
          | (refine wpS_move rfl ?_; simp only [Act.eval, Act.put, Array.getD_eq_getD_getElem?, List.getElem?_toArray, List.getElem?_cons_zero, List.getElem?_cons_succ, Option.getD_some, List.setIfInBounds_toArray, List.set_cons_zero, List.set_cons_succ])
          | (refine wpS_assign rfl ?_; simp only [Act.eval, Act.put, Array.getD_eq_getD_getElem?, List.getElem?_toArray, List.getElem?_cons_zero, List.getElem?_cons_succ, Option.getD_some, List.setIfInBounds_toArray, List.set_cons_zero, List.set_cons_succ])
          | (refine wpS_read (v := ?_) rfl ?_ ?_; rotate_left; (focus (intro w' hG; obtain ⟨⟨k0, k1, k2, k3⟩, -⟩ := (kx w' hG).1.four; obtain ⟨⟨l0, l1, l2, l3⟩, -⟩ := (kx w' hG).2.1.four; obtain ⟨d0, d1, d2⟩ := (kx w' hG).2.2.1; obtain ⟨x0, x1, x2⟩ := (kx w' hG).2.2.2; go_simp; try (with_reducible rfl))); simp only [Act.put, List.setIfInBounds_toArray, List.set_cons_zero, List.set_cons_succ])
          | (refine wpS_skip rfl ?_; simp only [Act.put, List.setIfInBounds_toArray, List.set_cons_zero, List.set_cons_succ]))
        refine wpS_nil ?_
        go_wp2
        try rw [Exit.noGoto_ret]
        go_ret
        exact ⟨ret_bool (HF.out.2 HE.out).symm, Y.out.2.2.1.drew⟩
    · have hle : ¬ (j : Int) < (ps.length : Int) := by omega
      have HE : Hid (sameG f1 d1 s1 ps f2 d2 s2 qs = true) := by rw [HS.out.1]; exact allEq_yes (fun i hi => Y.out.2.2.2 i (by omega))
      go_wp2
      go_ret
      exact ⟨ret_bool HE.out.symm, Y.out.2.2.1⟩

theorem rsame_any {p p2 : Nat → Prop} (f1 d1 s1 : Int) (v1 : Value) (ps : List Pt) (f2 d2 s2 : Int) (v2 : Value) (qs : List Pt) (w : World) (h : RdP p w v1 ps) (h' : RdP p2 w v2 qs) :
    Calls Try.prog 35 #[.agg #[.int .i64 f1, .int .i64 d1, .int .i64 s1, v1], .agg #[.int .i64 f2, .int .i64 d2, .int .i64 s2, v2]] w fun e w' => e = .returned (.bool (sameG f1 d1 s1 ps f2 d2 s2 qs)) ∧ Grow w w' := by
  by_cases he : f1 = f2 ∧ d1 = d2 ∧ s1 = s2 ∧ ps.length = qs.length
  · exact rsame_any_yes f1 d1 s1 v1 ps f2 d2 s2 v2 qs w h h' he
  · exact rsame_any_no f1 d1 s1 v1 ps f2 d2 s2 v2 qs w h h' he

end Go.Proofs.Ytlcphhlimcnnaaa
