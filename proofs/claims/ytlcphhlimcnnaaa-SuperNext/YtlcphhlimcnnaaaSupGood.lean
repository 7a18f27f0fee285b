/-
  The walks of the document's Good, of Next, of the law's example. Conditions: each theorem's own.
-/
import Derived.Test.YtlcphhlimcnnaaaSupWr
import Derived.Test.YtlcphhlimcnnaaaCfgGood
namespace Go.Proofs.Ytlcphhlimcnnaaa
open Go.RowKit
set_option linter.unusedVariables false
set_option linter.unusedSimpArgs false

set_option maxHeartbeats 4000000 in
theorem lives_any (w : World) : Calls Try.prog 15 #[] w fun e w' => e = .returned (.bool true) ∧ Grow w w' := by
  have hl := rdS_new (f := Pt.cs) (k := 3) w 57 [⟨1, 0, 2⟩, ⟨2, 4, 2⟩] Pt.cs_length (by unfold maxLen; decide)
  have HL : Hid (RdP (fun i => i = w.heap.size) (w.alloc (.cells #[.int .i64 1, .int .i64 0, .int .i64 2, .int .i64 2, .int .i64 4, .int .i64 2] 57)) (.slice (some ⟨w.heap.size, 0, none⟩) 2 2) [⟨1, 0, 2⟩, ⟨2, 4, 2⟩] ∧ Grow w (w.alloc (.cells #[.int .i64 1, .int .i64 0, .int .i64 2, .int .i64 2, .int .i64 4, .int .i64 2] 57))) := ⟨hl, (Grow.refl w).alloc _⟩
  have hm : mayS 1 3 2 8 [⟨1, 0, 2⟩, ⟨2, 4, 2⟩] = true := by decide +kernel
  have hlen : (sbytes 1 3 2 8 [⟨1, 0, 2⟩, ⟨2, 4, 2⟩]).length = 100 := sbytes_length _ _ _ _ _
  clear hl
  go_enter Try.func15, Try.ntmps15
  go_wp2_with fail
  refine (write_yes 1 3 2 8 _ [⟨1, 0, 2⟩, ⟨2, 4, 2⟩] _ HL.out.1 hm).mono ?_
  rintro e w2 ⟨v2, rfl, ho2, g2⟩
  obtain ⟨a2, c2, hv2⟩ := ho2.shape
  rw [hlen] at hv2
  subst hv2
  clear ho2 hm hlen
  go_wp2
  go_ret
  exact ⟨rfl, HL.out.2.trans g2⟩

set_option maxHeartbeats 4000000 in
theorem qgood_any {p : Nat → Prop} (ep fr dp se : Int) (v : Value) (ps : List Pt) (w : World) (h : RdP p w v ps) (hok : ∀ x ∈ ps, x.Ok) (hep : (Lit.int .i64 ep).wf = true) (hdp : W64 dp) (hse : W64 se) :
    Calls Try.prog 8 #[.int .i64 ep, .agg #[.int .i64 fr, .int .i64 dp, .int .i64 se, v]] w fun e w' => ∃ ep' fr' dp' se' v' ps', e = .returned (.agg #[.int .i64 ep', .int .i64 fr', .int .i64 dp', .int .i64 se', v']) ∧ (1 ≤ ep' ∧ ep' ≤ 1073741824) ∧ GoodC fr' dp' se' ps' ∧ RdP (fun i => w.heap.size ≤ i) w' v' ps' ∧ Grow w w' := by
  have har := fun w' => around_any ep 1073741824 w' hep (by omega) (by omega)
  have hA := around_bd ep 1073741824 (by omega)
  generalize around ep 1073741824 = A at har hA
  have hwA : IntKind.i64.wrap (1 + A) = 1 + A := by rw [IntKind.wrap_i64]; omega
  have X0 : Hid (VarAt ((w.alloc (.cells #[.int .i64 fr, .int .i64 dp, .int .i64 se, v] 24)).alloc (.cells #[.int .i64 (0 : Int), .int .i64 (0 : Int), .int .i64 (0 : Int), .int .i64 (0 : Int), .slice none 0 0] 26)) w.heap.size [.int .i64 fr, .int .i64 dp, .int .i64 se, v] ∧ VarAt ((w.alloc (.cells #[.int .i64 fr, .int .i64 dp, .int .i64 se, v] 24)).alloc (.cells #[.int .i64 (0 : Int), .int .i64 (0 : Int), .int .i64 (0 : Int), .int .i64 (0 : Int), .slice none 0 0] 26)) (w.heap.size + 1) [.int .i64 (0 : Int), .int .i64 (0 : Int), .int .i64 (0 : Int), .int .i64 (0 : Int), .slice none 0 0] ∧ Grow w ((w.alloc (.cells #[.int .i64 fr, .int .i64 dp, .int .i64 se, v] 24)).alloc (.cells #[.int .i64 (0 : Int), .int .i64 (0 : Int), .int .i64 (0 : Int), .int .i64 (0 : Int), .slice none 0 0] 26))) :=
    ⟨(VarAt.new w [.int .i64 fr, .int .i64 dp, .int .i64 se, v] _).old _, VarAt.new2 w _ [.int .i64 (0 : Int), .int .i64 (0 : Int), .int .i64 (0 : Int), .int .i64 (0 : Int), .slice none 0 0] _, ((Grow.refl w).alloc _).alloc _⟩
  have hgood := fun w' (g : Grow w w') => good_any fr dp se v ps w' (RdS.grow h g) hok hdp hse
  obtain ⟨a, cp, rfl, h1, h2, -⟩ := h
  clear hok hdp hse hep h1 h2
  obtain ⟨b4, hb4⟩ : ∃ b4, b4 = w.heap.size + 1 := ⟨_, rfl⟩
  have HE : Hid (b4 = w.heap.size + 1) := hb4
  go_enter Try.func8, Try.ntmps8
  go_wp2
  rw [← hb4] at X0 ⊢
  clear hb4
  generalize ((w.alloc (.cells #[.int .i64 fr, .int .i64 dp, .int .i64 se, .slice a ps.length cp] 24)).alloc (.cells #[.int .i64 (0 : Int), .int .i64 (0 : Int), .int .i64 (0 : Int), .int .i64 (0 : Int), .slice none 0 0] 26)) = w1 at X0 ⊢
  obtain ⟨b3, hb3⟩ : ∃ b3, b3 = w.heap.size := ⟨_, rfl⟩
  rw [← hb3] at X0 ⊢
  have HE3 : Hid (b3 = w.heap.size) := hb3
  clear hb3
  have kx : ∀ w', UpdS (fun i => i = b4) w1.drew w' → VarAt w' b3 [.int .i64 fr, .int .i64 dp, .int .i64 se, .slice a ps.length cp] := fun w' h => (X0.out.1.grow (Grow.refl w1).drew).upd h (by have := HE.out; have := HE3.out; omega)
  refine wp_region_schedG (UpdS (fun i => i = b4)) (UpdS.refl _) (fun _ _ _ => UpdS.trans) (by kernel_rfl) [(0, false), (3, false), (1, true), (2, false), (4, true), (5, false), (6, true)] (by kernel_rfl) (by kernel_rfl) rfl (fun _ _ d _ _ h => by cases d <;> exact h) ?_
  simp only [inOrder, List.filterMap_cons, List.filterMap_nil, List.getElem?_toArray, List.getElem?_cons_zero, List.getElem?_cons_succ, Option.map_some]
  repeat (first
    | (refine wpS_move rfl ?_; simp only [Act.eval, Act.put, Array.getD_eq_getD_getElem?, List.getElem?_toArray, List.getElem?_cons_zero, List.getElem?_cons_succ, Option.getD_some, List.setIfInBounds_toArray, List.set_cons_zero, List.set_cons_succ])
    | (refine wpS_assign rfl ?_; simp only [Act.eval, Act.put, Array.getD_eq_getD_getElem?, List.getElem?_toArray, List.getElem?_cons_zero, List.getElem?_cons_succ, Option.getD_some, List.setIfInBounds_toArray, List.set_cons_zero, List.set_cons_succ])
    | (refine wpS_read (v := ?_) rfl ?_ ?_; rotate_left; (focus (intro w' hG; obtain ⟨⟨k0, k1, k2, k3⟩, -⟩ := (kx w' hG).four; go_simp; try (with_reducible rfl))); simp only [Act.put, List.setIfInBounds_toArray, List.set_cons_zero, List.set_cons_succ])
    | (refine wpS_skip rfl ?_; simp only [Act.put, List.setIfInBounds_toArray, List.set_cons_zero, List.set_cons_succ]))
  refine wpS_call (f := ?_) (args := ?_) (by rfl) ?_ ?_
  rotate_left 2; focus (go_simp; constructor <;> with_reducible rfl)
  refine (har _).mono ?_
  rintro e w0 ⟨rfl, rfl⟩
  refine ⟨_, rfl, UpdS.refl _ _, ?_⟩
  simp only [Act.put, List.setIfInBounds_toArray, List.set_cons_zero, List.set_cons_succ]
  repeat (first
    | (refine wpS_move rfl ?_; simp only [Act.eval, Act.put, Array.getD_eq_getD_getElem?, List.getElem?_toArray, List.getElem?_cons_zero, List.getElem?_cons_succ, Option.getD_some, List.setIfInBounds_toArray, List.set_cons_zero, List.set_cons_succ])
    | (refine wpS_assign rfl ?_; simp only [Act.eval, Act.put, Array.getD_eq_getD_getElem?, List.getElem?_toArray, List.getElem?_cons_zero, List.getElem?_cons_succ, Option.getD_some, List.setIfInBounds_toArray, List.set_cons_zero, List.set_cons_succ])
    | (refine wpS_read (v := ?_) rfl ?_ ?_; rotate_left; (focus (intro w' hG; skip; go_simp; try (with_reducible rfl))); simp only [Act.put, List.setIfInBounds_toArray, List.set_cons_zero, List.set_cons_succ])
    | (refine wpS_skip rfl ?_; simp only [Act.put, List.setIfInBounds_toArray, List.set_cons_zero, List.set_cons_succ]))
  refine wpS_call (f := ?_) (args := ?_) (by rfl) ?_ ?_
  rotate_left 2; focus (go_simp; constructor <;> with_reducible rfl)
  refine (hgood _ (X0.out.2.2.trans (Grow.refl w1).drew)).mono ?_
  rintro e w2 ⟨fr', dp', se', v', ps', rfl, G2, R2, g2⟩
  refine ⟨_, rfl, g2.s, ?_⟩
  have G02 : Grow w1 w2 := (Grow.refl w1).drew.trans g2
  have HR : Hid (VarAt w2 b4 [.int .i64 (0 : Int), .int .i64 (0 : Int), .int .i64 (0 : Int), .int .i64 (0 : Int), .slice none 0 0] ∧ GoodC fr' dp' se' ps' ∧ RdP (fun i => b4 < i) w2 v' ps' ∧ Grow w w2) := ⟨X0.out.2.1.grow G02, G2, RdS.mono R2 (fun i _ hi => by have := X0.out.2.1.lt; have e : w1.drew.heap.size = w1.heap.size := rfl; omega), X0.out.2.2.trans G02⟩
  obtain ⟨a2, c2, rfl⟩ := R2.shape
  clear G2 R2 g2 G02 kx
  obtain ⟨⟨n0, n1, n2, n3, n4⟩, f0, f1, f2, f3, f4⟩ := HR.out.1.five
  simp only [Act.put, List.setIfInBounds_toArray, List.set_cons_zero, List.set_cons_succ]
  repeat (first
    | (refine wpS_move rfl ?_; simp only [Act.eval, Act.put, Array.getD_eq_getD_getElem?, List.getElem?_toArray, List.getElem?_cons_zero, List.getElem?_cons_succ, Option.getD_some, List.setIfInBounds_toArray, List.set_cons_zero, List.set_cons_succ])
    | (refine wpS_assign rfl ?_; simp only [Act.eval, Act.put, Array.getD_eq_getD_getElem?, List.getElem?_toArray, List.getElem?_cons_zero, List.getElem?_cons_succ, Option.getD_some, List.setIfInBounds_toArray, List.set_cons_zero, List.set_cons_succ])
    | (refine wpS_read (v := ?_) rfl ?_ ?_; rotate_left; (focus (intro w' hG; skip; go_simp; try (with_reducible rfl))); simp only [Act.put, List.setIfInBounds_toArray, List.set_cons_zero, List.set_cons_succ])
    | (refine wpS_skip rfl ?_; simp only [Act.put, List.setIfInBounds_toArray, List.set_cons_zero, List.set_cons_succ]))
  refine wpS_store (w' := ((((w2.setCell ⟨b4, 0, none⟩ (.int .i64 (1 + A))).setCell ⟨b4, 1, none⟩ (.int .i64 fr')).setCell ⟨b4, 2, none⟩ (.int .i64 dp')).setCell ⟨b4, 3, none⟩ (.int .i64 se')).setCell ⟨b4, 4, none⟩ (.slice a2 ps'.length c2)) rfl (by go_simp) (upd_five w2 b4 _ _ _ _ _) ?_
  simp only [Act.put, List.setIfInBounds_toArray, List.set_cons_zero, List.set_cons_succ]
  refine wpS_nil ?_
  go_wp2
  have hU := upd_five w2 b4 (.int .i64 (1 + A)) (.int .i64 fr') (.int .i64 dp') (.int .i64 se') (.slice a2 ps'.length c2)
  exact bodyPost_ret_by (results_cell rfl _ _ _ (.agg #[.int .i64 (1 + A), .int .i64 fr', .int .i64 dp', .int .i64 se', .slice a2 ps'.length c2]) rfl (load_QS b4 (1 + A) fr' dp' se' _ _ (HR.out.1.set5 _ _ _ _ _) rfl)) rfl ⟨_, _, _, _, _, ps', rfl, by omega, HR.out.2.1, RdS.mono (RdS.upd HR.out.2.2.1 hU (fun i _ hi => by omega)) (fun i _ hi => by have := HE.out; omega), UpdS.new HR.out.2.2.2 hU (fun i hi => by have := HE.out; omega)⟩
end Go.Proofs.Ytlcphhlimcnnaaa
