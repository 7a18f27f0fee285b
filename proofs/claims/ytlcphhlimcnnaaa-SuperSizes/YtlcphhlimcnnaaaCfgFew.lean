/-
  Configurations in variables; the walks of Few, Clone and the law's odd. Conditions: each theorem's own.
-/
import Derived.Test.YtlcphhlimcnnaaaCfgRef
namespace Go.Proofs.Ytlcphhlimcnnaaa
open Go.RowKit
set_option linter.unusedVariables false
set_option linter.unusedSimpArgs false

theorem infoP : (Try.prog.info? 57).map (fun i => (i.zero, i.size, i.bytes)) = some (some (.agg #[.int .i64 0, .int .i64 0, .int .i64 0]), 3, 24) := by kernel_rfl

theorem VarAt.set4 {w : World} {b : Nat} {x0 x1 x2 x3 : Value} (h : VarAt w b [x0, x1, x2, x3]) (x y z t : Value) : VarAt ((((w.setCell ⟨b, 0, none⟩ x).setCell ⟨b, 1, none⟩ y).setCell ⟨b, 2, none⟩ z).setCell ⟨b, 3, none⟩ t) b [x, y, z, t] :=
  (((h.set 0 x).set 1 y).set 2 z).set 3 t
theorem upd_four (w : World) (b : Nat) (x y z t : Value) : UpdS (fun k => k = b) w ((((w.setCell ⟨b, 0, none⟩ x).setCell ⟨b, 1, none⟩ y).setCell ⟨b, 2, none⟩ z).setCell ⟨b, 3, none⟩ t) :=
  (((upd_one w b 0 x).trans (upd_one _ b 1 y)).trans (upd_one _ b 2 z)).trans (upd_one _ b 3 t)
theorem load_G (b : Nat) (x y z : Int) (v : Value) (w : World) (h : VarAt w b [.int .i64 x, .int .i64 y, .int .i64 z, v]) (hv : v.oneCell' = true) : (loadVar 24 ⟨b, 0, none⟩).run Try.prog w = .ok (.agg #[.int .i64 x, .int .i64 y, .int .i64 z, v]) w := by
  obtain ⟨⟨h0, h1, h2, h3⟩, -⟩ := h.four
  cases v <;> simp [Value.oneCell'] at hv <;> go_simp
theorem two_new {w : World} {fr dp se : Int} {v : Value} : VarAt ((w.alloc (.cells #[.int .i64 fr, .int .i64 dp, .int .i64 se, v] 24)).alloc (.cells #[.int .i64 (0 : Int), .int .i64 (0 : Int), .int .i64 (0 : Int), .slice none 0 0] 24)) w.heap.size [.int .i64 fr, .int .i64 dp, .int .i64 se, v] ∧ VarAt ((w.alloc (.cells #[.int .i64 fr, .int .i64 dp, .int .i64 se, v] 24)).alloc (.cells #[.int .i64 (0 : Int), .int .i64 (0 : Int), .int .i64 (0 : Int), .slice none 0 0] 24)) (w.heap.size + 1) [.int .i64 (0 : Int), .int .i64 (0 : Int), .int .i64 (0 : Int), .slice none 0 0] ∧ Grow w ((w.alloc (.cells #[.int .i64 fr, .int .i64 dp, .int .i64 se, v] 24)).alloc (.cells #[.int .i64 (0 : Int), .int .i64 (0 : Int), .int .i64 (0 : Int), .slice none 0 0] 24)) := by
  refine ⟨(VarAt.new w [.int .i64 fr, .int .i64 dp, .int .i64 se, v] _).grow ((Grow.refl _).alloc _), ?_, ((Grow.refl w).alloc _).alloc _⟩
  have := VarAt.new (w.alloc (.cells #[.int .i64 fr, .int .i64 dp, .int .i64 se, v] 24)) [.int .i64 (0 : Int), .int .i64 (0 : Int), .int .i64 (0 : Int), .slice none 0 0] 24
  rw [World.size_alloc] at this
  exact this

section
variable {α : Type} {f : α → List Value} {k : Nat} {P : Program}
/-- a new slice of noughts, for the walk -/
theorem wpList_makeS {w : World} {ops : Array Oper} {rest : List Oper} {o : Oper} {a : Act} {Q : Exit → Act → World → Prop} (hgd : o.guard = none) (l c : Operand) (t : TypeId) (ho : o.op = .makeSlice t l c)
    (d : α) (e : TypeId) (i : TypeInfo) (z : Value) (ht : P.underlying t = some (.slice e)) (hi : P.info? e = some i) (hz : i.zero = some z) (hzc : z.cells = (f d).toArray) (bytes : Nat) (hk : ∀ x, (f x).length = k) (hsize : i.size = k) (hby : i.bytes = bytes)
    (kl kc : IntKind) (C : Int) (n : Nat) (hl : a.eval l = .int kl C) (hc : a.eval c = .int kc C) (hC : C = (n : Int)) (hn : n ≤ 100000000) (hb : bytes ≤ 1000000)
    (hK : ∀ v' w', OwnS f k (fun i => i = w.heap.size) w' v' (List.replicate n d) → Grow w w' → w.heap.size < w'.heap.size → wpList P ops Q rest (a.put o.dst v') w') : wpList P ops Q (o :: rest) a w := by
  subst hC
  refine wpList_plain hgd fun K hK' => ?_
  have hbb : (i.bytes : Int) * (n : Int) ≤ 1000000 * 100000000 := by
    rw [hby]
    exact Int.mul_le_mul (by omega) (by omega) (by omega) (by omega)
  have hrun := run_make (P := P) w t e i z ht hi hz kl kc n n (by omega) (by omega) (by omega) (by omega)
  unfold Oper.wp
  simp [execOp, ho, hl, hc, hrun, Result.andThen]
  refine hK' _ _ (hK _ _ ?_ ((Grow.refl w).alloc _) (by simp))
  have := ownS_make (f := f) (k := k) w e (f d) n d hk rfl (by simp only [maxLen]; omega)
  rw [hzc, hsize]
  exact this
end

theorem agg_ret {x y z x' y' z' : Int} {v v' : Value} (h1 : x = x') (h2 : y = y') (h3 : z = z') (h4 : v = v') : Ending.returned (.agg #[.int .i64 x, .int .i64 y, .int .i64 z, v]) = .returned (.agg #[.int .i64 x', .int .i64 y', .int .i64 z', v']) := by rw [h1, h2, h3, h4]

set_option maxHeartbeats 4000000 in
theorem few_any {p : Nat → Prop} (fr dp se : Int) (v : Value) (ps : List Pt) (w : World) (h : RdP p w v ps) :
    Calls Try.prog 9 #[.agg #[.int .i64 fr, .int .i64 dp, .int .i64 se, v]] w fun e w' => ∃ v', e = .returned (.agg #[.int .i64 fr, .int .i64 dp, .int .i64 se, v']) ∧ RdP (fun i => w.heap.size ≤ i) w' v' (ps.take 5) ∧ Grow w w' := by
  obtain ⟨i0, hinf, hz0, hz1, hz2⟩ := info_parts infoP
  have HI : Hid (VarAt ((w.alloc (.cells #[.int .i64 fr, .int .i64 dp, .int .i64 se, v] 24)).alloc (.cells #[.int .i64 (0 : Int), .int .i64 (0 : Int), .int .i64 (0 : Int), .slice none 0 0] 24)) w.heap.size [.int .i64 fr, .int .i64 dp, .int .i64 se, v] ∧ VarAt ((w.alloc (.cells #[.int .i64 fr, .int .i64 dp, .int .i64 se, v] 24)).alloc (.cells #[.int .i64 (0 : Int), .int .i64 (0 : Int), .int .i64 (0 : Int), .slice none 0 0] 24)) (w.heap.size + 1) [.int .i64 (0 : Int), .int .i64 (0 : Int), .int .i64 (0 : Int), .slice none 0 0] ∧ Grow w ((w.alloc (.cells #[.int .i64 fr, .int .i64 dp, .int .i64 se, v] 24)).alloc (.cells #[.int .i64 (0 : Int), .int .i64 (0 : Int), .int .i64 (0 : Int), .slice none 0 0] 24))) := two_new
  have HR : Hid (RdP p w v ps) := h
  obtain ⟨a, cp, rfl, h1, h2, -⟩ := h
  unfold maxLen at h2
  by_cases hle : ps.length ≤ 5
  · skip
    have hle' : (ps.length : Int) ≤ 5 := by omega
    have hmin : min (ps.length : Int) 5 = (ps.length : Int) := by omega
    have hsrc : Src Try.prog 3 22 (.slice a ps.length cp) (ps.take 5).length ((ps.take 5).flatMap Pt.cs) ((w.alloc (.cells #[.int .i64 fr, .int .i64 dp, .int .i64 se, .slice a ps.length cp] 24)).alloc (.cells #[.int .i64 (0 : Int), .int .i64 (0 : Int), .int .i64 (0 : Int), .slice none 0 0] 24)) := by
      have h' := RdS.take (HR.out.grow HI.out.2.2) Pt.cs_length ps.length (by omega)
      have e : ps.take ps.length = ps.take 5 := by rw [List.take_of_length_le hle, List.take_of_length_le (Nat.le_refl _)]
      rw [e] at h'
      exact h'.src Pt.cs_length Pt.cs_one Try.underlying22
    have hl5 : (ps.take 5).length ≤ 5 := by rw [List.length_take]; omega
    generalize ps.take 5 = qs at hsrc hl5 ⊢
    go_enter Try.func9, Try.ntmps9
    go_wp2_with (at_builtin; refine wpList_appS (f := Pt.cs) (k := 3) (p := fun _ => False) rfl (.tmp 4) (.tmp 11) 22 22 rfl Pt.cs_length (by omega) i0 (.agg #[.int .i64 0, .int .i64 0, .int .i64 0]) 24 Try.underlying22 hinf hz0 hz1 hz2 rfl rfl rfl (OwnS.nil _ _ _ _ _) hsrc (by simp only [maxLen, List.length_nil]; omega) (by simp only [List.length_nil]; omega) ?_)
    intro v3 w3 ho3 hu3
    have Ho : Hid (OwnP (fun i => i = w.heap.size + 2) w3 v3 qs ∧ w.heap.size + 2 ≤ w3.heap.size) := by
      have hs := hu3.size
      refine ⟨OwnS.mono ho3 (fun i _ hi' => ?_), ?_⟩
      · have e : i = w.heap.size + 1 + 1 := hi'
        omega
      · simpa using hs
    obtain ⟨a3, c3, rfl⟩ := ho3.shape
    have hu4 := UpdS.new (Grow.refl _) hu3 (fun i hi => hi.elim)
    have X : Hid (VarAt w3 w.heap.size [.int .i64 fr, .int .i64 dp, .int .i64 se, .slice a ps.length cp] ∧ VarAt w3 (w.heap.size + 1) [.int .i64 (0 : Int), .int .i64 (0 : Int), .int .i64 (0 : Int), .slice none 0 0] ∧ Grow w w3) := ⟨HI.out.1.grow hu4, HI.out.2.1.grow hu4, HI.out.2.2.trans hu4⟩
    clear ho3 hu3 hu4 hsrc
    obtain ⟨⟨m0, m1, m2, m3⟩, f0, f1, f2, f3⟩ := X.out.1.four
    obtain ⟨⟨n0, n1, n2, n3⟩, g0, g1, g2, g3⟩ := X.out.2.1.four
    go_wp2
    have hU := (upd_one w3 w.heap.size 3 (.slice a3 qs.length c3)).mono (S' := fun i => i = w.heap.size ∨ i = w.heap.size + 1) (fun i hi => .inl hi)
    have hU2 := hU.trans ((upd_four (w3.setCell ⟨w.heap.size, 3, none⟩ (.slice a3 qs.length c3)) (w.heap.size + 1) (.int .i64 fr) (.int .i64 dp) (.int .i64 se) (.slice a3 qs.length c3)).mono (S' := fun i => i = w.heap.size ∨ i = w.heap.size + 1) (fun i hi => .inr hi))
    refine bodyPost_ret_by (results_cell rfl _ _ _ (.agg #[.int .i64 fr, .int .i64 dp, .int .i64 se, .slice a3 qs.length c3]) rfl (load_G (w.heap.size + 1) fr dp se _ _ ((X.out.2.1.upd (upd_one w3 w.heap.size 3 _) (by omega)).set4 _ _ _ _) rfl)) rfl ⟨_, rfl, ?_, UpdS.new X.out.2.2 hU2 (fun i hi => by omega)⟩
    exact RdS.mono (RdS.upd Ho.out.1.rd hU2 (fun i _ hi => by omega)) (fun i _ hi => by omega)
  · skip
    have hle' : ¬ (ps.length : Int) ≤ 5 := by omega
    have hlt' : (5 : Int) < (ps.length : Int) := by omega
    have hmin : min (ps.length : Int) 5 = 5 := by omega
    have hsrc : Src Try.prog 3 22 (.slice a 5 cp) (ps.take 5).length ((ps.take 5).flatMap Pt.cs) ((w.alloc (.cells #[.int .i64 fr, .int .i64 dp, .int .i64 se, .slice a ps.length cp] 24)).alloc (.cells #[.int .i64 (0 : Int), .int .i64 (0 : Int), .int .i64 (0 : Int), .slice none 0 0] 24)) := by
      have h' := RdS.take (HR.out.grow HI.out.2.2) Pt.cs_length 5 (by omega)
      have e : ps.take 5 = ps.take 5 := rfl
      rw [e] at h'
      exact h'.src Pt.cs_length Pt.cs_one Try.underlying22
    have hl5 : (ps.take 5).length ≤ 5 := by rw [List.length_take]; omega
    generalize ps.take 5 = qs at hsrc hl5 ⊢
    go_enter Try.func9, Try.ntmps9
    go_wp2_with (at_builtin; refine wpList_appS (f := Pt.cs) (k := 3) (p := fun _ => False) rfl (.tmp 4) (.tmp 11) 22 22 rfl Pt.cs_length (by omega) i0 (.agg #[.int .i64 0, .int .i64 0, .int .i64 0]) 24 Try.underlying22 hinf hz0 hz1 hz2 rfl rfl rfl (OwnS.nil _ _ _ _ _) hsrc (by simp only [maxLen, List.length_nil]; omega) (by simp only [List.length_nil]; omega) ?_)
    intro v3 w3 ho3 hu3
    have Ho : Hid (OwnP (fun i => i = w.heap.size + 2) w3 v3 qs ∧ w.heap.size + 2 ≤ w3.heap.size) := by
      have hs := hu3.size
      refine ⟨OwnS.mono ho3 (fun i _ hi' => ?_), ?_⟩
      · have e : i = w.heap.size + 1 + 1 := hi'
        omega
      · simpa using hs
    obtain ⟨a3, c3, rfl⟩ := ho3.shape
    have hu4 := UpdS.new (Grow.refl _) hu3 (fun i hi => hi.elim)
    have X : Hid (VarAt w3 w.heap.size [.int .i64 fr, .int .i64 dp, .int .i64 se, .slice a ps.length cp] ∧ VarAt w3 (w.heap.size + 1) [.int .i64 (0 : Int), .int .i64 (0 : Int), .int .i64 (0 : Int), .slice none 0 0] ∧ Grow w w3) := ⟨HI.out.1.grow hu4, HI.out.2.1.grow hu4, HI.out.2.2.trans hu4⟩
    clear ho3 hu3 hu4 hsrc
    obtain ⟨⟨m0, m1, m2, m3⟩, f0, f1, f2, f3⟩ := X.out.1.four
    obtain ⟨⟨n0, n1, n2, n3⟩, g0, g1, g2, g3⟩ := X.out.2.1.four
    go_wp2
    have hU := (upd_one w3 w.heap.size 3 (.slice a3 qs.length c3)).mono (S' := fun i => i = w.heap.size ∨ i = w.heap.size + 1) (fun i hi => .inl hi)
    have hU2 := hU.trans ((upd_four (w3.setCell ⟨w.heap.size, 3, none⟩ (.slice a3 qs.length c3)) (w.heap.size + 1) (.int .i64 fr) (.int .i64 dp) (.int .i64 se) (.slice a3 qs.length c3)).mono (S' := fun i => i = w.heap.size ∨ i = w.heap.size + 1) (fun i hi => .inr hi))
    refine bodyPost_ret_by (results_cell rfl _ _ _ (.agg #[.int .i64 fr, .int .i64 dp, .int .i64 se, .slice a3 qs.length c3]) rfl (load_G (w.heap.size + 1) fr dp se _ _ ((X.out.2.1.upd (upd_one w3 w.heap.size 3 _) (by omega)).set4 _ _ _ _) rfl)) rfl ⟨_, rfl, ?_, UpdS.new X.out.2.2 hU2 (fun i hi => by omega)⟩
    exact RdS.mono (RdS.upd Ho.out.1.rd hU2 (fun i _ hi => by omega)) (fun i _ hi => by omega)
end Go.Proofs.Ytlcphhlimcnnaaa
