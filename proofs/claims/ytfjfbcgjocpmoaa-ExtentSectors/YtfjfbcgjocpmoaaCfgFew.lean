/-
  Configurations in variables; the walks of Few, Clone and the law's odd. Conditions: each theorem's own.
-/
import Derived.Test.YtfjfbcgjocpmoaaCfgRef
namespace Go.Proofs.Ytfjfbcgjocpmoaa
open Go.RowKit
set_option linter.unusedVariables false
set_option linter.unusedSimpArgs false

theorem infoP : (Try.prog.info? 46).map (fun i => (i.zero, i.size, i.bytes)) = some (some (.agg #[.int .i64 0, .int .i64 0, .int .i64 0]), 3, 24) := by kernel_rfl

theorem VarAt.set4 {w : World} {b : Nat} {x0 x1 x2 x3 : Value} (h : VarAt w b [x0, x1, x2, x3]) (x y z t : Value) : VarAt ((((w.setCell ⟨b, 0, none⟩ x).setCell ⟨b, 1, none⟩ y).setCell ⟨b, 2, none⟩ z).setCell ⟨b, 3, none⟩ t) b [x, y, z, t] :=
  (((h.set 0 x).set 1 y).set 2 z).set 3 t
theorem upd_four (w : World) (b : Nat) (x y z t : Value) : UpdS (fun k => k = b) w ((((w.setCell ⟨b, 0, none⟩ x).setCell ⟨b, 1, none⟩ y).setCell ⟨b, 2, none⟩ z).setCell ⟨b, 3, none⟩ t) :=
  (((upd_one w b 0 x).trans (upd_one _ b 1 y)).trans (upd_one _ b 2 z)).trans (upd_one _ b 3 t)
theorem load_G (b : Nat) (x y z : Int) (v : Value) (w : World) (h : VarAt w b [.int .i64 x, .int .i64 y, .int .i64 z, v]) (hv : v.oneCell' = true) : (loadVar 24 ⟨b, 0, none⟩).run Try.prog w = .ok (.agg #[.int .i64 x, .int .i64 y, .int .i64 z, v]) w := by
  obtain ⟨⟨h0, h1, h2, h3⟩, -⟩ := h.four
  cases v <;> simp [Value.oneCell'] at hv <;> go_simp
theorem two_new {w : World} {fr dp se : Int} {v : Value} : VarAt ((w.alloc (.cells #[.int .i64 fr, .int .i64 dp, .int .i64 se, v] 24)).alloc (.cells #[.int .i64 (0 : Int), .int .i64 (0 : Int), .int .i64 (0 : Int), .slice none 0 0] 24)) w.heap.size [.int .i64 fr, .int .i64 dp, .int .i64 se, v] ∧ VarAt ((w.alloc (.cells #[.int .i64 fr, .int .i64 dp, .int .i64 se, v] 24)).alloc (.cells #[.int .i64 (0 : Int), .int .i64 (0 : Int), .int .i64 (0 : Int), .slice none 0 0] 24)) (w.heap.size + 1) [.int .i64 (0 : Int), .int .i64 (0 : Int), .int .i64 (0 : Int), .slice none 0 0] ∧ Grow w ((w.alloc (.cells #[.int .i64 fr, .int .i64 dp, .int .i64 se, v] 24)).alloc (.cells #[.int .i64 (0 : Int), .int .i64 (0 : Int), .int .i64 (0 : Int), .slice none 0 0] 24)) := by
  refine ⟨(VarAt.new w [.int .i64 fr, .int .i64 dp, .int .i64 se, v] _).grow ((Grow.refl _).alloc _), ?_, ((Grow.refl w).alloc _).alloc _⟩
  have := VarAt.new (w.alloc (.cells #[.int .i64 fr, .int .i64 dp, .int .i64 se, v] 24)) [.int .i64 (0 : Int), .int .i64 (0 : Int), .int .i64 (0 : Int), .slice none 0 0] 24
  rw [World.size_alloc] at this
  exact this

section
variable {α : Type} {f : α → List Value} {k : Nat} {P : Program}
/-- a new slice of noughts, for the walk -/
theorem wpList_makeS {w : World} {ops : Array Oper} {rest : List Oper} {o : Oper} {a : Act} {Q : Exit → Act → World → Prop} (hgd : o.guard = none) (l c : Operand) (t : TypeId) (ho : o.op = .makeSlice t l c)
    (d : α) (e : TypeId) (i : TypeInfo) (z : Value) (ht : P.underlying t = some (.slice e)) (hi : P.info? e = some i) (hz : i.zero = some z) (hzc : z.cells = (f d).toArray) (bytes : Nat) (hk : ∀ x, (f x).length = k) (hsize : i.size = k) (hby : i.bytes = bytes)
    (kl kc : IntKind) (C : Int) (n : Nat) (hl : a.eval l = .int kl C) (hc : a.eval c = .int kc C) (hC : C = (n : Int)) (hn : n ≤ 100000000) (hb : bytes ≤ 1000000)
    (hK : ∀ v' w', OwnS f k (fun i => i = w.heap.size) w' v' (List.replicate n d) → Grow w w' → w.heap.size < w'.heap.size → wpList P ops Q rest (a.put o.dst v') w') : wpList P ops Q (o :: rest) a w := by
  subst hC
  refine wpList_plain hgd fun K hK' => ?_
  have hbb : (i.bytes : Int) * (n : Int) ≤ 1000000 * 100000000 := by
    rw [hby]
    exact Int.mul_le_mul (by omega) (by omega) (by omega) (by omega)
  have hrun := run_make (P := P) w t e i z ht hi hz kl kc n n (by omega) (by omega) (by omega) (by omega)
  unfold Oper.wp
  simp [execOp, ho, hl, hc, hrun, Result.andThen]
  refine hK' _ _ (hK _ _ ?_ ((Grow.refl w).alloc _) (by simp))
  have := ownS_make (f := f) (k := k) w e (f d) n d hk rfl (by simp only [maxLen]; omega)
  rw [hzc, hsize]
  exact this
end

theorem agg_ret {x y z x' y' z' : Int} {v v' : Value} (h1 : x = x') (h2 : y = y') (h3 : z = z') (h4 : v = v') : Ending.returned (.agg #[.int .i64 x, .int .i64 y, .int .i64 z, v]) = .returned (.agg #[.int .i64 x', .int .i64 y', .int .i64 z', v']) := by rw [h1, h2, h3, h4]

end Go.Proofs.Ytfjfbcgjocpmoaa
