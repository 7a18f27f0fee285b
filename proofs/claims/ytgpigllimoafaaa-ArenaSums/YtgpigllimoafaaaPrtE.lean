/-
  Comparing frames with the empty one: the program's and the document's; the walk of a partition's Empty. Conditions: each theorem's own.
-/
import Derived.Test.YtgpigllimoafaaaPrtT
import Derived.Laws.StructEq
import Derived.Deep.LoopGhost
namespace Go.Proofs.Ytgpigllimoafaaa
open Go.RowKit
set_option linter.unusedVariables false
set_option linter.unusedSimpArgs false

/-- is it as an empty one? -/
def FS.emp (s : FS) : Bool := !s.u && !s.d && !s.r && (s.p == 0) && (s.q == 0) && (s.bs == z32)
theorem FS.emp_iff (s : FS) : s.emp = true ↔ s = FS.empty := by
  obtain ⟨u, d, r, p, q, bs⟩ := s
  constructor
  · intro h
    simp [FS.emp] at h
    obtain ⟨⟨⟨⟨⟨h1, h2⟩, h3⟩, h4⟩, h5⟩, h6⟩ := h
    subst h1 h2 h3 h4 h5 h6; rfl
  · intro h; rw [h]; rfl
def emptyL (L : List FS) : Bool := L.all FS.emp
theorem emptyL_iff (L : List FS) : emptyL L = true ↔ ∀ i, i < L.length → L.getD i FS.empty = FS.empty := by
  unfold emptyL
  rw [List.all_eq_true]
  constructor
  · intro h i hi; exact (FS.emp_iff _).1 (h _ (getD_in hi))
  · intro h s hs
    obtain ⟨i, hi, e⟩ := List.mem_iff_getElem.1 hs
    have := h i hi
    rw [getD_at hi, e] at this
    rw [this]; rfl

theorem part_u8 {P : Program} (w : World) (elem : TypeId) (xs : Array Value) (i : Nat) (v : Value) (he : P.underlying elem = some (.int .u8)) (hv : xs[i]? = some v) : (part elem xs i).run P w = .ok v w := by
  have hagg : (isAgg elem).run P w = .ok false w := by
    unfold isAgg
    rw [Sem.run_bind, run_underlying he w]
    rfl
  simp [part, Sem.run_bind, hagg, hv]
theorem run_rows {P : Program} (w : World) (d : Nat) (t elem : TypeId) (len : Nat) (ys zs : List Int) (ht : P.underlying t = some (.array len elem)) (he : P.underlying elem = some (.int .u8)) (hs : (P.info? elem).map (·.size) = some 1) (hy : ys.length = len) (hz : zs.length = len) :
    (Op.equalIn (d + 2) t (.agg (ys.map (Value.int .u8)).toArray) (.agg (zs.map (Value.int .u8)).toArray)).run P w = .ok (ys == zs) w := by
  rw [Op.equalIn]
  simp only [Sem.run_bind, run_underlying ht, Result.andThen_ok]
  have hso : (sizeOf elem).run P w = .ok 1 w := by
    cases hq : P.info? elem with
    | none => simp [hq] at hs
    | some i =>
      have e : i.size = 1 := by simpa [hq] using hs
      simp [sizeOf, typeInfo, hq, e]
  rw [hso]
  simp only [Result.andThen_ok, Std.Legacy.Range.forIn_eq_forIn_range', Std.Legacy.Range.size, Nat.sub_zero, Nat.add_one_sub_one, Nat.div_one]
  have key : ∀ (k i : Nat), i + k = len → (forIn (m := Sem) (List.range' i k) ((none, ()) : Option Bool × Unit) fun i __s => do
            let a ← part elem (List.map (Value.int IntKind.u8) ys).toArray (i * 1)
            let b ← part elem (List.map (Value.int IntKind.u8) zs).toArray (i * 1)
            let r ← Op.equalIn (d + 1) elem a b
            if (!r) = true then pure (ForInStep.done (some false, ())) else pure (ForInStep.yield (none, ()))).run P w = .ok (if ys.drop i == zs.drop i then none else some false, ()) w := by
    intro k
    induction k with
    | zero =>
      intro i hi
      rw [List.drop_eq_nil_of_le (by omega), List.drop_eq_nil_of_le (by omega)]
      simp
    | succ k ih =>
      intro i hi
      have h1 : i < ys.length := by omega
      have h2 : i < zs.length := by omega
      have p1 := part_u8 (P := P) w elem (List.map (Value.int IntKind.u8) ys).toArray (i * 1) (.int .u8 ys[i]) he (by simp [h1])
      have p2 := part_u8 (P := P) w elem (List.map (Value.int IntKind.u8) zs).toArray (i * 1) (.int .u8 zs[i]) he (by simp [h2])
      rw [List.range'_succ, List.forIn_cons, Sem.run_bind, Sem.run_bind, p1]
      simp only [Result.andThen_ok, Sem.run_bind, p2, run_equalIn_int w d elem .u8 .u8 _ _ he]
      have hb : (ys.drop i == zs.drop i) = ((ys[i] == zs[i]) && (ys.drop (i + 1) == zs.drop (i + 1))) := by
        rw [List.drop_eq_getElem_cons h1, List.drop_eq_getElem_cons h2]; rfl
      rw [hb]
      by_cases e : ys[i] = zs[i]
      · rw [e]
        simp only [beq_self_eq_true, Bool.not_true, Bool.false_eq_true, if_false, Sem.run_pure, Result.andThen_ok]
        rw [ih (i + 1) (by omega)]
        simp only [Bool.true_and]
      · have e' : (ys[i] == zs[i]) = false := beq_eq_false_iff_ne.2 e
        rw [e']
        simp
  rw [key len 0 (by omega)]
  simp only [Result.andThen_ok, List.drop_zero]
  cases h : (ys == zs) <;> simp

theorem part_agg {P : Program} (w : World) (ty : TypeId) (d : TypeDesc) (n : Nat) (xs : Array Value) (off : Nat) (hu : P.underlying ty = some d) (hd : d.isRow = true) (hi : (P.info? ty).map (·.size) = some n) : (part ty xs off).run P w = .ok (.agg (xs.extract off (off + n))) w := by
  cases hq : P.info? ty with
  | none => simp [hq] at hi
  | some i =>
    have hs : i.size = n := by simpa [hq] using hi
    have hagg : (isAgg ty).run P w = .ok true w := by
      unfold isAgg
      rw [Sem.run_bind, run_underlying hu w]
      cases d <;> simp_all
    simp [part, Sem.run_bind, hagg, sizeOf, typeInfo, hq, hs]
theorem arr_flags (s : FS) : s.arr.extract 0 (0 + 4) = #[.bool s.u, .bool s.d, .bool s.r, .int .i64 s.p] := by
  unfold FS.arr FS.cells
  simp
theorem arr_bytes {s : FS} (hl : s.bs.length = 32) : s.arr.extract 5 (5 + 32) = (s.bs.map (Value.int .u8)).toArray := by
  unfold FS.arr FS.cells
  simp [hl]
  exact List.take_of_length_le (by simp [hl])
theorem info_flags : (Try.prog.info? 49).map (·.size) = some 4 := by kernel_rfl
theorem info_row : (Try.prog.info? 50).map (·.size) = some 32 := by kernel_rfl
theorem info_byte : (Try.prog.info? 5).map (·.size) = some 1 := by kernel_rfl
theorem eq_flags (w : World) (dp : Nat) (u d r u' d' r' : Bool) (p p' : Int) : (Op.equalIn (dp + 2) 49 (.agg #[.bool u, .bool d, .bool r, .int .i64 p]) (.agg #[.bool u', .bool d', .bool r', .int .i64 p'])).run Try.prog w = .ok ((u == u') && (d == d') && (r == r') && (p == p')) w := by
  have hF : Try.prog.underlying 49 = some (.struct (Try.prog.fieldsOf 49)) := by kernel_rfl
  rw [run_equalIn_agg _ _ _ _ _ hF (by kernel_rfl)]
  simp only [Program.fieldsOf, Try.underlying49]
  have q0 := fun (x y : Bool) => run_equalIn_bool' (P := Try.prog) w dp 4 x y Try.underlying4
  have q1 := fun (x y : Int) => run_equalIn_int (P := Try.prog) w dp 3 .i64 .i64 x y Try.underlying3
  simp only [Op.eqFields]
  go_simp
  by_cases h1 : u = u' <;> by_cases h2 : d = d' <;> by_cases h3 : r = r' <;> by_cases h4 : p = p' <;> simp [h1, h2, h3, h4]
theorem emp_eq (s : FS) : s.emp = ((((s.u == FS.empty.u) && (s.d == FS.empty.d) && (s.r == FS.empty.r) && (s.p == FS.empty.p)) && (s.q == FS.empty.q)) && (s.bs == FS.empty.bs)) := by
  obtain ⟨u, d, r, p, q, bs⟩ := s
  show (!u && !d && !r && (p == 0) && (q == 0) && (bs == z32)) = ((u == false) && (d == false) && (r == false) && (p == 0) && (q == 0) && (bs == z32))
  cases u <;> cases d <;> cases r <;> simp
theorem part_q (w : World) (s : FS) : (part 3 s.arr 4).run Try.prog w = .ok (.int .i64 s.q) w := by
  have hagg : (isAgg 3).run Try.prog w = .ok false w := by
    unfold isAgg
    rw [Sem.run_bind, run_underlying (P := Try.prog) Try.underlying3 w]
    rfl
  simp [part, Sem.run_bind, hagg, FS.arr, FS.cells]
theorem part_f (w : World) (s : FS) : (part 49 s.arr 0).run Try.prog w = .ok (.agg #[.bool s.u, .bool s.d, .bool s.r, .int .i64 s.p]) w := by
  have p0 := part_agg (P := Try.prog) w 49 _ 4 s.arr 0 Try.underlying49 rfl info_flags
  rwa [arr_flags] at p0
theorem part_b (w : World) (s : FS) (hl : s.bs.length = 32) : (part 50 s.arr 5).run Try.prog w = .ok (.agg (s.bs.map (Value.int .u8)).toArray) w := by
  have p0 := part_agg (P := Try.prog) w 50 _ 32 s.arr 5 Try.underlying50 rfl info_row
  rwa [arr_bytes hl] at p0
theorem three_fields {P : Program} (w : World) (d : Nat) (A B : Array Value) (f0 f1 f2 : Field) (n0 : f0.name ≠ "_") (n1 : f1.name ≠ "_") (n2 : f2.name ≠ "_") (a0 b0 a1 b1 a2 b2 : Value) (t0 t1 t2 : Bool)
    (p0 : (part f0.type A f0.offset).run P w = .ok a0 w) (q0 : (part f0.type B f0.offset).run P w = .ok b0 w) (e0 : (Op.equalIn d f0.type a0 b0).run P w = .ok t0 w)
    (p1 : (part f1.type A f1.offset).run P w = .ok a1 w) (q1 : (part f1.type B f1.offset).run P w = .ok b1 w) (e1 : (Op.equalIn d f1.type a1 b1).run P w = .ok t1 w)
    (p2 : (part f2.type A f2.offset).run P w = .ok a2 w) (q2 : (part f2.type B f2.offset).run P w = .ok b2 w) (e2 : (Op.equalIn d f2.type a2 b2).run P w = .ok t2 w) :
    (Op.eqFields d A B [f0, f1, f2]).run P w = .ok ((t0 && t1) && t2) w := by
  simp only [Op.eqFields, if_pos n0, if_pos n1, if_pos n2, Sem.run_bind, Sem.run_ite, p0, p1, p2, q0, q1, q2, e0, e1, e2, Result.andThen_ok]
  cases t0 <;> cases t1 <;> cases t2 <;> simp
theorem equal_frames (w : World) (s : FS) (hl : s.bs.length = 32) (n dp : Nat) (hn : n = dp + 3) : (Op.equalIn n 52 (.agg s.arr) (.agg FS.empty.arr)).run Try.prog w = .ok s.emp w := by
  subst hn
  have hA : Try.prog.underlying 52 = some (.struct (Try.prog.fieldsOf 52)) := by kernel_rfl
  have hS : Try.prog.stoodInHeld 52 = false := by kernel_rfl
  rw [run_equalIn_agg _ _ _ _ _ hA hS, emp_eq]
  simp only [Program.fieldsOf, Try.underlying52]
  exact three_fields (P := Try.prog) w (dp + 2) s.arr FS.empty.arr _ _ _ (by decide) (by decide) (by decide) _ _ _ _ _ _ _ _ _ (part_f w s) (part_f w FS.empty) (eq_flags w dp _ _ _ _ _ _ _ _) (part_q w s) (part_q w FS.empty) (run_equalIn_int (P := Try.prog) w (dp + 1) 3 .i64 .i64 _ _ Try.underlying3) (part_b w s hl) (part_b w FS.empty z32_len) (run_rows (P := Try.prog) w dp 50 5 32 s.bs FS.empty.bs Try.underlying50 Try.underlying5 info_byte hl z32_len)
/-- the program's comparison -/
theorem neq_frames (w : World) (s : FS) (hl : s.bs.length = 32) : (binOp .neq 52 (.agg s.arr) (.agg zeroF)).run Try.prog w = .ok (.bool (!s.emp)) w := by
  rw [← empty_arr, run_neq_struct, equal_frames w s hl 10000 9997 rfl]; rfl
theorem guard_neq (w : World) (x y : Operand) (s : FS) : (eqGuard .neq 52 x y (.agg s.arr) (.agg zeroF)).run Try.prog w = .ok () w := run_eqGuard_agg w .neq 52 x y s.arr zeroF (by kernel_rfl)
end Go.Proofs.Ytgpigllimoafaaa
