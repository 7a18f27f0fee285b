/-
  Flags in memory: slices of them, one of them; what their type says. Conditions: each theorem's own.
-/
import Derived.Test.YtabhbeknpchpkaaClkMath
import Derived.Test.YtabhbeknpchpkaaAround
import Derived.Test.YtabhbeknpchpkaaEnds
import Derived.Test.YtabhbeknpchpkaaWords
namespace Go.Proofs.Ytabhbeknpchpkaa
open Go.RowKit
set_option linter.unusedVariables false
set_option linter.unusedSimpArgs false


theorem hid {p : Prop} (h : p) : Hid p := h
abbrev RdF (p : Nat → Prop) (w : World) (v : Value) (l : List Fl) : Prop := RdS Fl.cs 4 p w v l
abbrev OwnF (p : Nat → Prop) (w : World) (v : Value) (l : List Fl) : Prop := OwnS Fl.cs 4 p w v l
/-- flags' cells from a place on -/
def FIn (w : World) (b o : Nat) (x : Fl) : Prop := w.cell? ⟨b, o, none⟩ = some (.bool x.u) ∧ w.cell? ⟨b, o + 1, none⟩ = some (.bool x.d) ∧ w.cell? ⟨b, o + 2, none⟩ = some (.bool x.r) ∧ w.cell? ⟨b, o + 3, none⟩ = some (.int .i64 x.p)
theorem FIn.upd {S : Nat → Prop} {w w' : World} {b o : Nat} {x : Fl} (h : FIn w b o x) (hu : UpdS S w w') (hb : ¬ S b) : FIn w' b o x := by
  have hlt : b < w.heap.size := World.block_lt_of_cell? _ _ h.1
  obtain ⟨h0, h1, h2, h3⟩ := h
  refine ⟨?_, ?_, ?_, ?_⟩
  · rw [hu.cell (p := ⟨b, o, none⟩) hlt hb]; exact h0
  · rw [hu.cell (p := ⟨b, o + 1, none⟩) hlt hb]; exact h1
  · rw [hu.cell (p := ⟨b, o + 2, none⟩) hlt hb]; exact h2
  · rw [hu.cell (p := ⟨b, o + 3, none⟩) hlt hb]; exact h3
theorem FIn.grow {w w' : World} {b o : Nat} {x : Fl} (h : FIn w b o x) (hu : Grow w w') : FIn w' b o x := h.upd (S := fun _ => False) hu.s (fun f => f)
theorem rdF_at {p : Nat → Prop} {w : World} {a : Option Addr} {n c : Nat} {l : List Fl} (h : RdF p w (.slice a n c) l) {i : Nat} (hi : i < l.length) : ∃ b o, a = some ⟨b, o, none⟩ ∧ p b ∧ b < w.heap.size ∧ FIn w b (o + i * 4) (l.getD i Fl.zero) := by
  obtain ⟨b, o, e, hb, hlt, hc⟩ := RdS.at h Fl.cs_length Fl.zero hi
  exact ⟨b, o, e, hb, hlt, hc 0 (by omega), hc 1 (by omega), hc 2 (by omega), hc 3 (by omega)⟩
theorem rdF_addr {p : Nat → Prop} {w : World} {a : Option Addr} {n c : Nat} {l : List Fl} (h : RdF p w (.slice a n c) l) (h0 : 0 < l.length) : ∃ b o, a = some ⟨b, o, none⟩ ∧ p b := by
  obtain ⟨b, o, e, hb, _⟩ := rdF_at h h0
  exact ⟨b, o, e, hb⟩
theorem rdF_in {p : Nat → Prop} {w : World} {b o n c : Nat} {l : List Fl} (h : RdF p w (.slice (some ⟨b, o, none⟩) n c) l) {i : Nat} (hi : i < l.length) : FIn w b (o + i * 4) (l.getD i Fl.zero) := by
  obtain ⟨b', o', e, _, _, hf⟩ := rdF_at h hi
  injection e with e
  injection e with e1 e2
  subst e1; subst e2
  exact hf
theorem infoF : (Try.prog.info? 40).map (fun i => (i.zero, i.size, i.bytes)) = some (some (.agg #[.bool false, .bool false, .bool false, .int .i64 0]), 4, 16) := by kernel_rfl
theorem infoG : (Try.prog.info? 43).map (fun i => (i.zero, i.size, i.bytes)) = some (some (.agg #[.bool false, .bool false, .bool false, .int .i64 0]), 4, 16) := by kernel_rfl
theorem take_next {l : List Fl} {j : Nat} (hj : j < l.length) : l.take (j + 1) = l.take j ++ [l.getD j Fl.zero] := by
  rw [getD_is hj, List.take_succ_eq_append_getElem hj]
theorem take_len {l : List Fl} {j : Nat} (hj : j ≤ l.length) : (l.take j).length = j := by rw [List.length_take]; omega

/-- one laid in a new block, and read there -/
theorem exec_oneF {w : World} {o : Oper} {a : Act} {y : Operand} {x : Fl} (ho : o.op = .buildSlice 22 1 #[(0, y)]) (hy : a.eval y = .agg #[.bool x.u, .bool x.d, .bool x.r, .int .i64 x.p]) :
    (execOp a.eval o).run Try.prog w = .ok (.value (.slice (some ⟨w.heap.size, 0, none⟩) 1 1)) (w.alloc (.cells #[.bool x.u, .bool x.d, .bool x.r, .int .i64 x.p] 40)) := by
  generalize a.eval = ev at hy ⊢
  simp only [execOp, ho, hy, List.mapM_cons, Array.map, Array.toList]
  go_simp
theorem rd_oneF (w : World) (x : Fl) : RdF (fun i => i = w.heap.size) (w.alloc (.cells #[.bool x.u, .bool x.d, .bool x.r, .int .i64 x.p] 40)) (.slice (some ⟨w.heap.size, 0, none⟩) 1 1) [x] :=
  rdS_new (f := Fl.cs) (k := 4) w 40 [x] Fl.cs_length (by simp [maxLen])
theorem src_oneF (w : World) (x : Fl) : Src Try.prog 4 22 (.slice (some ⟨w.heap.size, 0, none⟩) 1 1) [x].length ([x].flatMap Fl.cs) (w.alloc (.cells #[.bool x.u, .bool x.d, .bool x.r, .int .i64 x.p] 40)) := (rd_oneF w x).src Fl.cs_length Fl.cs_one Try.underlying22
theorem load_F (b : Nat) (x : Fl) (w : World) (h : VarAt w b x.cs) : (loadVar 40 ⟨b, 0, none⟩).run Try.prog w = .ok (.agg #[.bool x.u, .bool x.d, .bool x.r, .int .i64 x.p]) w := by
  obtain ⟨⟨h0, h1, h2, h3⟩, -⟩ := h.four
  go_simp
/-- one laid in a new block, and read there -/
theorem exec_oneG {w : World} {o : Oper} {a : Act} {y : Operand} {x : Fl} (ho : o.op = .buildSlice 24 1 #[(0, y)]) (hy : a.eval y = .agg #[.bool x.u, .bool x.d, .bool x.r, .int .i64 x.p]) :
    (execOp a.eval o).run Try.prog w = .ok (.value (.slice (some ⟨w.heap.size, 0, none⟩) 1 1)) (w.alloc (.cells #[.bool x.u, .bool x.d, .bool x.r, .int .i64 x.p] 43)) := by
  generalize a.eval = ev at hy ⊢
  simp only [execOp, ho, hy, List.mapM_cons, Array.map, Array.toList]
  go_simp
theorem rd_oneG (w : World) (x : Fl) : RdF (fun i => i = w.heap.size) (w.alloc (.cells #[.bool x.u, .bool x.d, .bool x.r, .int .i64 x.p] 43)) (.slice (some ⟨w.heap.size, 0, none⟩) 1 1) [x] :=
  rdS_new (f := Fl.cs) (k := 4) w 43 [x] Fl.cs_length (by simp [maxLen])
theorem src_oneG (w : World) (x : Fl) : Src Try.prog 4 24 (.slice (some ⟨w.heap.size, 0, none⟩) 1 1) [x].length ([x].flatMap Fl.cs) (w.alloc (.cells #[.bool x.u, .bool x.d, .bool x.r, .int .i64 x.p] 43)) := (rd_oneG w x).src Fl.cs_length Fl.cs_one Try.underlying24
theorem load_G (b : Nat) (x : Fl) (w : World) (h : VarAt w b x.cs) : (loadVar 43 ⟨b, 0, none⟩).run Try.prog w = .ok (.agg #[.bool x.u, .bool x.d, .bool x.r, .int .i64 x.p]) w := by
  obtain ⟨⟨h0, h1, h2, h3⟩, -⟩ := h.four
  go_simp

set_option maxHeartbeats 1000000 in
theorem next_any (i n : Nat) (w : World) (hn : 0 < n) (hi : i ≤ 1000000) (hm : n ≤ 1000000) : Calls Try.prog 22 #[.int .i64 i, .int .i64 n] w fun e w' => e = .returned (.int .i64 (((i + 1) % n : Nat) : Int)) ∧ w = w' := by
  have hw : IntKind.i64.wrap ((i : Int) + 1) = (i : Int) + 1 := by rw [IntKind.wrap_i64]; omega
  have hn' : ¬ (n : Int) = 0 := by omega
  have ht : Int.tmod ((i : Int) + 1) (n : Int) = (((i + 1) % n : Nat) : Int) := by
    rw [Int.tmod_eq_emod_of_nonneg (by omega)]; rfl
  generalize (i + 1) % n = z at ht
  go_enter Try.func22, Try.ntmps22
  go_wp2
  go_ret
  refine ⟨ret_int ?_, rfl⟩
  first | exact ht | (rw [← ht, Int.tmod_eq_emod_of_nonneg (by omega)]) | simp [ht]

set_option maxHeartbeats 1000000 in
theorem ffree_any (b o : Nat) (x : Fl) (w : World) (h : FIn w b o x) : Calls Try.prog 23 #[.pointer (some ⟨b, o, none⟩)] w fun e w' => e = .returned (.bool (decide (x.p ≤ 0))) ∧ w = w' := by
  obtain ⟨h0, h1, h2, h3⟩ := h
  go_enter Try.func23, Try.ntmps23
  go_wp2
  go_ret
  exact ⟨rfl, rfl⟩

set_option maxHeartbeats 1000000 in
theorem goes_any (x : Fl) (w : World) (hp : 0 ≤ x.p) : Calls Try.prog 20 #[.agg #[.bool x.u, .bool x.d, .bool x.r, .int .i64 x.p]] w fun e w' => e = .returned (.bool x.may) ∧ Grow w w' := by
  have HV := VarAt.new w x.cs 43
  have HG : Hid (Grow w (w.alloc (.cells x.cs.toArray 43))) := (Grow.refl w).alloc _
  obtain ⟨⟨h0, h1, h2, h3⟩, -⟩ := HV.four
  obtain ⟨u, d, r, p⟩ := x
  have HM : Hid ((Fl.mk u d r p).may = (!u || (p == 0))) := by
    show (!u || decide (p ≤ 0)) = _
    have hp' : 0 ≤ p := hp
    congr 1
    by_cases e : p = 0
    · subst e; rfl
    · rw [beq_eq_false_iff_ne.2 e]; simp; omega
  simp only [Fl.cs] at h0 h1 h2 h3 HG
  clear hp HV
  cases u
  · go_enter Try.func20, Try.ntmps20
    go_wp2
    go_ret
    exact ⟨ret_bool (by rw [HM.out]; rfl), HG.out⟩
  · go_enter Try.func20, Try.ntmps20
    go_wp2
    go_ret
    exact ⟨ret_bool (by rw [HM.out]; simp), HG.out⟩
end Go.Proofs.Ytabhbeknpchpkaa
