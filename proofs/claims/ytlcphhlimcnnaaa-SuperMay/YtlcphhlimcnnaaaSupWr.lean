/-
  The walks of a superblock's numbers, its bytes (Write), and of the document's (Bytes). Conditions: each theorem's own.
-/
import Derived.Test.YtlcphhlimcnnaaaSup
import Derived.Test.YtlcphhlimcnnaaaEnds
namespace Go.Proofs.Ytlcphhlimcnnaaa
open Go.RowKit
set_option linter.unusedVariables false
set_option linter.unusedSimpArgs false

theorem Try.infoI : (Try.prog.info? 3).map (fun i => (i.zero, i.size, i.bytes)) = some (some (.int .i64 0), 1, 8) := by kernel_rfl

/-- six numbers, laid behind a box -/
theorem six_new (w : World) (o : Obj) (x y z t u v : Int) (B : Nat) (hB : B ≤ w.heap.size + 1) : Own .i64 B ((w.alloc o).alloc (.cells #[.int .i64 x, .int .i64 y, .int .i64 z, .int .i64 t, .int .i64 u, .int .i64 v] 3)) (.slice (some ⟨w.heap.size + 1, 0, none⟩) 6 6) [x, y, z, t, u, v] := by
  have := own_row .i64 [x, y, z, t, u, v] 3 (w.alloc o) B (by rw [World.size_alloc]; exact hB) (by simp)
  rw [World.size_alloc] at this
  exact this
theorem three_new (w : World) (o : Obj) (x y z : Int) : Src Try.prog 1 54 (.slice (some ⟨w.heap.size + 1, 0, none⟩) 3 3) [x, y, z].length ([x, y, z].map (Value.int .i64)) ((w.alloc o).alloc (.cells #[.int .i64 x, .int .i64 y, .int .i64 z] 3)) := by
  have := own_row .i64 [x, y, z] 3 (w.alloc o) 0 (Nat.zero_le _) (by simp)
  rw [World.size_alloc] at this
  exact this.rd.src Try.underlying54
theorem three_one (w : World) (x y z : Int) : Src Try.prog 1 54 (.slice (some ⟨w.heap.size, 0, none⟩) 3 3) [x, y, z].length ([x, y, z].map (Value.int .i64)) (w.alloc (.cells #[.int .i64 x, .int .i64 y, .int .i64 z] 3)) :=
  (own_row .i64 [x, y, z] 3 w 0 (Nat.zero_le _) (by simp)).rd.src Try.underlying54
theorem exec_ints3 {w : World} {a : Act} {o : Oper} {x0 x1 x2 : Operand} {n0 n1 n2 : Int} (ho : o.op = .buildSlice 54 3 #[(0, x0), (1, x1), (2, x2)]) (h0 : a.eval x0 = .int .i64 n0) (h1 : a.eval x1 = .int .i64 n1) (h2 : a.eval x2 = .int .i64 n2) :
    (execOp a.eval o).run Try.prog w = .ok (.value (.slice (some ⟨w.heap.size, 0, none⟩) 3 3)) (w.alloc (.cells #[.int .i64 n0, .int .i64 n1, .int .i64 n2] 3)) := by
  generalize a.eval = ev at h0 h1 h2 ⊢
  simp only [execOp, ho, h0, h1, h2, List.mapM_cons, Array.map, Array.toList]
  go_simp

set_option maxHeartbeats 4000000 in
theorem snum_any {p : Nat → Prop} (ep fr dp se : Int) (v : Value) (ps : List Pt) (w : World) (h : RdP p w v ps) (hl : ps.length ≤ 100) :
    Calls Try.prog 26 #[.agg #[.int .i64 ep, .int .i64 fr, .int .i64 dp, .int .i64 se, v]] w fun e w' => ∃ v', e = .returned v' ∧ Own .i64 w.heap.size w' v' (nums ep fr dp se ps) ∧ Grow w w' := by
  obtain ⟨i0, hi, hz0, hz1, hz2⟩ := info_parts Try.infoI
  have HR : Hid (RdP p w v ps) := h
  obtain ⟨a, cp, rfl, h1, h2, -⟩ := h
  unfold maxLen at h2
  have H6 : Hid (Own .i64 w.heap.size ((w.alloc (.cells #[.int .i64 ep, .int .i64 fr, .int .i64 dp, .int .i64 se, .slice a ps.length cp] 36)).alloc (.cells #[.int .i64 1, .int .i64 ep, .int .i64 fr, .int .i64 dp, .int .i64 se, .int .i64 (ps.length : Int)] 3)) (.slice (some ⟨w.heap.size + 1, 0, none⟩) 6 6) [1, ep, fr, dp, se, (ps.length : Int)] ∧ Grow w ((w.alloc (.cells #[.int .i64 ep, .int .i64 fr, .int .i64 dp, .int .i64 se, .slice a ps.length cp] 36)).alloc (.cells #[.int .i64 1, .int .i64 ep, .int .i64 fr, .int .i64 dp, .int .i64 se, .int .i64 (ps.length : Int)] 3))) :=
    ⟨six_new w _ _ _ _ _ _ _ _ (by omega), ((Grow.refl w).alloc _).alloc _⟩
  go_enter Try.func26, Try.ntmps26
  go_wp2
  go_loopg [3, 5, 26] ps.length (fun k d m c wr => ∃ j : Nat, k = ps.length - j ∧ j ≤ ps.length ∧ c = .int .i64 j ∧ Hid (Own .i64 w.heap.size wr d ([1, ep, fr, dp, se, (ps.length : Int)] ++ pnums (ps.take j)) ∧ Grow w wr))
  case atStart => exact ⟨0, by omega, by omega, rfl, by simpa [pnums, Hid] using H6.out⟩
  case round =>
    clear H6
    obtain ⟨j, hk, hj, rfl, X⟩ := hrel
    by_cases hlt : j < ps.length
    · have hle : (j : Int) < (ps.length : Int) := by omega
      have HL : Hid (j < ps.length ∧ gk = ps.length - j) := ⟨hlt, hk⟩
      obtain ⟨bb, oo, rfl, _, _, hin⟩ := rdP_at HR.out hlt
      have hsn := pnums_next ps j hlt
      generalize ps.getD j Pt.zero = d at hin hsn
      obtain ⟨q0, q1, q2⟩ := d
      have HN : Hid ([1, ep, fr, dp, se, (ps.length : Int)] ++ pnums (ps.take (j + 1)) = ([1, ep, fr, dp, se, (ps.length : Int)] ++ pnums (ps.take j)) ++ [q0, q1, q2]) := by show _ = _; rw [hsn, ← List.append_assoc]; rfl
      obtain ⟨k0, k1, k2⟩ := hin.grow X.out.2
      clear hin hsn
      simp only at k0 k1 k2
      have hll : ([1, ep, fr, dp, se, (ps.length : Int)] ++ pnums (ps.take j)).length ≤ 1000 := by
        rw [List.length_append, pnums_length, List.length_take]; simp; omega
      have ho := X.out.1
      have hg := X.out.2
      generalize [1, ep, fr, dp, se, (ps.length : Int)] ++ pnums (ps.take j) = zs at HN hll ho
      clear X hk hj hlt
      have hw1 : IntKind.i64.wrap ((j : Int) + 1) = (j : Int) + 1 := by rw [IntKind.wrap_i64]; omega
      go_wp2_with (at_builtin; refine wpList_app rfl (.tmp 30) (.tmp 37) 54 54 rfl i0 (.int .i64 0) 8 Try.underlying54 hi hz0 hz1 hz2 rfl rfl rfl ((ho.alloc _).alloc _) (three_new wr _ q0 q1 q2) (by simp only [maxLen, List.length_cons, List.length_nil]; omega) (by simp only [List.length_cons, List.length_nil]; omega) (by have := hg.size; simp; omega) ?_)
      intro v' w' ho' hb'
      go_wp2
      go_roundg (ps.length - (j + 1))
      case measure => have := HL.out; omega
      case rel =>
        refine ⟨j + 1, rfl, HL.out.1, by go_num, ?_, Below.trans ((hg.alloc _).alloc _) hb'⟩
        rw [HN.out]; exact ho'
    · have hle : ¬ (j : Int) < (ps.length : Int) := by omega
      obtain rfl : j = ps.length := by omega
      have HX := X.out
      rw [List.take_length] at HX
      obtain ⟨ho, hg⟩ := HX
      have HS : Hid (Own .i64 w.heap.size wr _ (nums ep fr dp se ps)) := ho
      clear X ho
      go_wp2
      go_ret
      exact ⟨_, rfl, HS.out, hg⟩

theorem may_few {ep fr dp se : Int} {ps : List Pt} (h : mayS ep fr dp se ps = true) : ps.length ≤ 16 := by
  simp only [mayS, Bool.and_eq_true, decide_eq_true_eq] at h
  have := numF_zero (ck_zero h.2.2).1
  omega
theorem nums_small {ep fr dp se : Int} {ps : List Pt} (h : ps.length ≤ 16) : (leAll (nums ep fr dp se ps)).length ≤ 1000 ∧ (nums ep fr dp se ps).length ≤ 100 := by
  rw [leAll_length, nums_length]; omega

set_option maxHeartbeats 4000000 in
theorem write_yes {p : Nat → Prop} (ep fr dp se : Int) (v : Value) (ps : List Pt) (w : World) (h : RdP p w v ps) (hm : mayS ep fr dp se ps = true) :
    Calls Try.prog 11 #[.agg #[.int .i64 ep, .int .i64 fr, .int .i64 dp, .int .i64 se, v]] w fun e w' => ∃ v', e = .returned (.tuple #[v', .int .i64 0]) ∧ Own .u8 w.heap.size w' v' (sbytes ep fr dp se ps) ∧ Grow w w' := by
  have HI : Hid (VarAt (w.alloc (.cells #[.int .i64 ep, .int .i64 fr, .int .i64 dp, .int .i64 se, v] 36)) w.heap.size [.int .i64 ep, .int .i64 fr, .int .i64 dp, .int .i64 se, v] ∧ Grow w (w.alloc (.cells #[.int .i64 ep, .int .i64 fr, .int .i64 dp, .int .i64 se, v] 36))) := ⟨VarAt.new w [.int .i64 ep, .int .i64 fr, .int .i64 dp, .int .i64 se, v] _, (Grow.refl w).alloc _⟩
  have hlp := may_few hm
  have hc := fun w' (g : Grow w w') => smay_any ep fr dp se v ps w' (RdS.grow h g)
  rw [hm] at hc
  have hn := fun w' (g : Grow w w') => snum_any ep fr dp se v ps w' (RdS.grow h g) (by omega)
  obtain ⟨hl1, hl2⟩ := nums_small (ep := ep) (fr := fr) (dp := dp) (se := se) hlp
  have hob := oct_leAll (nums ep fr dp se ps)
  have HB : Hid (leAll (nums ep fr dp se ps) ++ le 4 (chk 0 (leAll (nums ep fr dp se ps)) : Nat) = sbytes ep fr dp se ps) := rfl
  obtain ⟨a, cp, rfl, h1, h2, -⟩ := h
  generalize nums ep fr dp se ps = L at hn hl1 hl2 hob HB
  generalize sbytes ep fr dp se ps = SB at HB ⊢
  clear hm hlp h1 h2
  generalize ps.length = n at *
  go_enter Try.func11, Try.ntmps11
  go_wp2_with fail
  refine (hc _ HI.out.2).mono ?_
  rintro e w2 ⟨rfl, g2⟩
  have X : Hid (Grow w w2) := HI.out.2.trans g2
  obtain ⟨⟨n0, n1, n2, n3, n4⟩, -⟩ := (HI.out.1.grow g2).five
  clear hc HI g2
  go_wp2_with fail
  refine (hn _ X.out).mono ?_
  rintro e w3 ⟨v3, rfl, ho3, g3⟩
  go_wp2_with fail
  refine (ints_any _ _ [] L _ _ _ (Rd.nil _ 0 _ none 0 (Nat.zero_le _)) ho3.rd (by simp) (by omega)).mono ?_
  rintro e w4 ⟨v4, rfl, ho4, b4⟩
  rw [List.nil_append] at ho4
  go_wp2_with fail
  refine (put_any _ (leAll L) _ _ ho4.rd hob (by omega)).mono ?_
  rintro e w5 ⟨v5, rfl, ho5, b5⟩
  rw [HB.out] at ho5
  have G3 : Grow w w3 := X.out.trans g3
  have G4 : Grow w w4 := G3.trans b4
  go_wp2
  go_ret2
  exact ⟨_, rfl, ho5.base (Nat.le_trans G4.size (Nat.le_refl _)), G4.trans b5⟩

set_option maxHeartbeats 4000000 in
theorem write_no {p : Nat → Prop} (ep fr dp se : Int) (v : Value) (ps : List Pt) (w : World) (h : RdP p w v ps) (hm : mayS ep fr dp se ps = false) :
    Calls Try.prog 11 #[.agg #[.int .i64 ep, .int .i64 fr, .int .i64 dp, .int .i64 se, v]] w fun e w' => e = .returned (.tuple #[.slice none 0 0, .int .i64 3]) ∧ Grow w w' := by
  have HI : Hid (Grow w (w.alloc (.cells #[.int .i64 ep, .int .i64 fr, .int .i64 dp, .int .i64 se, v] 36))) := (Grow.refl w).alloc _
  have hc := fun w' (g : Grow w w') => smay_any ep fr dp se v ps w' (RdS.grow h g)
  rw [hm] at hc
  obtain ⟨a, cp, rfl, h1, h2, -⟩ := h
  go_enter Try.func11, Try.ntmps11
  go_wp2_with fail
  refine (hc _ HI.out).mono ?_
  rintro e w2 ⟨rfl, g2⟩
  go_wp2
  go_ret2
  exact ⟨rfl, HI.out.trans g2⟩
end Go.Proofs.Ytlcphhlimcnnaaa
