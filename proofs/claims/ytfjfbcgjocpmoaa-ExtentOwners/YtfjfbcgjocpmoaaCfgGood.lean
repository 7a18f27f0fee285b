/-
  The walk of the document's Good. Conditions: the theorem's own.
-/
import Derived.Test.YtfjfbcgjocpmoaaCfgFew
import Derived.Test.YtfjfbcgjocpmoaaTree
import Derived.Deep.CutRange
namespace Go.Proofs.Ytfjfbcgjocpmoaa
open Go.RowKit
set_option linter.unusedVariables false
set_option linter.unusedSimpArgs false

theorem zeroP (w : World) : (zeroValue 46).run Try.prog w = .ok (.agg #[.int .i64 0, .int .i64 0, .int .i64 0]) w := by go_simp
theorem exec_alloc {P : Program} {w : World} {ev : Operand → Value} {d : Option Tmp} {t ty : TypeId} {p : String} {af : Array Edge} {g : Option (Nat × Bool)} (cs : Array Value) (hz : ∀ w, (zeroValue t).run P w = .ok (.agg cs) w) :
    (execOp ev ⟨d, .alloc t, ty, p, af, g⟩).run P w = .ok (.value (.pointer (some ⟨w.heap.size, 0, none⟩))) (w.alloc (.cells cs t)) := by
  have hrun : (Instr.alloc t true (.tuple #[])).run P w = .ok (.pointer (some ⟨w.heap.size, 0, none⟩)) (w.alloc (.cells cs t)) := by
    simp [Instr.alloc, hz, newVar, newRow, Value.cells, Result.andThen]
  simp [execOp, hrun, Result.andThen]
theorem VarAt.set3 {w : World} {b : Nat} {x0 x1 x2 : Value} (h : VarAt w b [x0, x1, x2]) (x y z : Value) : VarAt (((w.setCell ⟨b, 0, none⟩ x).setCell ⟨b, 1, none⟩ y).setCell ⟨b, 2, none⟩ z) b [x, y, z] :=
  ((h.set 0 x).set 1 y).set 2 z
theorem upd_three (w : World) (b : Nat) (x y z : Value) : UpdS (fun k => k = b) w (((w.setCell ⟨b, 0, none⟩ x).setCell ⟨b, 1, none⟩ y).setCell ⟨b, 2, none⟩ z) :=
  ((upd_one w b 0 x).trans (upd_one _ b 1 y)).trans (upd_one _ b 2 z)

theorem around3 (n : Int) : 0 ≤ around n 3 ∧ around n 3 ≤ 2 := by have := around_bd n 3 (by omega); omega
theorem around4 (n : Int) : 0 ≤ around n 4 ∧ around n 4 ≤ 3 := by have := around_bd n 4 (by omega); omega
theorem small_snoc {qs : List Pt} {d : Pt} (h : ∀ x ∈ qs, Small x) (hd : Small d) : ∀ x ∈ qs ++ [d], Small x := by
  intro x hx
  rcases List.mem_append.1 hx with h1 | h1
  · exact h x h1
  · rw [List.mem_singleton.1 h1]; exact hd
theorem qsum_snoc (qs : List Pt) (d : Pt) : qsum (qs ++ [d]) = qsum qs + d.q := by rw [qsum_append]; simp [qsum]
theorem zero_ok : Pt.zero.Ok := ⟨⟨by decide, by decide⟩, ⟨by decide, by decide⟩, ⟨by decide, by decide⟩⟩

set_option maxHeartbeats 8000000 in
theorem good_big {p : Nat → Prop} (fr dp se : Int) (v : Value) (ps : List Pt) (w : World) (h : RdP p w v ps) (hok : ∀ x ∈ ps, x.Ok) (hdp : W64 dp) (hse : W64 se) (hle : ¬ ps.length ≤ 4) :
    Calls Try.prog 8 #[.agg #[.int .i64 fr, .int .i64 dp, .int .i64 se, v]] w fun e w' => ∃ fr' dp' se' v' ps', e = .returned (.agg #[.int .i64 fr', .int .i64 dp', .int .i64 se', v']) ∧ GoodC fr' dp' se' ps' ∧ RdP (fun i => w.heap.size ≤ i) w' v' ps' ∧ Grow w w' := by
  obtain ⟨i0, hinf, hz0, hz1, hz2⟩ := info_parts infoP
  have HI : Hid (VarAt ((w.alloc (.cells #[.int .i64 fr, .int .i64 dp, .int .i64 se, v] 24)).alloc (.cells #[.int .i64 (0 : Int), .int .i64 (0 : Int), .int .i64 (0 : Int), .slice none 0 0] 24)) w.heap.size [.int .i64 fr, .int .i64 dp, .int .i64 se, v] ∧ VarAt ((w.alloc (.cells #[.int .i64 fr, .int .i64 dp, .int .i64 se, v] 24)).alloc (.cells #[.int .i64 (0 : Int), .int .i64 (0 : Int), .int .i64 (0 : Int), .slice none 0 0] 24)) (w.heap.size + 1) [.int .i64 (0 : Int), .int .i64 (0 : Int), .int .i64 (0 : Int), .slice none 0 0] ∧ Grow w ((w.alloc (.cells #[.int .i64 fr, .int .i64 dp, .int .i64 se, v] 24)).alloc (.cells #[.int .i64 (0 : Int), .int .i64 (0 : Int), .int .i64 (0 : Int), .slice none 0 0] 24))) := two_new
  have HR : Hid (RdP p w v ps ∧ (∀ x ∈ ps, x.Ok)) := ⟨h, hok⟩
  obtain ⟨a, cp, rfl, h1, h2, -⟩ := h
  unfold maxLen at h2
  have har4 := fun w' => around_any dp 4 w' (wf_of hdp) (by omega) (by omega)
  have har3 := fun w' => around_any se 3 w' (wf_of hse) (by omega) (by omega)
  have hA4 := around4 dp
  have hA3 := around3 se
  generalize around dp 4 = D at har4 hA4
  generalize around se 3 = S3 at har3 hA3
  obtain ⟨dp', hdp'⟩ : ∃ dp', dp' = 1 + D := ⟨_, rfl⟩
  have hwd : IntKind.i64.wrap (1 + D) = dp' := by rw [IntKind.wrap_i64]; omega
  have HD : Hid (1 ≤ dp' ∧ dp' ≤ 4) := ⟨by omega, by omega⟩
  clear hdp' hA4 hok hdp hse
  have hle' : ¬ (ps.length : Int) ≤ 4 := by omega
  have hlt' : (4 : Int) < (ps.length : Int) := by omega
  have hmin : min (ps.length : Int) 4 = 4 := by omega
  have HL0 : Hid ((ps.take 4).length = 4 ∧ 1 ≤ 4 ∧ 4 ≤ 4 ∧ ∀ x ∈ ps.take 4, x.Ok) := ⟨by rw [List.length_take]; omega, by omega, by omega, fun x hx => HR.out.2 x (List.mem_of_mem_take hx)⟩
  have X0 : Hid (VarAt ((w.alloc (.cells #[.int .i64 fr, .int .i64 dp, .int .i64 se, .slice a ps.length cp] 24)).alloc (.cells #[.int .i64 (0 : Int), .int .i64 (0 : Int), .int .i64 (0 : Int), .slice none 0 0] 24)) w.heap.size [.int .i64 fr, .int .i64 dp, .int .i64 se, .slice a ps.length cp] ∧ VarAt ((w.alloc (.cells #[.int .i64 fr, .int .i64 dp, .int .i64 se, .slice a ps.length cp] 24)).alloc (.cells #[.int .i64 (0 : Int), .int .i64 (0 : Int), .int .i64 (0 : Int), .slice none 0 0] 24)) (w.heap.size + 1) [.int .i64 (0 : Int), .int .i64 (0 : Int), .int .i64 (0 : Int), .slice none 0 0] ∧ RdP (fun i => i < ((w.alloc (.cells #[.int .i64 fr, .int .i64 dp, .int .i64 se, .slice a ps.length cp] 24)).alloc (.cells #[.int .i64 (0 : Int), .int .i64 (0 : Int), .int .i64 (0 : Int), .slice none 0 0] 24)).heap.size) ((w.alloc (.cells #[.int .i64 fr, .int .i64 dp, .int .i64 se, .slice a ps.length cp] 24)).alloc (.cells #[.int .i64 (0 : Int), .int .i64 (0 : Int), .int .i64 (0 : Int), .slice none 0 0] 24)) (.slice a 4 cp) (ps.take 4) ∧ Grow w ((w.alloc (.cells #[.int .i64 fr, .int .i64 dp, .int .i64 se, .slice a ps.length cp] 24)).alloc (.cells #[.int .i64 (0 : Int), .int .i64 (0 : Int), .int .i64 (0 : Int), .slice none 0 0] 24))) :=
    ⟨HI.out.1, HI.out.2.1, RdS.mono (RdS.take (RdS.grow HR.out.1 HI.out.2.2) Pt.cs_length 4 (by omega)) (fun i hi _ => hi), HI.out.2.2⟩
  go_enter Try.func8, Try.ntmps8
  go_wp2_with fail
  obtain ⟨b1, hb1⟩ : ∃ b1, b1 = w.heap.size := ⟨_, rfl⟩
  obtain ⟨b2, hb2⟩ : ∃ b2, b2 = w.heap.size + 1 := ⟨_, rfl⟩
  have HB : Hid (b1 = w.heap.size ∧ b2 = w.heap.size + 1) := ⟨hb1, hb2⟩
  generalize ((w.alloc (.cells #[.int .i64 fr, .int .i64 dp, .int .i64 se, .slice a ps.length cp] 24)).alloc (.cells #[.int .i64 (0 : Int), .int .i64 (0 : Int), .int .i64 (0 : Int), .slice none 0 0] 24)) = w2 at X0 ⊢
  rw [← hb2, ← hb1] at X0 ⊢
  have X := X0
  clear hb1 hb2 X0 HI
  generalize ps.take 4 = ls at HL0 X
  go_wp2_with fail
  refine (har4 _).mono ?_
  rintro e w' ⟨rfl, rfl⟩
  obtain ⟨⟨m0, m1, m2, m3⟩, -⟩ := X.out.1.four
  have HI4 : Hid (VarAt (w2.alloc (.cells #[.int .i64 (0 : Int), .int .i64 dp', .int .i64 (0 : Int), .slice none 0 0] 24)) w2.heap.size [.int .i64 (0 : Int), .int .i64 dp', .int .i64 (0 : Int), .slice none 0 0] ∧ Grow w2 (w2.alloc (.cells #[.int .i64 (0 : Int), .int .i64 dp', .int .i64 (0 : Int), .slice none 0 0] 24))) := ⟨VarAt.new w2 [.int .i64 (0 : Int), .int .i64 dp', .int .i64 (0 : Int), .slice none 0 0] _, (Grow.refl w2).alloc _⟩
  go_wp2
  clear m0 m1 m2 m3 har4 hwd
  generalize w2.alloc (.cells #[.int .i64 (0 : Int), .int .i64 dp', .int .i64 (0 : Int), .slice none 0 0] 24) = w3 at HI4 ⊢
  have Y : Hid (VarAt w3 b1 [.int .i64 fr, .int .i64 dp, .int .i64 se, .slice a ps.length cp] ∧ VarAt w3 b2 [.int .i64 (0 : Int), .int .i64 (0 : Int), .int .i64 (0 : Int), .slice none 0 0] ∧ VarAt w3 w2.heap.size [.int .i64 (0 : Int), .int .i64 dp', .int .i64 (0 : Int), .slice none 0 0] ∧ RdP (fun i => i < w2.heap.size) w3 (.slice a 4 cp) ls ∧ Grow w w3 ∧ b1 < w2.heap.size ∧ b2 < w2.heap.size ∧ w.heap.size ≤ w2.heap.size) :=
    ⟨X.out.1.grow HI4.out.2, X.out.2.1.grow HI4.out.2, HI4.out.1, RdS.grow X.out.2.2.1 HI4.out.2, X.out.2.2.2.trans HI4.out.2, X.out.1.lt, X.out.2.1.lt, X.out.2.2.2.size⟩
  clear HI4 X
  generalize w2.heap.size = b4 at Y ⊢
  have HB4 : Hid (b1 < b4 ∧ b2 < b4 ∧ w.heap.size ≤ b4 ∧ b1 = w.heap.size ∧ b2 = w.heap.size + 1) := ⟨Y.out.2.2.2.2.2.1, Y.out.2.2.2.2.2.2.1, Y.out.2.2.2.2.2.2.2, HB.out.1, HB.out.2⟩
  clear HB w2
  go_loopg [5, 6] (4) (fun m av iv wr => ∃ (j : Nat) (at1 : Int), m = 4 - j ∧ j ≤ 4 ∧ av = .int .i64 at1 ∧ iv = .int .i64 j ∧ 0 ≤ at1 ∧ at1 ≤ 10 * j ∧ Hid (∃ (vv : Value) (qs : List Pt), VarAt wr b1 [.int .i64 fr, .int .i64 dp, .int .i64 se, .slice a ps.length cp] ∧ VarAt wr b2 [.int .i64 (0 : Int), .int .i64 (0 : Int), .int .i64 (0 : Int), .slice none 0 0] ∧ VarAt wr b4 [.int .i64 (qsum qs), .int .i64 dp', .int .i64 (0 : Int), vv] ∧ OwnP (fun i => b4 < i) wr vv qs ∧ qs.length = j ∧ chain 0 qs at1 ∧ (∀ x ∈ qs, Small x) ∧ RdP (fun i => i < b4) wr (.slice a 4 cp) ls ∧ Grow w wr))
  case atStart => exact ⟨0, 0, by omega, by omega, rfl, rfl, by omega, by omega, .slice none 0 0, [], Y.out.1, Y.out.2.1, Y.out.2.2.1, OwnS.nil _ _ _ _ _, rfl, rfl, (fun x hx => by cases hx), Y.out.2.2.2.1, Y.out.2.2.2.2.1⟩
  case round =>
    clear Y
    obtain ⟨j, at1, hk, hj, rfl, rfl, ha0, ha1, vv, qs, X0⟩ := hrel
    by_cases hlt : j < 4
    · have hle : (j : Int) < 4 := by omega
      have HK : Hid (j < 4 ∧ gk = 4 - j) := ⟨hlt, hk⟩
      have hj4 : j < 4 := by have := HL0.out.2.2.1; omega
      have hlt : j < ls.length := by have := HL0.out.1; omega
      have hw1 : IntKind.i64.wrap ((j : Int) + 1) = (j : Int) + 1 := by rw [IntKind.wrap_i64]; omega
      obtain ⟨bb, oo, hal, hbb, hbl, hin⟩ := rdP_at X0.2.2.2.2.2.2.2.1 hlt
      subst hal
      have hdo := HL0.out.2.2.2 _ (getD_mem hlt)
      generalize ls.getD j Pt.zero = d at hin hdo
      have hq := fun w' => around_any d.q 3 w' (wf_of hdo.1) (by omega) (by omega)
      have hb := fun w' => around_any d.b 3 w' (wf_of hdo.2.1) (by omega) (by omega)
      have hg := fun w' => around_any d.g 4 w' (wf_of hdo.2.2) (by omega) (by omega)
      have hq3 := around3 d.q
      have hb3 := around3 d.b
      have hg4 := around4 d.g
      generalize around d.q 3 = q1 at hq hq3
      generalize around d.b 3 = bq1 at hb hb3
      generalize around d.g 4 = g1 at hg hg4
      have hwq : IntKind.i64.wrap (1 + q1) = 1 + q1 := by rw [IntKind.wrap_i64]; omega
      have hwb : IntKind.i64.wrap (at1 + bq1) = at1 + bq1 := by rw [IntKind.wrap_i64]; omega
      have hwg : IntKind.i64.wrap (1 + g1) = 1 + g1 := by rw [IntKind.wrap_i64]; omega
      have hw2 : IntKind.i64.wrap (2 * (1 + g1)) = 2 * (1 + g1) := by rw [IntKind.wrap_i64]; omega
      have hw3 : IntKind.i64.wrap (at1 + bq1 + 2 * (1 + g1)) = at1 + bq1 + 2 * (1 + g1) := by rw [IntKind.wrap_i64]; omega
      have HX : Hid (PIn wr bb (oo + j * 3) d) := hin
      clear hin hdo hk hj hlt
      go_upto_region 9 with fail
      go_cut [7] from 25 to 71 (fun pv wx => ∃ b7 : Nat, pv = .pointer (some ⟨b7, 0, none⟩) ∧ Hid (VarAt wx b7 [.int .i64 (1 + q1), .int .i64 (at1 + bq1), .int .i64 (1 + g1)] ∧ Grow wr wx ∧ wr.heap.size ≤ b7))
      case first =>
        have kx : ∀ w', UpdS (fun i => wr.heap.size ≤ i) wr.drew w' → PIn w' bb (oo + j * 3) d := fun w' h => (HX.out.grow (Grow.refl wr).drew).upd h (by have := World.block_lt_of_cell? _ _ HX.out.1; omega)
        refine wp_region_treeG (UpdS (fun i => wr.heap.size ≤ i)) (UpdS.refl _) (fun _ _ _ => UpdS.trans) (by kernel_rfl) (.read 0 (.read 1 (.read 2 (.read 3 (.read 4 (.read 7 (.read 8 (.read 9 (.read 10 (.read 11 (.read 12 (.read 15 (.read 16 (.read 17 (.read 18 (.read 19 (.fork 5 (.read 6 (.fork 13 (.read 14 (.fork 20 (.read 21 (.read 22 (.act 23 (.act 24 .done)))) 23 (.act 20 (.read 21 (.read 22 (.act 24 .done)))))) 23 (.act 13 (.read 14 (.act 20 (.read 21 (.read 22 (.act 24 .done)))))))) 23 (.act 5 (.read 6 (.act 13 (.read 14 (.act 20 (.read 21 (.read 22 (.act 24 .done))))))))))))))))))))))))) (by kernel_rfl) (by kernel_rfl) rfl (fun _ _ d _ _ h => by cases d <;> exact h) ?_
        simp only [Tr.over, List.getElem?_toArray, List.getElem?_cons_zero, List.getElem?_cons_succ]
        repeat (first
          | (refine wpT_move rfl ?_; simp only [Act.eval, Act.put, Array.getD_eq_getD_getElem?, List.getElem?_toArray, List.getElem?_cons_zero, List.getElem?_cons_succ, Option.getD_some, List.setIfInBounds_toArray, List.set_cons_zero, List.set_cons_succ])
          | (refine wpT_assign rfl ?_; simp only [Act.eval, Act.put, Array.getD_eq_getD_getElem?, List.getElem?_toArray, List.getElem?_cons_zero, List.getElem?_cons_succ, Option.getD_some, List.setIfInBounds_toArray, List.set_cons_zero, List.set_cons_succ])
          | (refine wpT_read (v := ?_) rfl ?_ ?_; rotate_left; (focus (intro w' hG; obtain ⟨k0, k1, k2⟩ := kx w' hG; go_simp; try (with_reducible rfl))); simp only [Act.put, List.setIfInBounds_toArray, List.set_cons_zero, List.set_cons_succ])
          | (refine wpT_skip rfl ?_; simp only [Act.put, List.setIfInBounds_toArray, List.set_cons_zero, List.set_cons_succ]))
        refine wpT_fork ?_ ?_
        · skip
          refine wpT_call (f := ?_) (args := ?_) (by rfl) ?_ ?_
          rotate_left 2; focus (go_simp; constructor <;> with_reducible rfl)
          refine (hq _).mono ?_
          rintro e w5 ⟨rfl, rfl⟩
          refine ⟨_, rfl, UpdS.refl _ _, ?_⟩
          simp only [Act.put, List.setIfInBounds_toArray, List.set_cons_zero, List.set_cons_succ]
          repeat (first
            | (refine wpT_move rfl ?_; simp only [Act.eval, Act.put, Array.getD_eq_getD_getElem?, List.getElem?_toArray, List.getElem?_cons_zero, List.getElem?_cons_succ, Option.getD_some, List.setIfInBounds_toArray, List.set_cons_zero, List.set_cons_succ])
            | (refine wpT_assign rfl ?_; simp only [Act.eval, Act.put, Array.getD_eq_getD_getElem?, List.getElem?_toArray, List.getElem?_cons_zero, List.getElem?_cons_succ, Option.getD_some, List.setIfInBounds_toArray, List.set_cons_zero, List.set_cons_succ])
            | (refine wpT_read (v := ?_) rfl ?_ ?_; rotate_left; (focus (intro w' hG; skip; go_simp; try (with_reducible rfl))); simp only [Act.put, List.setIfInBounds_toArray, List.set_cons_zero, List.set_cons_succ])
            | (refine wpT_skip rfl ?_; simp only [Act.put, List.setIfInBounds_toArray, List.set_cons_zero, List.set_cons_succ]))
          refine wpT_fork ?_ ?_
          · skip
            refine wpT_call (f := ?_) (args := ?_) (by rfl) ?_ ?_
            rotate_left 2; focus (go_simp; constructor <;> with_reducible rfl)
            refine (hb _).mono ?_
            rintro e w5 ⟨rfl, rfl⟩
            refine ⟨_, rfl, UpdS.refl _ _, ?_⟩
            simp only [Act.put, List.setIfInBounds_toArray, List.set_cons_zero, List.set_cons_succ]
            repeat (first
              | (refine wpT_move rfl ?_; simp only [Act.eval, Act.put, Array.getD_eq_getD_getElem?, List.getElem?_toArray, List.getElem?_cons_zero, List.getElem?_cons_succ, Option.getD_some, List.setIfInBounds_toArray, List.set_cons_zero, List.set_cons_succ])
              | (refine wpT_assign rfl ?_; simp only [Act.eval, Act.put, Array.getD_eq_getD_getElem?, List.getElem?_toArray, List.getElem?_cons_zero, List.getElem?_cons_succ, Option.getD_some, List.setIfInBounds_toArray, List.set_cons_zero, List.set_cons_succ])
              | (refine wpT_read (v := ?_) rfl ?_ ?_; rotate_left; (focus (intro w' hG; skip; go_simp; try (with_reducible rfl))); simp only [Act.put, List.setIfInBounds_toArray, List.set_cons_zero, List.set_cons_succ])
              | (refine wpT_skip rfl ?_; simp only [Act.put, List.setIfInBounds_toArray, List.set_cons_zero, List.set_cons_succ]))
            refine wpT_fork ?_ ?_
            · skip
              refine wpT_call (f := ?_) (args := ?_) (by rfl) ?_ ?_
              rotate_left 2; focus (go_simp; constructor <;> with_reducible rfl)
              refine (hg _).mono ?_
              rintro e w5 ⟨rfl, rfl⟩
              refine ⟨_, rfl, UpdS.refl _ _, ?_⟩
              simp only [Act.put, List.setIfInBounds_toArray, List.set_cons_zero, List.set_cons_succ]
              repeat (first
                | (refine wpT_move rfl ?_; simp only [Act.eval, Act.put, Array.getD_eq_getD_getElem?, List.getElem?_toArray, List.getElem?_cons_zero, List.getElem?_cons_succ, Option.getD_some, List.setIfInBounds_toArray, List.set_cons_zero, List.set_cons_succ])
                | (refine wpT_assign rfl ?_; simp only [Act.eval, Act.put, Array.getD_eq_getD_getElem?, List.getElem?_toArray, List.getElem?_cons_zero, List.getElem?_cons_succ, Option.getD_some, List.setIfInBounds_toArray, List.set_cons_zero, List.set_cons_succ])
                | (refine wpT_read (v := ?_) rfl ?_ ?_; rotate_left; (focus (intro w' hG; skip; go_simp; try (with_reducible rfl))); simp only [Act.put, List.setIfInBounds_toArray, List.set_cons_zero, List.set_cons_succ])
                | (refine wpT_skip rfl ?_; simp only [Act.put, List.setIfInBounds_toArray, List.set_cons_zero, List.set_cons_succ]))
              refine wpT_act (by rfl) (exec_alloc #[.int .i64 0, .int .i64 0, .int .i64 0] zeroP) (Grow.s ((Grow.refl _).alloc _)) ?_
              simp only [Act.put, List.setIfInBounds_toArray, List.set_cons_zero, List.set_cons_succ]
              repeat (first
                | (refine wpT_move rfl ?_; simp only [Act.eval, Act.put, Array.getD_eq_getD_getElem?, List.getElem?_toArray, List.getElem?_cons_zero, List.getElem?_cons_succ, Option.getD_some, List.setIfInBounds_toArray, List.set_cons_zero, List.set_cons_succ])
                | (refine wpT_assign rfl ?_; simp only [Act.eval, Act.put, Array.getD_eq_getD_getElem?, List.getElem?_toArray, List.getElem?_cons_zero, List.getElem?_cons_succ, Option.getD_some, List.setIfInBounds_toArray, List.set_cons_zero, List.set_cons_succ])
                | (refine wpT_read (v := ?_) rfl ?_ ?_; rotate_left; (focus (intro w' hG; skip; go_simp; try (with_reducible rfl))); simp only [Act.put, List.setIfInBounds_toArray, List.set_cons_zero, List.set_cons_succ])
                | (refine wpT_skip rfl ?_; simp only [Act.put, List.setIfInBounds_toArray, List.set_cons_zero, List.set_cons_succ]))
              have V7 := VarAt.new wr.drew [.int .i64 0, .int .i64 0, .int .i64 0] 46
              obtain ⟨⟨v0, v1, v2⟩, v3, v4, v5⟩ := V7.three
              have V8 : Hid (VarAt ((((wr.drew.alloc (.cells #[.int .i64 0, .int .i64 0, .int .i64 0] 46)).setCell ⟨wr.heap.size, 0, none⟩ (.int .i64 (1 + q1))).setCell ⟨wr.heap.size, 1, none⟩ (.int .i64 (at1 + bq1))).setCell ⟨wr.heap.size, 2, none⟩ (.int .i64 (1 + g1))) wr.heap.size [.int .i64 (1 + q1), .int .i64 (at1 + bq1), .int .i64 (1 + g1)] ∧ Grow wr ((((wr.drew.alloc (.cells #[.int .i64 0, .int .i64 0, .int .i64 0] 46)).setCell ⟨wr.heap.size, 0, none⟩ (.int .i64 (1 + q1))).setCell ⟨wr.heap.size, 1, none⟩ (.int .i64 (at1 + bq1))).setCell ⟨wr.heap.size, 2, none⟩ (.int .i64 (1 + g1)))) := ⟨V7.set3 _ _ _, UpdS.new (((Grow.refl wr).drew).alloc _) (upd_three _ wr.heap.size _ _ _) (fun i hi => by omega)⟩
              refine wpT_store (w' := (((wr.drew.alloc (.cells #[.int .i64 0, .int .i64 0, .int .i64 0] 46)).setCell ⟨wr.heap.size, 0, none⟩ (.int .i64 (1 + q1))).setCell ⟨wr.heap.size, 1, none⟩ (.int .i64 (at1 + bq1))).setCell ⟨wr.heap.size, 2, none⟩ (.int .i64 (1 + g1))) (by rfl) ?_ ?_ ?_
              · go_simp
              · exact (upd_three _ wr.heap.size _ _ _).mono (fun i hi => by rw [hi]; exact Nat.le_refl _)
              simp only [Act.put, List.setIfInBounds_toArray, List.set_cons_zero, List.set_cons_succ]
              generalize (((wr.drew.alloc (.cells #[.int .i64 0, .int .i64 0, .int .i64 0] 46)).setCell ⟨wr.heap.size, 0, none⟩ (.int .i64 (1 + q1))).setCell ⟨wr.heap.size, 1, none⟩ (.int .i64 (at1 + bq1))).setCell ⟨wr.heap.size, 2, none⟩ (.int .i64 (1 + g1)) = w8 at V8 ⊢
              refine wpT_done ?_
              go_wp2_with fail
              go_meet
              exact ⟨wr.heap.size, rfl, V8.out.1, V8.out.2, Nat.le_refl _⟩
            · skip
              refine wpT_act (by rfl) (exec_alloc #[.int .i64 0, .int .i64 0, .int .i64 0] zeroP) (Grow.s ((Grow.refl _).alloc _)) ?_
              simp only [Act.put, List.setIfInBounds_toArray, List.set_cons_zero, List.set_cons_succ]
              repeat (first
                | (refine wpT_move rfl ?_; simp only [Act.eval, Act.put, Array.getD_eq_getD_getElem?, List.getElem?_toArray, List.getElem?_cons_zero, List.getElem?_cons_succ, Option.getD_some, List.setIfInBounds_toArray, List.set_cons_zero, List.set_cons_succ])
                | (refine wpT_assign rfl ?_; simp only [Act.eval, Act.put, Array.getD_eq_getD_getElem?, List.getElem?_toArray, List.getElem?_cons_zero, List.getElem?_cons_succ, Option.getD_some, List.setIfInBounds_toArray, List.set_cons_zero, List.set_cons_succ])
                | (refine wpT_read (v := ?_) rfl ?_ ?_; rotate_left; (focus (intro w' hG; skip; go_simp; try (with_reducible rfl))); simp only [Act.put, List.setIfInBounds_toArray, List.set_cons_zero, List.set_cons_succ])
                | (refine wpT_skip rfl ?_; simp only [Act.put, List.setIfInBounds_toArray, List.set_cons_zero, List.set_cons_succ]))
              refine wpT_call (f := ?_) (args := ?_) (by rfl) ?_ ?_
              rotate_left 2; focus (go_simp; constructor <;> with_reducible rfl)
              refine (hg _).mono ?_
              rintro e w5 ⟨rfl, rfl⟩
              refine ⟨_, rfl, UpdS.refl _ _, ?_⟩
              simp only [Act.put, List.setIfInBounds_toArray, List.set_cons_zero, List.set_cons_succ]
              repeat (first
                | (refine wpT_move rfl ?_; simp only [Act.eval, Act.put, Array.getD_eq_getD_getElem?, List.getElem?_toArray, List.getElem?_cons_zero, List.getElem?_cons_succ, Option.getD_some, List.setIfInBounds_toArray, List.set_cons_zero, List.set_cons_succ])
                | (refine wpT_assign rfl ?_; simp only [Act.eval, Act.put, Array.getD_eq_getD_getElem?, List.getElem?_toArray, List.getElem?_cons_zero, List.getElem?_cons_succ, Option.getD_some, List.setIfInBounds_toArray, List.set_cons_zero, List.set_cons_succ])
                | (refine wpT_read (v := ?_) rfl ?_ ?_; rotate_left; (focus (intro w' hG; skip; go_simp; try (with_reducible rfl))); simp only [Act.put, List.setIfInBounds_toArray, List.set_cons_zero, List.set_cons_succ])
                | (refine wpT_skip rfl ?_; simp only [Act.put, List.setIfInBounds_toArray, List.set_cons_zero, List.set_cons_succ]))
              have V7 := VarAt.new wr.drew [.int .i64 0, .int .i64 0, .int .i64 0] 46
              obtain ⟨⟨v0, v1, v2⟩, v3, v4, v5⟩ := V7.three
              have V8 : Hid (VarAt ((((wr.drew.alloc (.cells #[.int .i64 0, .int .i64 0, .int .i64 0] 46)).setCell ⟨wr.heap.size, 0, none⟩ (.int .i64 (1 + q1))).setCell ⟨wr.heap.size, 1, none⟩ (.int .i64 (at1 + bq1))).setCell ⟨wr.heap.size, 2, none⟩ (.int .i64 (1 + g1))) wr.heap.size [.int .i64 (1 + q1), .int .i64 (at1 + bq1), .int .i64 (1 + g1)] ∧ Grow wr ((((wr.drew.alloc (.cells #[.int .i64 0, .int .i64 0, .int .i64 0] 46)).setCell ⟨wr.heap.size, 0, none⟩ (.int .i64 (1 + q1))).setCell ⟨wr.heap.size, 1, none⟩ (.int .i64 (at1 + bq1))).setCell ⟨wr.heap.size, 2, none⟩ (.int .i64 (1 + g1)))) := ⟨V7.set3 _ _ _, UpdS.new (((Grow.refl wr).drew).alloc _) (upd_three _ wr.heap.size _ _ _) (fun i hi => by omega)⟩
              refine wpT_store (w' := (((wr.drew.alloc (.cells #[.int .i64 0, .int .i64 0, .int .i64 0] 46)).setCell ⟨wr.heap.size, 0, none⟩ (.int .i64 (1 + q1))).setCell ⟨wr.heap.size, 1, none⟩ (.int .i64 (at1 + bq1))).setCell ⟨wr.heap.size, 2, none⟩ (.int .i64 (1 + g1))) (by rfl) ?_ ?_ ?_
              · go_simp
              · exact (upd_three _ wr.heap.size _ _ _).mono (fun i hi => by rw [hi]; exact Nat.le_refl _)
              simp only [Act.put, List.setIfInBounds_toArray, List.set_cons_zero, List.set_cons_succ]
              generalize (((wr.drew.alloc (.cells #[.int .i64 0, .int .i64 0, .int .i64 0] 46)).setCell ⟨wr.heap.size, 0, none⟩ (.int .i64 (1 + q1))).setCell ⟨wr.heap.size, 1, none⟩ (.int .i64 (at1 + bq1))).setCell ⟨wr.heap.size, 2, none⟩ (.int .i64 (1 + g1)) = w8 at V8 ⊢
              refine wpT_done ?_
              go_wp2_with fail
              go_meet
              exact ⟨wr.heap.size, rfl, V8.out.1, V8.out.2, Nat.le_refl _⟩
          · skip
            refine wpT_act (by rfl) (exec_alloc #[.int .i64 0, .int .i64 0, .int .i64 0] zeroP) (Grow.s ((Grow.refl _).alloc _)) ?_
            simp only [Act.put, List.setIfInBounds_toArray, List.set_cons_zero, List.set_cons_succ]
            repeat (first
              | (refine wpT_move rfl ?_; simp only [Act.eval, Act.put, Array.getD_eq_getD_getElem?, List.getElem?_toArray, List.getElem?_cons_zero, List.getElem?_cons_succ, Option.getD_some, List.setIfInBounds_toArray, List.set_cons_zero, List.set_cons_succ])
              | (refine wpT_assign rfl ?_; simp only [Act.eval, Act.put, Array.getD_eq_getD_getElem?, List.getElem?_toArray, List.getElem?_cons_zero, List.getElem?_cons_succ, Option.getD_some, List.setIfInBounds_toArray, List.set_cons_zero, List.set_cons_succ])
              | (refine wpT_read (v := ?_) rfl ?_ ?_; rotate_left; (focus (intro w' hG; skip; go_simp; try (with_reducible rfl))); simp only [Act.put, List.setIfInBounds_toArray, List.set_cons_zero, List.set_cons_succ])
              | (refine wpT_skip rfl ?_; simp only [Act.put, List.setIfInBounds_toArray, List.set_cons_zero, List.set_cons_succ]))
            refine wpT_call (f := ?_) (args := ?_) (by rfl) ?_ ?_
            rotate_left 2; focus (go_simp; constructor <;> with_reducible rfl)
            refine (hb _).mono ?_
            rintro e w5 ⟨rfl, rfl⟩
            refine ⟨_, rfl, UpdS.refl _ _, ?_⟩
            simp only [Act.put, List.setIfInBounds_toArray, List.set_cons_zero, List.set_cons_succ]
            repeat (first
              | (refine wpT_move rfl ?_; simp only [Act.eval, Act.put, Array.getD_eq_getD_getElem?, List.getElem?_toArray, List.getElem?_cons_zero, List.getElem?_cons_succ, Option.getD_some, List.setIfInBounds_toArray, List.set_cons_zero, List.set_cons_succ])
              | (refine wpT_assign rfl ?_; simp only [Act.eval, Act.put, Array.getD_eq_getD_getElem?, List.getElem?_toArray, List.getElem?_cons_zero, List.getElem?_cons_succ, Option.getD_some, List.setIfInBounds_toArray, List.set_cons_zero, List.set_cons_succ])
              | (refine wpT_read (v := ?_) rfl ?_ ?_; rotate_left; (focus (intro w' hG; skip; go_simp; try (with_reducible rfl))); simp only [Act.put, List.setIfInBounds_toArray, List.set_cons_zero, List.set_cons_succ])
              | (refine wpT_skip rfl ?_; simp only [Act.put, List.setIfInBounds_toArray, List.set_cons_zero, List.set_cons_succ]))
            refine wpT_call (f := ?_) (args := ?_) (by rfl) ?_ ?_
            rotate_left 2; focus (go_simp; constructor <;> with_reducible rfl)
            refine (hg _).mono ?_
            rintro e w5 ⟨rfl, rfl⟩
            refine ⟨_, rfl, UpdS.refl _ _, ?_⟩
            simp only [Act.put, List.setIfInBounds_toArray, List.set_cons_zero, List.set_cons_succ]
            repeat (first
              | (refine wpT_move rfl ?_; simp only [Act.eval, Act.put, Array.getD_eq_getD_getElem?, List.getElem?_toArray, List.getElem?_cons_zero, List.getElem?_cons_succ, Option.getD_some, List.setIfInBounds_toArray, List.set_cons_zero, List.set_cons_succ])
              | (refine wpT_assign rfl ?_; simp only [Act.eval, Act.put, Array.getD_eq_getD_getElem?, List.getElem?_toArray, List.getElem?_cons_zero, List.getElem?_cons_succ, Option.getD_some, List.setIfInBounds_toArray, List.set_cons_zero, List.set_cons_succ])
              | (refine wpT_read (v := ?_) rfl ?_ ?_; rotate_left; (focus (intro w' hG; skip; go_simp; try (with_reducible rfl))); simp only [Act.put, List.setIfInBounds_toArray, List.set_cons_zero, List.set_cons_succ])
              | (refine wpT_skip rfl ?_; simp only [Act.put, List.setIfInBounds_toArray, List.set_cons_zero, List.set_cons_succ]))
            have V7 := VarAt.new wr.drew [.int .i64 0, .int .i64 0, .int .i64 0] 46
            obtain ⟨⟨v0, v1, v2⟩, v3, v4, v5⟩ := V7.three
            have V8 : Hid (VarAt ((((wr.drew.alloc (.cells #[.int .i64 0, .int .i64 0, .int .i64 0] 46)).setCell ⟨wr.heap.size, 0, none⟩ (.int .i64 (1 + q1))).setCell ⟨wr.heap.size, 1, none⟩ (.int .i64 (at1 + bq1))).setCell ⟨wr.heap.size, 2, none⟩ (.int .i64 (1 + g1))) wr.heap.size [.int .i64 (1 + q1), .int .i64 (at1 + bq1), .int .i64 (1 + g1)] ∧ Grow wr ((((wr.drew.alloc (.cells #[.int .i64 0, .int .i64 0, .int .i64 0] 46)).setCell ⟨wr.heap.size, 0, none⟩ (.int .i64 (1 + q1))).setCell ⟨wr.heap.size, 1, none⟩ (.int .i64 (at1 + bq1))).setCell ⟨wr.heap.size, 2, none⟩ (.int .i64 (1 + g1)))) := ⟨V7.set3 _ _ _, UpdS.new (((Grow.refl wr).drew).alloc _) (upd_three _ wr.heap.size _ _ _) (fun i hi => by omega)⟩
            refine wpT_store (w' := (((wr.drew.alloc (.cells #[.int .i64 0, .int .i64 0, .int .i64 0] 46)).setCell ⟨wr.heap.size, 0, none⟩ (.int .i64 (1 + q1))).setCell ⟨wr.heap.size, 1, none⟩ (.int .i64 (at1 + bq1))).setCell ⟨wr.heap.size, 2, none⟩ (.int .i64 (1 + g1))) (by rfl) ?_ ?_ ?_
            · go_simp
            · exact (upd_three _ wr.heap.size _ _ _).mono (fun i hi => by rw [hi]; exact Nat.le_refl _)
            simp only [Act.put, List.setIfInBounds_toArray, List.set_cons_zero, List.set_cons_succ]
            generalize (((wr.drew.alloc (.cells #[.int .i64 0, .int .i64 0, .int .i64 0] 46)).setCell ⟨wr.heap.size, 0, none⟩ (.int .i64 (1 + q1))).setCell ⟨wr.heap.size, 1, none⟩ (.int .i64 (at1 + bq1))).setCell ⟨wr.heap.size, 2, none⟩ (.int .i64 (1 + g1)) = w8 at V8 ⊢
            refine wpT_done ?_
            go_wp2_with fail
            go_meet
            exact ⟨wr.heap.size, rfl, V8.out.1, V8.out.2, Nat.le_refl _⟩
        · skip
          refine wpT_act (by rfl) (exec_alloc #[.int .i64 0, .int .i64 0, .int .i64 0] zeroP) (Grow.s ((Grow.refl _).alloc _)) ?_
          simp only [Act.put, List.setIfInBounds_toArray, List.set_cons_zero, List.set_cons_succ]
          repeat (first
            | (refine wpT_move rfl ?_; simp only [Act.eval, Act.put, Array.getD_eq_getD_getElem?, List.getElem?_toArray, List.getElem?_cons_zero, List.getElem?_cons_succ, Option.getD_some, List.setIfInBounds_toArray, List.set_cons_zero, List.set_cons_succ])
            | (refine wpT_assign rfl ?_; simp only [Act.eval, Act.put, Array.getD_eq_getD_getElem?, List.getElem?_toArray, List.getElem?_cons_zero, List.getElem?_cons_succ, Option.getD_some, List.setIfInBounds_toArray, List.set_cons_zero, List.set_cons_succ])
            | (refine wpT_read (v := ?_) rfl ?_ ?_; rotate_left; (focus (intro w' hG; skip; go_simp; try (with_reducible rfl))); simp only [Act.put, List.setIfInBounds_toArray, List.set_cons_zero, List.set_cons_succ])
            | (refine wpT_skip rfl ?_; simp only [Act.put, List.setIfInBounds_toArray, List.set_cons_zero, List.set_cons_succ]))
          refine wpT_call (f := ?_) (args := ?_) (by rfl) ?_ ?_
          rotate_left 2; focus (go_simp; constructor <;> with_reducible rfl)
          refine (hq _).mono ?_
          rintro e w5 ⟨rfl, rfl⟩
          refine ⟨_, rfl, UpdS.refl _ _, ?_⟩
          simp only [Act.put, List.setIfInBounds_toArray, List.set_cons_zero, List.set_cons_succ]
          repeat (first
            | (refine wpT_move rfl ?_; simp only [Act.eval, Act.put, Array.getD_eq_getD_getElem?, List.getElem?_toArray, List.getElem?_cons_zero, List.getElem?_cons_succ, Option.getD_some, List.setIfInBounds_toArray, List.set_cons_zero, List.set_cons_succ])
            | (refine wpT_assign rfl ?_; simp only [Act.eval, Act.put, Array.getD_eq_getD_getElem?, List.getElem?_toArray, List.getElem?_cons_zero, List.getElem?_cons_succ, Option.getD_some, List.setIfInBounds_toArray, List.set_cons_zero, List.set_cons_succ])
            | (refine wpT_read (v := ?_) rfl ?_ ?_; rotate_left; (focus (intro w' hG; skip; go_simp; try (with_reducible rfl))); simp only [Act.put, List.setIfInBounds_toArray, List.set_cons_zero, List.set_cons_succ])
            | (refine wpT_skip rfl ?_; simp only [Act.put, List.setIfInBounds_toArray, List.set_cons_zero, List.set_cons_succ]))
          refine wpT_call (f := ?_) (args := ?_) (by rfl) ?_ ?_
          rotate_left 2; focus (go_simp; constructor <;> with_reducible rfl)
          refine (hb _).mono ?_
          rintro e w5 ⟨rfl, rfl⟩
          refine ⟨_, rfl, UpdS.refl _ _, ?_⟩
          simp only [Act.put, List.setIfInBounds_toArray, List.set_cons_zero, List.set_cons_succ]
          repeat (first
            | (refine wpT_move rfl ?_; simp only [Act.eval, Act.put, Array.getD_eq_getD_getElem?, List.getElem?_toArray, List.getElem?_cons_zero, List.getElem?_cons_succ, Option.getD_some, List.setIfInBounds_toArray, List.set_cons_zero, List.set_cons_succ])
            | (refine wpT_assign rfl ?_; simp only [Act.eval, Act.put, Array.getD_eq_getD_getElem?, List.getElem?_toArray, List.getElem?_cons_zero, List.getElem?_cons_succ, Option.getD_some, List.setIfInBounds_toArray, List.set_cons_zero, List.set_cons_succ])
            | (refine wpT_read (v := ?_) rfl ?_ ?_; rotate_left; (focus (intro w' hG; skip; go_simp; try (with_reducible rfl))); simp only [Act.put, List.setIfInBounds_toArray, List.set_cons_zero, List.set_cons_succ])
            | (refine wpT_skip rfl ?_; simp only [Act.put, List.setIfInBounds_toArray, List.set_cons_zero, List.set_cons_succ]))
          refine wpT_call (f := ?_) (args := ?_) (by rfl) ?_ ?_
          rotate_left 2; focus (go_simp; constructor <;> with_reducible rfl)
          refine (hg _).mono ?_
          rintro e w5 ⟨rfl, rfl⟩
          refine ⟨_, rfl, UpdS.refl _ _, ?_⟩
          simp only [Act.put, List.setIfInBounds_toArray, List.set_cons_zero, List.set_cons_succ]
          repeat (first
            | (refine wpT_move rfl ?_; simp only [Act.eval, Act.put, Array.getD_eq_getD_getElem?, List.getElem?_toArray, List.getElem?_cons_zero, List.getElem?_cons_succ, Option.getD_some, List.setIfInBounds_toArray, List.set_cons_zero, List.set_cons_succ])
            | (refine wpT_assign rfl ?_; simp only [Act.eval, Act.put, Array.getD_eq_getD_getElem?, List.getElem?_toArray, List.getElem?_cons_zero, List.getElem?_cons_succ, Option.getD_some, List.setIfInBounds_toArray, List.set_cons_zero, List.set_cons_succ])
            | (refine wpT_read (v := ?_) rfl ?_ ?_; rotate_left; (focus (intro w' hG; skip; go_simp; try (with_reducible rfl))); simp only [Act.put, List.setIfInBounds_toArray, List.set_cons_zero, List.set_cons_succ])
            | (refine wpT_skip rfl ?_; simp only [Act.put, List.setIfInBounds_toArray, List.set_cons_zero, List.set_cons_succ]))
          have V7 := VarAt.new wr.drew [.int .i64 0, .int .i64 0, .int .i64 0] 46
          obtain ⟨⟨v0, v1, v2⟩, v3, v4, v5⟩ := V7.three
          have V8 : Hid (VarAt ((((wr.drew.alloc (.cells #[.int .i64 0, .int .i64 0, .int .i64 0] 46)).setCell ⟨wr.heap.size, 0, none⟩ (.int .i64 (1 + q1))).setCell ⟨wr.heap.size, 1, none⟩ (.int .i64 (at1 + bq1))).setCell ⟨wr.heap.size, 2, none⟩ (.int .i64 (1 + g1))) wr.heap.size [.int .i64 (1 + q1), .int .i64 (at1 + bq1), .int .i64 (1 + g1)] ∧ Grow wr ((((wr.drew.alloc (.cells #[.int .i64 0, .int .i64 0, .int .i64 0] 46)).setCell ⟨wr.heap.size, 0, none⟩ (.int .i64 (1 + q1))).setCell ⟨wr.heap.size, 1, none⟩ (.int .i64 (at1 + bq1))).setCell ⟨wr.heap.size, 2, none⟩ (.int .i64 (1 + g1)))) := ⟨V7.set3 _ _ _, UpdS.new (((Grow.refl wr).drew).alloc _) (upd_three _ wr.heap.size _ _ _) (fun i hi => by omega)⟩
          refine wpT_store (w' := (((wr.drew.alloc (.cells #[.int .i64 0, .int .i64 0, .int .i64 0] 46)).setCell ⟨wr.heap.size, 0, none⟩ (.int .i64 (1 + q1))).setCell ⟨wr.heap.size, 1, none⟩ (.int .i64 (at1 + bq1))).setCell ⟨wr.heap.size, 2, none⟩ (.int .i64 (1 + g1))) (by rfl) ?_ ?_ ?_
          · go_simp
          · exact (upd_three _ wr.heap.size _ _ _).mono (fun i hi => by rw [hi]; exact Nat.le_refl _)
          simp only [Act.put, List.setIfInBounds_toArray, List.set_cons_zero, List.set_cons_succ]
          generalize (((wr.drew.alloc (.cells #[.int .i64 0, .int .i64 0, .int .i64 0] 46)).setCell ⟨wr.heap.size, 0, none⟩ (.int .i64 (1 + q1))).setCell ⟨wr.heap.size, 1, none⟩ (.int .i64 (at1 + bq1))).setCell ⟨wr.heap.size, 2, none⟩ (.int .i64 (1 + g1)) = w8 at V8 ⊢
          refine wpT_done ?_
          go_wp2_with fail
          go_meet
          exact ⟨wr.heap.size, rfl, V8.out.1, V8.out.2, Nat.le_refl _⟩
      case rest =>
        obtain ⟨b7, rfl, CC⟩ := hcut
        clear hq hb hg hwq hwb hwg HX
        have HB7 : Hid (b4 < wr.heap.size ∧ wr.heap.size ≤ b7 ∧ b7 < wc.heap.size) := ⟨X0.2.2.1.lt, CC.out.2.2, CC.out.1.lt⟩
        obtain ⟨a5, c5, rfl⟩ := X0.2.2.2.1.shape
        have hS0 := qsum_small qs X0.2.2.2.2.2.2.1
        have hql := X0.2.2.2.2.1
        have hwS : IntKind.i64.wrap (qsum qs + (1 + q1)) = qsum qs + (1 + q1) := by rw [IntKind.wrap_i64]; omega
        have HQ : Hid (qs.length = j) := hql
        have hq4 : qs.length ≤ 4 := by omega
        have Y1 : Hid (VarAt wc b1 [.int .i64 fr, .int .i64 dp, .int .i64 se, .slice (some ⟨bb, oo, none⟩) ps.length cp] ∧ VarAt wc b2 [.int .i64 (0 : Int), .int .i64 (0 : Int), .int .i64 (0 : Int), .slice none 0 0] ∧ VarAt wc b4 [.int .i64 (qsum qs), .int .i64 dp', .int .i64 (0 : Int), .slice a5 qs.length c5] ∧ OwnP (fun i => b4 < i ∧ i < wr.heap.size) wc (.slice a5 qs.length c5) qs ∧ RdP (fun i => i < b4) wc (.slice (some ⟨bb, oo, none⟩) 4 cp) ls ∧ Grow w wc ∧ VarAt wc b7 [.int .i64 (1 + q1), .int .i64 (at1 + bq1), .int .i64 (1 + g1)]) :=
          ⟨X0.1.grow CC.out.2.1, X0.2.1.grow CC.out.2.1, X0.2.2.1.grow CC.out.2.1, OwnS.grow (OwnS.mono X0.2.2.2.1 (fun i h1 h2 => ⟨h2, h1⟩)) CC.out.2.1, RdS.grow X0.2.2.2.2.2.2.2.1 CC.out.2.1, X0.2.2.2.2.2.2.2.2.trans CC.out.2.1, CC.out.1⟩
        have Y2 : Hid (chain 0 qs at1 ∧ ∀ x ∈ qs, Small x) := ⟨X0.2.2.2.2.2.1, X0.2.2.2.2.2.2.1⟩
        clear X0 CC hql
        have Z1 : Hid (Grow wc (wc.alloc (.cells #[.int .i64 (1 + q1), .int .i64 (at1 + bq1), .int .i64 (1 + g1)] 46)) ∧ RdP (fun i => i = wc.heap.size) (wc.alloc (.cells #[.int .i64 (1 + q1), .int .i64 (at1 + bq1), .int .i64 (1 + g1)] 46)) (.slice (some ⟨wc.heap.size, 0, none⟩) 1 1) [(⟨1 + q1, at1 + bq1, 1 + g1⟩ : Pt)]) := ⟨(Grow.refl wc).alloc _, rdS_new (f := Pt.cs) (k := 3) wc 46 [(⟨1 + q1, at1 + bq1, 1 + g1⟩ : Pt)] Pt.cs_length (by simp only [List.length_singleton]; unfold maxLen; omega)⟩
        have hsrc := RdS.src (P := Try.prog) Z1.out.2 Pt.cs_length Pt.cs_one (tx := 22) Try.underlying22
        have hown := OwnS.grow Y1.out.2.2.2.1 Z1.out.1
        obtain ⟨⟨m0, m1, m2, m3⟩, -⟩ := Y1.out.2.2.1.four
        obtain ⟨⟨n0, n1, n2⟩, -⟩ := Y1.out.2.2.2.2.2.2.three
        go_wp2_with (at_builtin; (refine wpList_appS (f := Pt.cs) (k := 3) rfl (.tmp 55) (.tmp 57) 22 22 rfl Pt.cs_length (by omega) i0 (.agg #[.int .i64 0, .int .i64 0, .int .i64 0]) 24 Try.underlying22 hinf hz0 hz1 hz2 rfl rfl rfl hown hsrc (by simp only [maxLen, List.length_singleton]; omega) (by simp only [List.length_singleton]; omega) ?_))
        intro v6 w6 ho6 hu6
        have hsz6 := hu6.size
        rw [World.size_alloc] at hsz6
        have U6 : Hid (UpdS (fun i => b4 < i ∧ i < wr.heap.size) wc w6 ∧ wc.heap.size < w6.heap.size) := ⟨(Z1.out.1.s).trans hu6, by omega⟩
        have O6 : Hid (OwnP (fun i => b4 < i ∧ i ≠ b7) w6 v6 (qs ++ [(⟨1 + q1, at1 + bq1, 1 + g1⟩ : Pt)])) := OwnS.mono ho6 (fun i hi h => by
          have := HB7.out
          rcases h with h | h
          · omega
          · have h' : i = wc.heap.size + 1 := h
            omega)
        obtain ⟨a6, c6, hv6⟩ := ho6.shape
        rw [List.length_append, List.length_singleton] at hv6
        subst hv6
        clear ho6 hu6 hsz6 hsrc hown Z1 m0 m1 m2 m3 n0 n1 n2
        have Y3 : Hid (VarAt w6 b1 [.int .i64 fr, .int .i64 dp, .int .i64 se, .slice (some ⟨bb, oo, none⟩) ps.length cp] ∧ VarAt w6 b2 [.int .i64 (0 : Int), .int .i64 (0 : Int), .int .i64 (0 : Int), .slice none 0 0] ∧ VarAt w6 b4 [.int .i64 (qsum qs), .int .i64 dp', .int .i64 (0 : Int), .slice a5 qs.length c5] ∧ RdP (fun i => i < b4) w6 (.slice (some ⟨bb, oo, none⟩) 4 cp) ls ∧ Grow w w6 ∧ VarAt w6 b7 [.int .i64 (1 + q1), .int .i64 (at1 + bq1), .int .i64 (1 + g1)]) := by
          have h7 := HB7.out
          have h4 := HB4.out
          exact ⟨Y1.out.1.upd U6.out.1 (by omega), Y1.out.2.1.upd U6.out.1 (by omega), Y1.out.2.2.1.upd U6.out.1 (by omega), RdS.upd Y1.out.2.2.2.2.1 U6.out.1 (fun i _ hi => by omega), UpdS.new Y1.out.2.2.2.2.2.1 U6.out.1 (fun i hi => by omega), Y1.out.2.2.2.2.2.2.upd U6.out.1 (by omega)⟩
        clear Y1 U6
        obtain ⟨⟨m0, m1, m2, m3⟩, f0, f1, f2, f3⟩ := Y3.out.2.2.1.four
        obtain ⟨⟨n0, n1, n2⟩, -⟩ := Y3.out.2.2.2.2.2.three
        have hne : (b7 == b4) = false := by have := HB7.out; simp; omega
        have hne2 : ¬ b4 = b7 := by have := HB7.out; omega
        have hne3 : ¬ b7 = b4 := by have := HB7.out; omega
        have hu8 := (upd_one w6 b4 3 (.slice a6 (qs.length + 1) c6)).trans (upd_one (w6.setCell ⟨b4, 3, none⟩ (.slice a6 (qs.length + 1) c6)) b4 0 (.int .i64 (qsum qs + (1 + q1))))
        have Y4 : Hid (VarAt ((w6.setCell ⟨b4, 3, none⟩ (.slice a6 (qs.length + 1) c6)).setCell ⟨b4, 0, none⟩ (.int .i64 (qsum qs + (1 + q1)))) b1 [.int .i64 fr, .int .i64 dp, .int .i64 se, .slice (some ⟨bb, oo, none⟩) ps.length cp] ∧ VarAt ((w6.setCell ⟨b4, 3, none⟩ (.slice a6 (qs.length + 1) c6)).setCell ⟨b4, 0, none⟩ (.int .i64 (qsum qs + (1 + q1)))) b2 [.int .i64 (0 : Int), .int .i64 (0 : Int), .int .i64 (0 : Int), .slice none 0 0] ∧ VarAt ((w6.setCell ⟨b4, 3, none⟩ (.slice a6 (qs.length + 1) c6)).setCell ⟨b4, 0, none⟩ (.int .i64 (qsum qs + (1 + q1)))) b4 [.int .i64 (qsum (qs ++ [(⟨1 + q1, at1 + bq1, 1 + g1⟩ : Pt)])), .int .i64 dp', .int .i64 (0 : Int), .slice a6 (qs.length + 1) c6] ∧ OwnP (fun i => b4 < i) ((w6.setCell ⟨b4, 3, none⟩ (.slice a6 (qs.length + 1) c6)).setCell ⟨b4, 0, none⟩ (.int .i64 (qsum qs + (1 + q1)))) (.slice a6 (qs.length + 1) c6) (qs ++ [(⟨1 + q1, at1 + bq1, 1 + g1⟩ : Pt)]) ∧ (qs ++ [(⟨1 + q1, at1 + bq1, 1 + g1⟩ : Pt)]).length = j + 1 ∧ chain 0 (qs ++ [(⟨1 + q1, at1 + bq1, 1 + g1⟩ : Pt)]) (at1 + bq1 + 2 * (1 + g1)) ∧ (∀ x ∈ qs ++ [(⟨1 + q1, at1 + bq1, 1 + g1⟩ : Pt)], Small x) ∧ RdP (fun i => i < b4) ((w6.setCell ⟨b4, 3, none⟩ (.slice a6 (qs.length + 1) c6)).setCell ⟨b4, 0, none⟩ (.int .i64 (qsum qs + (1 + q1)))) (.slice (some ⟨bb, oo, none⟩) 4 cp) ls ∧ Grow w ((w6.setCell ⟨b4, 3, none⟩ (.slice a6 (qs.length + 1) c6)).setCell ⟨b4, 0, none⟩ (.int .i64 (qsum qs + (1 + q1))))) := by
          have h4 := HB4.out
          refine ⟨Y3.out.1.upd hu8 (by omega), Y3.out.2.1.upd hu8 (by omega), ?_, OwnS.upd (OwnS.mono O6.out (fun i _ h => h.1)) hu8 (fun i _ hi => by omega), by rw [List.length_append, HQ.out]; rfl, chain_snoc qs 0 at1 Y2.out.1 (by show at1 ≤ at1 + bq1; omega) (by show at1 + bq1 ≤ at1 + 2; omega), small_snoc Y2.out.2 ⟨by show 1 ≤ 1 + q1; omega, by show 1 + q1 ≤ 3; omega, by show 1 ≤ 1 + g1; omega, by show 1 + g1 ≤ 4; omega⟩, RdS.upd Y3.out.2.2.2.1 hu8 (fun i _ hi => by omega), UpdS.new Y3.out.2.2.2.2.1 hu8 (fun i hi => by omega)⟩
          rw [qsum_snoc]
          exact (Y3.out.2.2.1.set 3 _).set 0 _
        clear hu8
        have HA : Hid (0 ≤ at1 + bq1 + 2 * (1 + g1) ∧ at1 + bq1 + 2 * (1 + g1) ≤ 10 * ((j + 1 : Nat) : Int)) := ⟨by omega, by omega⟩
        go_wp2
        go_roundg (4 - (j + 1))
        case measure => have := HK.out; omega
        case rel => exact ⟨j + 1, at1 + bq1 + 2 * (1 + g1), rfl, HK.out.1, rfl, by go_num, HA.out.1, HA.out.2, _, _, Y4.out⟩
    · have hle : ¬ (j : Int) < 4 := by omega
      have hje : j = 4 := by omega
      have hwa : IntKind.i64.wrap (at1 + S3) = at1 + S3 := by have := HL0.out.2.2.1; rw [IntKind.wrap_i64]; omega
      obtain ⟨a5, c5, rfl⟩ := X0.2.2.2.1.shape
      have HG : Hid (GoodC (qsum qs) dp' (at1 + S3) qs) := by
        have h0 := HL0.out
        have hl := X0.2.2.2.2.1
        exact ⟨by omega, by omega, HD.out.1, HD.out.2, rfl, X0.2.2.2.2.2.2.1, at1, X0.2.2.2.2.2.1, by omega, by omega⟩
      have Y1 : Hid (VarAt wr b1 [.int .i64 fr, .int .i64 dp, .int .i64 se, .slice a ps.length cp] ∧ VarAt wr b2 [.int .i64 (0 : Int), .int .i64 (0 : Int), .int .i64 (0 : Int), .slice none 0 0] ∧ VarAt wr b4 [.int .i64 (qsum qs), .int .i64 dp', .int .i64 (0 : Int), .slice a5 qs.length c5] ∧ OwnP (fun i => b4 < i) wr (.slice a5 qs.length c5) qs ∧ Grow w wr) := ⟨X0.1, X0.2.1, X0.2.2.1, X0.2.2.2.1, X0.2.2.2.2.2.2.2.2⟩
      clear X0 hk hj hlt hje ha0 ha1
      obtain ⟨⟨k0, k1, k2, k3⟩, -⟩ := Y1.out.1.four
      go_wp2_with fail
      refine (har3 _).mono ?_
      rintro e w' ⟨rfl, rfl⟩
      obtain ⟨⟨m0, m1, m2, m3⟩, f0, f1, f2, f3⟩ := Y1.out.2.2.1.four
      obtain ⟨⟨n0, n1, n2, n3⟩, g0, g1, g2, g3⟩ := Y1.out.2.1.four
      have hne1 : ¬ b2 = b4 := by have := HB4.out; omega
      have hne2 : ¬ b4 = b2 := by have := HB4.out; omega
      go_wp2
      have hU := (upd_one wr b4 2 (.int .i64 (at1 + S3))).mono (S' := fun i => i = b4 ∨ i = b2) (fun i hi => .inl hi)
      have hU2 := hU.trans ((upd_four (wr.setCell ⟨b4, 2, none⟩ (.int .i64 (at1 + S3))) b2 (.int .i64 (qsum qs)) (.int .i64 dp') (.int .i64 (at1 + S3)) (.slice a5 qs.length c5)).mono (S' := fun i => i = b4 ∨ i = b2) (fun i hi => .inr hi))
      refine bodyPost_ret_by (results_cell rfl _ _ _ (.agg #[.int .i64 (qsum qs), .int .i64 dp', .int .i64 (at1 + S3), .slice a5 qs.length c5]) rfl (load_G b2 (qsum qs) dp' (at1 + S3) _ _ ((Y1.out.2.1.upd (upd_one wr b4 2 _) (by have := HB4.out; omega)).set4 _ _ _ _) rfl)) rfl ⟨_, _, _, _, qs, rfl, HG.out, ?_, UpdS.new Y1.out.2.2.2.2 hU2 (fun i hi => by have := HB4.out; omega)⟩
      exact RdS.mono (RdS.upd Y1.out.2.2.2.1.rd hU2 (fun i _ hi => by have := HB4.out; omega)) (fun i _ hi => by have := HB4.out; omega)

set_option maxHeartbeats 8000000 in
theorem good_mid {p : Nat → Prop} (fr dp se : Int) (v : Value) (ps : List Pt) (w : World) (h : RdP p w v ps) (hok : ∀ x ∈ ps, x.Ok) (hdp : W64 dp) (hse : W64 se) (hle : ps.length ≤ 4) (h0 : ¬ ps.length = 0) :
    Calls Try.prog 8 #[.agg #[.int .i64 fr, .int .i64 dp, .int .i64 se, v]] w fun e w' => ∃ fr' dp' se' v' ps', e = .returned (.agg #[.int .i64 fr', .int .i64 dp', .int .i64 se', v']) ∧ GoodC fr' dp' se' ps' ∧ RdP (fun i => w.heap.size ≤ i) w' v' ps' ∧ Grow w w' := by
  obtain ⟨i0, hinf, hz0, hz1, hz2⟩ := info_parts infoP
  have HI : Hid (VarAt ((w.alloc (.cells #[.int .i64 fr, .int .i64 dp, .int .i64 se, v] 24)).alloc (.cells #[.int .i64 (0 : Int), .int .i64 (0 : Int), .int .i64 (0 : Int), .slice none 0 0] 24)) w.heap.size [.int .i64 fr, .int .i64 dp, .int .i64 se, v] ∧ VarAt ((w.alloc (.cells #[.int .i64 fr, .int .i64 dp, .int .i64 se, v] 24)).alloc (.cells #[.int .i64 (0 : Int), .int .i64 (0 : Int), .int .i64 (0 : Int), .slice none 0 0] 24)) (w.heap.size + 1) [.int .i64 (0 : Int), .int .i64 (0 : Int), .int .i64 (0 : Int), .slice none 0 0] ∧ Grow w ((w.alloc (.cells #[.int .i64 fr, .int .i64 dp, .int .i64 se, v] 24)).alloc (.cells #[.int .i64 (0 : Int), .int .i64 (0 : Int), .int .i64 (0 : Int), .slice none 0 0] 24))) := two_new
  have HR : Hid (RdP p w v ps ∧ (∀ x ∈ ps, x.Ok)) := ⟨h, hok⟩
  obtain ⟨a, cp, rfl, h1, h2, -⟩ := h
  unfold maxLen at h2
  have har4 := fun w' => around_any dp 4 w' (wf_of hdp) (by omega) (by omega)
  have har3 := fun w' => around_any se 3 w' (wf_of hse) (by omega) (by omega)
  have hA4 := around4 dp
  have hA3 := around3 se
  generalize around dp 4 = D at har4 hA4
  generalize around se 3 = S3 at har3 hA3
  obtain ⟨dp', hdp'⟩ : ∃ dp', dp' = 1 + D := ⟨_, rfl⟩
  have hwd : IntKind.i64.wrap (1 + D) = dp' := by rw [IntKind.wrap_i64]; omega
  have HD : Hid (1 ≤ dp' ∧ dp' ≤ 4) := ⟨by omega, by omega⟩
  clear hdp' hA4 hok hdp hse
  have hle' : (ps.length : Int) ≤ 4 := by omega
  have hmin : min (ps.length : Int) 4 = (ps.length : Int) := by omega
  have hz : ((ps.length : Int) == 0) = false := by rw [beq_eq_false_iff_ne]; omega
  have HL0 : Hid ((ps).length = ps.length ∧ 1 ≤ ps.length ∧ ps.length ≤ 4 ∧ ∀ x ∈ ps, x.Ok) := ⟨rfl, by omega, by omega, HR.out.2⟩
  have X0 : Hid (VarAt ((w.alloc (.cells #[.int .i64 fr, .int .i64 dp, .int .i64 se, .slice a ps.length cp] 24)).alloc (.cells #[.int .i64 (0 : Int), .int .i64 (0 : Int), .int .i64 (0 : Int), .slice none 0 0] 24)) w.heap.size [.int .i64 fr, .int .i64 dp, .int .i64 se, .slice a ps.length cp] ∧ VarAt ((w.alloc (.cells #[.int .i64 fr, .int .i64 dp, .int .i64 se, .slice a ps.length cp] 24)).alloc (.cells #[.int .i64 (0 : Int), .int .i64 (0 : Int), .int .i64 (0 : Int), .slice none 0 0] 24)) (w.heap.size + 1) [.int .i64 (0 : Int), .int .i64 (0 : Int), .int .i64 (0 : Int), .slice none 0 0] ∧ RdP (fun i => i < ((w.alloc (.cells #[.int .i64 fr, .int .i64 dp, .int .i64 se, .slice a ps.length cp] 24)).alloc (.cells #[.int .i64 (0 : Int), .int .i64 (0 : Int), .int .i64 (0 : Int), .slice none 0 0] 24)).heap.size) ((w.alloc (.cells #[.int .i64 fr, .int .i64 dp, .int .i64 se, .slice a ps.length cp] 24)).alloc (.cells #[.int .i64 (0 : Int), .int .i64 (0 : Int), .int .i64 (0 : Int), .slice none 0 0] 24)) (.slice a ps.length cp) ps ∧ Grow w ((w.alloc (.cells #[.int .i64 fr, .int .i64 dp, .int .i64 se, .slice a ps.length cp] 24)).alloc (.cells #[.int .i64 (0 : Int), .int .i64 (0 : Int), .int .i64 (0 : Int), .slice none 0 0] 24))) :=
    ⟨HI.out.1, HI.out.2.1, RdS.mono (RdS.grow HR.out.1 HI.out.2.2) (fun i hi _ => hi), HI.out.2.2⟩
  go_enter Try.func8, Try.ntmps8
  go_wp2_with fail
  obtain ⟨b1, hb1⟩ : ∃ b1, b1 = w.heap.size := ⟨_, rfl⟩
  obtain ⟨b2, hb2⟩ : ∃ b2, b2 = w.heap.size + 1 := ⟨_, rfl⟩
  have HB : Hid (b1 = w.heap.size ∧ b2 = w.heap.size + 1) := ⟨hb1, hb2⟩
  generalize ((w.alloc (.cells #[.int .i64 fr, .int .i64 dp, .int .i64 se, .slice a ps.length cp] 24)).alloc (.cells #[.int .i64 (0 : Int), .int .i64 (0 : Int), .int .i64 (0 : Int), .slice none 0 0] 24)) = w2 at X0 ⊢
  rw [← hb2, ← hb1] at X0 ⊢
  have X := X0
  clear hb1 hb2 X0 HI
  go_wp2_with fail
  refine (har4 _).mono ?_
  rintro e w' ⟨rfl, rfl⟩
  obtain ⟨⟨m0, m1, m2, m3⟩, -⟩ := X.out.1.four
  have HI4 : Hid (VarAt (w2.alloc (.cells #[.int .i64 (0 : Int), .int .i64 dp', .int .i64 (0 : Int), .slice none 0 0] 24)) w2.heap.size [.int .i64 (0 : Int), .int .i64 dp', .int .i64 (0 : Int), .slice none 0 0] ∧ Grow w2 (w2.alloc (.cells #[.int .i64 (0 : Int), .int .i64 dp', .int .i64 (0 : Int), .slice none 0 0] 24))) := ⟨VarAt.new w2 [.int .i64 (0 : Int), .int .i64 dp', .int .i64 (0 : Int), .slice none 0 0] _, (Grow.refl w2).alloc _⟩
  go_wp2
  clear m0 m1 m2 m3 har4 hwd
  generalize w2.alloc (.cells #[.int .i64 (0 : Int), .int .i64 dp', .int .i64 (0 : Int), .slice none 0 0] 24) = w3 at HI4 ⊢
  have Y : Hid (VarAt w3 b1 [.int .i64 fr, .int .i64 dp, .int .i64 se, .slice a ps.length cp] ∧ VarAt w3 b2 [.int .i64 (0 : Int), .int .i64 (0 : Int), .int .i64 (0 : Int), .slice none 0 0] ∧ VarAt w3 w2.heap.size [.int .i64 (0 : Int), .int .i64 dp', .int .i64 (0 : Int), .slice none 0 0] ∧ RdP (fun i => i < w2.heap.size) w3 (.slice a ps.length cp) ps ∧ Grow w w3 ∧ b1 < w2.heap.size ∧ b2 < w2.heap.size ∧ w.heap.size ≤ w2.heap.size) :=
    ⟨X.out.1.grow HI4.out.2, X.out.2.1.grow HI4.out.2, HI4.out.1, RdS.grow X.out.2.2.1 HI4.out.2, X.out.2.2.2.trans HI4.out.2, X.out.1.lt, X.out.2.1.lt, X.out.2.2.2.size⟩
  clear HI4 X
  generalize w2.heap.size = b4 at Y ⊢
  have HB4 : Hid (b1 < b4 ∧ b2 < b4 ∧ w.heap.size ≤ b4 ∧ b1 = w.heap.size ∧ b2 = w.heap.size + 1) := ⟨Y.out.2.2.2.2.2.1, Y.out.2.2.2.2.2.2.1, Y.out.2.2.2.2.2.2.2, HB.out.1, HB.out.2⟩
  clear HB w2
  go_loopg [5, 6] (ps.length) (fun m av iv wr => ∃ (j : Nat) (at1 : Int), m = ps.length - j ∧ j ≤ ps.length ∧ av = .int .i64 at1 ∧ iv = .int .i64 j ∧ 0 ≤ at1 ∧ at1 ≤ 10 * j ∧ Hid (∃ (vv : Value) (qs : List Pt), VarAt wr b1 [.int .i64 fr, .int .i64 dp, .int .i64 se, .slice a ps.length cp] ∧ VarAt wr b2 [.int .i64 (0 : Int), .int .i64 (0 : Int), .int .i64 (0 : Int), .slice none 0 0] ∧ VarAt wr b4 [.int .i64 (qsum qs), .int .i64 dp', .int .i64 (0 : Int), vv] ∧ OwnP (fun i => b4 < i) wr vv qs ∧ qs.length = j ∧ chain 0 qs at1 ∧ (∀ x ∈ qs, Small x) ∧ RdP (fun i => i < b4) wr (.slice a ps.length cp) ps ∧ Grow w wr))
  case atStart => exact ⟨0, 0, by omega, by omega, rfl, rfl, by omega, by omega, .slice none 0 0, [], Y.out.1, Y.out.2.1, Y.out.2.2.1, OwnS.nil _ _ _ _ _, rfl, rfl, (fun x hx => by cases hx), Y.out.2.2.2.1, Y.out.2.2.2.2.1⟩
  case round =>
    clear Y
    obtain ⟨j, at1, hk, hj, rfl, rfl, ha0, ha1, vv, qs, X0⟩ := hrel
    by_cases hlt : j < ps.length
    · have hle : (j : Int) < (ps.length : Int) := by omega
      have HK : Hid (j < ps.length ∧ gk = ps.length - j) := ⟨hlt, hk⟩
      have hj4 : j < 4 := by have := HL0.out.2.2.1; omega
      have hlt : j < ps.length := by have := HL0.out.1; omega
      have hw1 : IntKind.i64.wrap ((j : Int) + 1) = (j : Int) + 1 := by rw [IntKind.wrap_i64]; omega
      obtain ⟨bb, oo, hal, hbb, hbl, hin⟩ := rdP_at X0.2.2.2.2.2.2.2.1 hlt
      subst hal
      have hdo := HL0.out.2.2.2 _ (getD_mem hlt)
      generalize ps.getD j Pt.zero = d at hin hdo
      have hq := fun w' => around_any d.q 3 w' (wf_of hdo.1) (by omega) (by omega)
      have hb := fun w' => around_any d.b 3 w' (wf_of hdo.2.1) (by omega) (by omega)
      have hg := fun w' => around_any d.g 4 w' (wf_of hdo.2.2) (by omega) (by omega)
      have hq3 := around3 d.q
      have hb3 := around3 d.b
      have hg4 := around4 d.g
      generalize around d.q 3 = q1 at hq hq3
      generalize around d.b 3 = bq1 at hb hb3
      generalize around d.g 4 = g1 at hg hg4
      have hwq : IntKind.i64.wrap (1 + q1) = 1 + q1 := by rw [IntKind.wrap_i64]; omega
      have hwb : IntKind.i64.wrap (at1 + bq1) = at1 + bq1 := by rw [IntKind.wrap_i64]; omega
      have hwg : IntKind.i64.wrap (1 + g1) = 1 + g1 := by rw [IntKind.wrap_i64]; omega
      have hw2 : IntKind.i64.wrap (2 * (1 + g1)) = 2 * (1 + g1) := by rw [IntKind.wrap_i64]; omega
      have hw3 : IntKind.i64.wrap (at1 + bq1 + 2 * (1 + g1)) = at1 + bq1 + 2 * (1 + g1) := by rw [IntKind.wrap_i64]; omega
      have HX : Hid (PIn wr bb (oo + j * 3) d) := hin
      clear hin hdo hk hj hlt
      go_upto_region 9 with fail
      go_cut [7] from 25 to 71 (fun pv wx => ∃ b7 : Nat, pv = .pointer (some ⟨b7, 0, none⟩) ∧ Hid (VarAt wx b7 [.int .i64 (1 + q1), .int .i64 (at1 + bq1), .int .i64 (1 + g1)] ∧ Grow wr wx ∧ wr.heap.size ≤ b7))
      case first =>
        have kx : ∀ w', UpdS (fun i => wr.heap.size ≤ i) wr.drew w' → PIn w' bb (oo + j * 3) d := fun w' h => (HX.out.grow (Grow.refl wr).drew).upd h (by have := World.block_lt_of_cell? _ _ HX.out.1; omega)
        refine wp_region_treeG (UpdS (fun i => wr.heap.size ≤ i)) (UpdS.refl _) (fun _ _ _ => UpdS.trans) (by kernel_rfl) (.read 0 (.read 1 (.read 2 (.read 3 (.read 4 (.read 7 (.read 8 (.read 9 (.read 10 (.read 11 (.read 12 (.read 15 (.read 16 (.read 17 (.read 18 (.read 19 (.fork 5 (.read 6 (.fork 13 (.read 14 (.fork 20 (.read 21 (.read 22 (.act 23 (.act 24 .done)))) 23 (.act 20 (.read 21 (.read 22 (.act 24 .done)))))) 23 (.act 13 (.read 14 (.act 20 (.read 21 (.read 22 (.act 24 .done)))))))) 23 (.act 5 (.read 6 (.act 13 (.read 14 (.act 20 (.read 21 (.read 22 (.act 24 .done))))))))))))))))))))))))) (by kernel_rfl) (by kernel_rfl) rfl (fun _ _ d _ _ h => by cases d <;> exact h) ?_
        simp only [Tr.over, List.getElem?_toArray, List.getElem?_cons_zero, List.getElem?_cons_succ]
        repeat (first
          | (refine wpT_move rfl ?_; simp only [Act.eval, Act.put, Array.getD_eq_getD_getElem?, List.getElem?_toArray, List.getElem?_cons_zero, List.getElem?_cons_succ, Option.getD_some, List.setIfInBounds_toArray, List.set_cons_zero, List.set_cons_succ])
          | (refine wpT_assign rfl ?_; simp only [Act.eval, Act.put, Array.getD_eq_getD_getElem?, List.getElem?_toArray, List.getElem?_cons_zero, List.getElem?_cons_succ, Option.getD_some, List.setIfInBounds_toArray, List.set_cons_zero, List.set_cons_succ])
          | (refine wpT_read (v := ?_) rfl ?_ ?_; rotate_left; (focus (intro w' hG; obtain ⟨k0, k1, k2⟩ := kx w' hG; go_simp; try (with_reducible rfl))); simp only [Act.put, List.setIfInBounds_toArray, List.set_cons_zero, List.set_cons_succ])
          | (refine wpT_skip rfl ?_; simp only [Act.put, List.setIfInBounds_toArray, List.set_cons_zero, List.set_cons_succ]))
        refine wpT_fork ?_ ?_
        · skip
          refine wpT_call (f := ?_) (args := ?_) (by rfl) ?_ ?_
          rotate_left 2; focus (go_simp; constructor <;> with_reducible rfl)
          refine (hq _).mono ?_
          rintro e w5 ⟨rfl, rfl⟩
          refine ⟨_, rfl, UpdS.refl _ _, ?_⟩
          simp only [Act.put, List.setIfInBounds_toArray, List.set_cons_zero, List.set_cons_succ]
          repeat (first
            | (refine wpT_move rfl ?_; simp only [Act.eval, Act.put, Array.getD_eq_getD_getElem?, List.getElem?_toArray, List.getElem?_cons_zero, List.getElem?_cons_succ, Option.getD_some, List.setIfInBounds_toArray, List.set_cons_zero, List.set_cons_succ])
            | (refine wpT_assign rfl ?_; simp only [Act.eval, Act.put, Array.getD_eq_getD_getElem?, List.getElem?_toArray, List.getElem?_cons_zero, List.getElem?_cons_succ, Option.getD_some, List.setIfInBounds_toArray, List.set_cons_zero, List.set_cons_succ])
            | (refine wpT_read (v := ?_) rfl ?_ ?_; rotate_left; (focus (intro w' hG; skip; go_simp; try (with_reducible rfl))); simp only [Act.put, List.setIfInBounds_toArray, List.set_cons_zero, List.set_cons_succ])
            | (refine wpT_skip rfl ?_; simp only [Act.put, List.setIfInBounds_toArray, List.set_cons_zero, List.set_cons_succ]))
          refine wpT_fork ?_ ?_
          · skip
            refine wpT_call (f := ?_) (args := ?_) (by rfl) ?_ ?_
            rotate_left 2; focus (go_simp; constructor <;> with_reducible rfl)
            refine (hb _).mono ?_
            rintro e w5 ⟨rfl, rfl⟩
            refine ⟨_, rfl, UpdS.refl _ _, ?_⟩
            simp only [Act.put, List.setIfInBounds_toArray, List.set_cons_zero, List.set_cons_succ]
            repeat (first
              | (refine wpT_move rfl ?_; simp only [Act.eval, Act.put, Array.getD_eq_getD_getElem?, List.getElem?_toArray, List.getElem?_cons_zero, List.getElem?_cons_succ, Option.getD_some, List.setIfInBounds_toArray, List.set_cons_zero, List.set_cons_succ])
              | (refine wpT_assign rfl ?_; simp only [Act.eval, Act.put, Array.getD_eq_getD_getElem?, List.getElem?_toArray, List.getElem?_cons_zero, List.getElem?_cons_succ, Option.getD_some, List.setIfInBounds_toArray, List.set_cons_zero, List.set_cons_succ])
              | (refine wpT_read (v := ?_) rfl ?_ ?_; rotate_left; (focus (intro w' hG; skip; go_simp; try (with_reducible rfl))); simp only [Act.put, List.setIfInBounds_toArray, List.set_cons_zero, List.set_cons_succ])
              | (refine wpT_skip rfl ?_; simp only [Act.put, List.setIfInBounds_toArray, List.set_cons_zero, List.set_cons_succ]))
            refine wpT_fork ?_ ?_
            · skip
              refine wpT_call (f := ?_) (args := ?_) (by rfl) ?_ ?_
              rotate_left 2; focus (go_simp; constructor <;> with_reducible rfl)
              refine (hg _).mono ?_
              rintro e w5 ⟨rfl, rfl⟩
              refine ⟨_, rfl, UpdS.refl _ _, ?_⟩
              simp only [Act.put, List.setIfInBounds_toArray, List.set_cons_zero, List.set_cons_succ]
              repeat (first
                | (refine wpT_move rfl ?_; simp only [Act.eval, Act.put, Array.getD_eq_getD_getElem?, List.getElem?_toArray, List.getElem?_cons_zero, List.getElem?_cons_succ, Option.getD_some, List.setIfInBounds_toArray, List.set_cons_zero, List.set_cons_succ])
                | (refine wpT_assign rfl ?_; simp only [Act.eval, Act.put, Array.getD_eq_getD_getElem?, List.getElem?_toArray, List.getElem?_cons_zero, List.getElem?_cons_succ, Option.getD_some, List.setIfInBounds_toArray, List.set_cons_zero, List.set_cons_succ])
                | (refine wpT_read (v := ?_) rfl ?_ ?_; rotate_left; (focus (intro w' hG; skip; go_simp; try (with_reducible rfl))); simp only [Act.put, List.setIfInBounds_toArray, List.set_cons_zero, List.set_cons_succ])
                | (refine wpT_skip rfl ?_; simp only [Act.put, List.setIfInBounds_toArray, List.set_cons_zero, List.set_cons_succ]))
              refine wpT_act (by rfl) (exec_alloc #[.int .i64 0, .int .i64 0, .int .i64 0] zeroP) (Grow.s ((Grow.refl _).alloc _)) ?_
              simp only [Act.put, List.setIfInBounds_toArray, List.set_cons_zero, List.set_cons_succ]
              repeat (first
                | (refine wpT_move rfl ?_; simp only [Act.eval, Act.put, Array.getD_eq_getD_getElem?, List.getElem?_toArray, List.getElem?_cons_zero, List.getElem?_cons_succ, Option.getD_some, List.setIfInBounds_toArray, List.set_cons_zero, List.set_cons_succ])
                | (refine wpT_assign rfl ?_; simp only [Act.eval, Act.put, Array.getD_eq_getD_getElem?, List.getElem?_toArray, List.getElem?_cons_zero, List.getElem?_cons_succ, Option.getD_some, List.setIfInBounds_toArray, List.set_cons_zero, List.set_cons_succ])
                | (refine wpT_read (v := ?_) rfl ?_ ?_; rotate_left; (focus (intro w' hG; skip; go_simp; try (with_reducible rfl))); simp only [Act.put, List.setIfInBounds_toArray, List.set_cons_zero, List.set_cons_succ])
                | (refine wpT_skip rfl ?_; simp only [Act.put, List.setIfInBounds_toArray, List.set_cons_zero, List.set_cons_succ]))
              have V7 := VarAt.new wr.drew [.int .i64 0, .int .i64 0, .int .i64 0] 46
              obtain ⟨⟨v0, v1, v2⟩, v3, v4, v5⟩ := V7.three
              have V8 : Hid (VarAt ((((wr.drew.alloc (.cells #[.int .i64 0, .int .i64 0, .int .i64 0] 46)).setCell ⟨wr.heap.size, 0, none⟩ (.int .i64 (1 + q1))).setCell ⟨wr.heap.size, 1, none⟩ (.int .i64 (at1 + bq1))).setCell ⟨wr.heap.size, 2, none⟩ (.int .i64 (1 + g1))) wr.heap.size [.int .i64 (1 + q1), .int .i64 (at1 + bq1), .int .i64 (1 + g1)] ∧ Grow wr ((((wr.drew.alloc (.cells #[.int .i64 0, .int .i64 0, .int .i64 0] 46)).setCell ⟨wr.heap.size, 0, none⟩ (.int .i64 (1 + q1))).setCell ⟨wr.heap.size, 1, none⟩ (.int .i64 (at1 + bq1))).setCell ⟨wr.heap.size, 2, none⟩ (.int .i64 (1 + g1)))) := ⟨V7.set3 _ _ _, UpdS.new (((Grow.refl wr).drew).alloc _) (upd_three _ wr.heap.size _ _ _) (fun i hi => by omega)⟩
              refine wpT_store (w' := (((wr.drew.alloc (.cells #[.int .i64 0, .int .i64 0, .int .i64 0] 46)).setCell ⟨wr.heap.size, 0, none⟩ (.int .i64 (1 + q1))).setCell ⟨wr.heap.size, 1, none⟩ (.int .i64 (at1 + bq1))).setCell ⟨wr.heap.size, 2, none⟩ (.int .i64 (1 + g1))) (by rfl) ?_ ?_ ?_
              · go_simp
              · exact (upd_three _ wr.heap.size _ _ _).mono (fun i hi => by rw [hi]; exact Nat.le_refl _)
              simp only [Act.put, List.setIfInBounds_toArray, List.set_cons_zero, List.set_cons_succ]
              generalize (((wr.drew.alloc (.cells #[.int .i64 0, .int .i64 0, .int .i64 0] 46)).setCell ⟨wr.heap.size, 0, none⟩ (.int .i64 (1 + q1))).setCell ⟨wr.heap.size, 1, none⟩ (.int .i64 (at1 + bq1))).setCell ⟨wr.heap.size, 2, none⟩ (.int .i64 (1 + g1)) = w8 at V8 ⊢
              refine wpT_done ?_
              go_wp2_with fail
              go_meet
              exact ⟨wr.heap.size, rfl, V8.out.1, V8.out.2, Nat.le_refl _⟩
            · skip
              refine wpT_act (by rfl) (exec_alloc #[.int .i64 0, .int .i64 0, .int .i64 0] zeroP) (Grow.s ((Grow.refl _).alloc _)) ?_
              simp only [Act.put, List.setIfInBounds_toArray, List.set_cons_zero, List.set_cons_succ]
              repeat (first
                | (refine wpT_move rfl ?_; simp only [Act.eval, Act.put, Array.getD_eq_getD_getElem?, List.getElem?_toArray, List.getElem?_cons_zero, List.getElem?_cons_succ, Option.getD_some, List.setIfInBounds_toArray, List.set_cons_zero, List.set_cons_succ])
                | (refine wpT_assign rfl ?_; simp only [Act.eval, Act.put, Array.getD_eq_getD_getElem?, List.getElem?_toArray, List.getElem?_cons_zero, List.getElem?_cons_succ, Option.getD_some, List.setIfInBounds_toArray, List.set_cons_zero, List.set_cons_succ])
                | (refine wpT_read (v := ?_) rfl ?_ ?_; rotate_left; (focus (intro w' hG; skip; go_simp; try (with_reducible rfl))); simp only [Act.put, List.setIfInBounds_toArray, List.set_cons_zero, List.set_cons_succ])
                | (refine wpT_skip rfl ?_; simp only [Act.put, List.setIfInBounds_toArray, List.set_cons_zero, List.set_cons_succ]))
              refine wpT_call (f := ?_) (args := ?_) (by rfl) ?_ ?_
              rotate_left 2; focus (go_simp; constructor <;> with_reducible rfl)
              refine (hg _).mono ?_
              rintro e w5 ⟨rfl, rfl⟩
              refine ⟨_, rfl, UpdS.refl _ _, ?_⟩
              simp only [Act.put, List.setIfInBounds_toArray, List.set_cons_zero, List.set_cons_succ]
              repeat (first
                | (refine wpT_move rfl ?_; simp only [Act.eval, Act.put, Array.getD_eq_getD_getElem?, List.getElem?_toArray, List.getElem?_cons_zero, List.getElem?_cons_succ, Option.getD_some, List.setIfInBounds_toArray, List.set_cons_zero, List.set_cons_succ])
                | (refine wpT_assign rfl ?_; simp only [Act.eval, Act.put, Array.getD_eq_getD_getElem?, List.getElem?_toArray, List.getElem?_cons_zero, List.getElem?_cons_succ, Option.getD_some, List.setIfInBounds_toArray, List.set_cons_zero, List.set_cons_succ])
                | (refine wpT_read (v := ?_) rfl ?_ ?_; rotate_left; (focus (intro w' hG; skip; go_simp; try (with_reducible rfl))); simp only [Act.put, List.setIfInBounds_toArray, List.set_cons_zero, List.set_cons_succ])
                | (refine wpT_skip rfl ?_; simp only [Act.put, List.setIfInBounds_toArray, List.set_cons_zero, List.set_cons_succ]))
              have V7 := VarAt.new wr.drew [.int .i64 0, .int .i64 0, .int .i64 0] 46
              obtain ⟨⟨v0, v1, v2⟩, v3, v4, v5⟩ := V7.three
              have V8 : Hid (VarAt ((((wr.drew.alloc (.cells #[.int .i64 0, .int .i64 0, .int .i64 0] 46)).setCell ⟨wr.heap.size, 0, none⟩ (.int .i64 (1 + q1))).setCell ⟨wr.heap.size, 1, none⟩ (.int .i64 (at1 + bq1))).setCell ⟨wr.heap.size, 2, none⟩ (.int .i64 (1 + g1))) wr.heap.size [.int .i64 (1 + q1), .int .i64 (at1 + bq1), .int .i64 (1 + g1)] ∧ Grow wr ((((wr.drew.alloc (.cells #[.int .i64 0, .int .i64 0, .int .i64 0] 46)).setCell ⟨wr.heap.size, 0, none⟩ (.int .i64 (1 + q1))).setCell ⟨wr.heap.size, 1, none⟩ (.int .i64 (at1 + bq1))).setCell ⟨wr.heap.size, 2, none⟩ (.int .i64 (1 + g1)))) := ⟨V7.set3 _ _ _, UpdS.new (((Grow.refl wr).drew).alloc _) (upd_three _ wr.heap.size _ _ _) (fun i hi => by omega)⟩
              refine wpT_store (w' := (((wr.drew.alloc (.cells #[.int .i64 0, .int .i64 0, .int .i64 0] 46)).setCell ⟨wr.heap.size, 0, none⟩ (.int .i64 (1 + q1))).setCell ⟨wr.heap.size, 1, none⟩ (.int .i64 (at1 + bq1))).setCell ⟨wr.heap.size, 2, none⟩ (.int .i64 (1 + g1))) (by rfl) ?_ ?_ ?_
              · go_simp
              · exact (upd_three _ wr.heap.size _ _ _).mono (fun i hi => by rw [hi]; exact Nat.le_refl _)
              simp only [Act.put, List.setIfInBounds_toArray, List.set_cons_zero, List.set_cons_succ]
              generalize (((wr.drew.alloc (.cells #[.int .i64 0, .int .i64 0, .int .i64 0] 46)).setCell ⟨wr.heap.size, 0, none⟩ (.int .i64 (1 + q1))).setCell ⟨wr.heap.size, 1, none⟩ (.int .i64 (at1 + bq1))).setCell ⟨wr.heap.size, 2, none⟩ (.int .i64 (1 + g1)) = w8 at V8 ⊢
              refine wpT_done ?_
              go_wp2_with fail
              go_meet
              exact ⟨wr.heap.size, rfl, V8.out.1, V8.out.2, Nat.le_refl _⟩
          · skip
            refine wpT_act (by rfl) (exec_alloc #[.int .i64 0, .int .i64 0, .int .i64 0] zeroP) (Grow.s ((Grow.refl _).alloc _)) ?_
            simp only [Act.put, List.setIfInBounds_toArray, List.set_cons_zero, List.set_cons_succ]
            repeat (first
              | (refine wpT_move rfl ?_; simp only [Act.eval, Act.put, Array.getD_eq_getD_getElem?, List.getElem?_toArray, List.getElem?_cons_zero, List.getElem?_cons_succ, Option.getD_some, List.setIfInBounds_toArray, List.set_cons_zero, List.set_cons_succ])
              | (refine wpT_assign rfl ?_; simp only [Act.eval, Act.put, Array.getD_eq_getD_getElem?, List.getElem?_toArray, List.getElem?_cons_zero, List.getElem?_cons_succ, Option.getD_some, List.setIfInBounds_toArray, List.set_cons_zero, List.set_cons_succ])
              | (refine wpT_read (v := ?_) rfl ?_ ?_; rotate_left; (focus (intro w' hG; skip; go_simp; try (with_reducible rfl))); simp only [Act.put, List.setIfInBounds_toArray, List.set_cons_zero, List.set_cons_succ])
              | (refine wpT_skip rfl ?_; simp only [Act.put, List.setIfInBounds_toArray, List.set_cons_zero, List.set_cons_succ]))
            refine wpT_call (f := ?_) (args := ?_) (by rfl) ?_ ?_
            rotate_left 2; focus (go_simp; constructor <;> with_reducible rfl)
            refine (hb _).mono ?_
            rintro e w5 ⟨rfl, rfl⟩
            refine ⟨_, rfl, UpdS.refl _ _, ?_⟩
            simp only [Act.put, List.setIfInBounds_toArray, List.set_cons_zero, List.set_cons_succ]
            repeat (first
              | (refine wpT_move rfl ?_; simp only [Act.eval, Act.put, Array.getD_eq_getD_getElem?, List.getElem?_toArray, List.getElem?_cons_zero, List.getElem?_cons_succ, Option.getD_some, List.setIfInBounds_toArray, List.set_cons_zero, List.set_cons_succ])
              | (refine wpT_assign rfl ?_; simp only [Act.eval, Act.put, Array.getD_eq_getD_getElem?, List.getElem?_toArray, List.getElem?_cons_zero, List.getElem?_cons_succ, Option.getD_some, List.setIfInBounds_toArray, List.set_cons_zero, List.set_cons_succ])
              | (refine wpT_read (v := ?_) rfl ?_ ?_; rotate_left; (focus (intro w' hG; skip; go_simp; try (with_reducible rfl))); simp only [Act.put, List.setIfInBounds_toArray, List.set_cons_zero, List.set_cons_succ])
              | (refine wpT_skip rfl ?_; simp only [Act.put, List.setIfInBounds_toArray, List.set_cons_zero, List.set_cons_succ]))
            refine wpT_call (f := ?_) (args := ?_) (by rfl) ?_ ?_
            rotate_left 2; focus (go_simp; constructor <;> with_reducible rfl)
            refine (hg _).mono ?_
            rintro e w5 ⟨rfl, rfl⟩
            refine ⟨_, rfl, UpdS.refl _ _, ?_⟩
            simp only [Act.put, List.setIfInBounds_toArray, List.set_cons_zero, List.set_cons_succ]
            repeat (first
              | (refine wpT_move rfl ?_; simp only [Act.eval, Act.put, Array.getD_eq_getD_getElem?, List.getElem?_toArray, List.getElem?_cons_zero, List.getElem?_cons_succ, Option.getD_some, List.setIfInBounds_toArray, List.set_cons_zero, List.set_cons_succ])
              | (refine wpT_assign rfl ?_; simp only [Act.eval, Act.put, Array.getD_eq_getD_getElem?, List.getElem?_toArray, List.getElem?_cons_zero, List.getElem?_cons_succ, Option.getD_some, List.setIfInBounds_toArray, List.set_cons_zero, List.set_cons_succ])
              | (refine wpT_read (v := ?_) rfl ?_ ?_; rotate_left; (focus (intro w' hG; skip; go_simp; try (with_reducible rfl))); simp only [Act.put, List.setIfInBounds_toArray, List.set_cons_zero, List.set_cons_succ])
              | (refine wpT_skip rfl ?_; simp only [Act.put, List.setIfInBounds_toArray, List.set_cons_zero, List.set_cons_succ]))
            have V7 := VarAt.new wr.drew [.int .i64 0, .int .i64 0, .int .i64 0] 46
            obtain ⟨⟨v0, v1, v2⟩, v3, v4, v5⟩ := V7.three
            have V8 : Hid (VarAt ((((wr.drew.alloc (.cells #[.int .i64 0, .int .i64 0, .int .i64 0] 46)).setCell ⟨wr.heap.size, 0, none⟩ (.int .i64 (1 + q1))).setCell ⟨wr.heap.size, 1, none⟩ (.int .i64 (at1 + bq1))).setCell ⟨wr.heap.size, 2, none⟩ (.int .i64 (1 + g1))) wr.heap.size [.int .i64 (1 + q1), .int .i64 (at1 + bq1), .int .i64 (1 + g1)] ∧ Grow wr ((((wr.drew.alloc (.cells #[.int .i64 0, .int .i64 0, .int .i64 0] 46)).setCell ⟨wr.heap.size, 0, none⟩ (.int .i64 (1 + q1))).setCell ⟨wr.heap.size, 1, none⟩ (.int .i64 (at1 + bq1))).setCell ⟨wr.heap.size, 2, none⟩ (.int .i64 (1 + g1)))) := ⟨V7.set3 _ _ _, UpdS.new (((Grow.refl wr).drew).alloc _) (upd_three _ wr.heap.size _ _ _) (fun i hi => by omega)⟩
            refine wpT_store (w' := (((wr.drew.alloc (.cells #[.int .i64 0, .int .i64 0, .int .i64 0] 46)).setCell ⟨wr.heap.size, 0, none⟩ (.int .i64 (1 + q1))).setCell ⟨wr.heap.size, 1, none⟩ (.int .i64 (at1 + bq1))).setCell ⟨wr.heap.size, 2, none⟩ (.int .i64 (1 + g1))) (by rfl) ?_ ?_ ?_
            · go_simp
            · exact (upd_three _ wr.heap.size _ _ _).mono (fun i hi => by rw [hi]; exact Nat.le_refl _)
            simp only [Act.put, List.setIfInBounds_toArray, List.set_cons_zero, List.set_cons_succ]
            generalize (((wr.drew.alloc (.cells #[.int .i64 0, .int .i64 0, .int .i64 0] 46)).setCell ⟨wr.heap.size, 0, none⟩ (.int .i64 (1 + q1))).setCell ⟨wr.heap.size, 1, none⟩ (.int .i64 (at1 + bq1))).setCell ⟨wr.heap.size, 2, none⟩ (.int .i64 (1 + g1)) = w8 at V8 ⊢
            refine wpT_done ?_
            go_wp2_with fail
            go_meet
            exact ⟨wr.heap.size, rfl, V8.out.1, V8.out.2, Nat.le_refl _⟩
        · skip
          refine wpT_act (by rfl) (exec_alloc #[.int .i64 0, .int .i64 0, .int .i64 0] zeroP) (Grow.s ((Grow.refl _).alloc _)) ?_
          simp only [Act.put, List.setIfInBounds_toArray, List.set_cons_zero, List.set_cons_succ]
          repeat (first
            | (refine wpT_move rfl ?_; simp only [Act.eval, Act.put, Array.getD_eq_getD_getElem?, List.getElem?_toArray, List.getElem?_cons_zero, List.getElem?_cons_succ, Option.getD_some, List.setIfInBounds_toArray, List.set_cons_zero, List.set_cons_succ])
            | (refine wpT_assign rfl ?_; simp only [Act.eval, Act.put, Array.getD_eq_getD_getElem?, List.getElem?_toArray, List.getElem?_cons_zero, List.getElem?_cons_succ, Option.getD_some, List.setIfInBounds_toArray, List.set_cons_zero, List.set_cons_succ])
            | (refine wpT_read (v := ?_) rfl ?_ ?_; rotate_left; (focus (intro w' hG; skip; go_simp; try (with_reducible rfl))); simp only [Act.put, List.setIfInBounds_toArray, List.set_cons_zero, List.set_cons_succ])
            | (refine wpT_skip rfl ?_; simp only [Act.put, List.setIfInBounds_toArray, List.set_cons_zero, List.set_cons_succ]))
          refine wpT_call (f := ?_) (args := ?_) (by rfl) ?_ ?_
          rotate_left 2; focus (go_simp; constructor <;> with_reducible rfl)
          refine (hq _).mono ?_
          rintro e w5 ⟨rfl, rfl⟩
          refine ⟨_, rfl, UpdS.refl _ _, ?_⟩
          simp only [Act.put, List.setIfInBounds_toArray, List.set_cons_zero, List.set_cons_succ]
          repeat (first
            | (refine wpT_move rfl ?_; simp only [Act.eval, Act.put, Array.getD_eq_getD_getElem?, List.getElem?_toArray, List.getElem?_cons_zero, List.getElem?_cons_succ, Option.getD_some, List.setIfInBounds_toArray, List.set_cons_zero, List.set_cons_succ])
            | (refine wpT_assign rfl ?_; simp only [Act.eval, Act.put, Array.getD_eq_getD_getElem?, List.getElem?_toArray, List.getElem?_cons_zero, List.getElem?_cons_succ, Option.getD_some, List.setIfInBounds_toArray, List.set_cons_zero, List.set_cons_succ])
            | (refine wpT_read (v := ?_) rfl ?_ ?_; rotate_left; (focus (intro w' hG; skip; go_simp; try (with_reducible rfl))); simp only [Act.put, List.setIfInBounds_toArray, List.set_cons_zero, List.set_cons_succ])
            | (refine wpT_skip rfl ?_; simp only [Act.put, List.setIfInBounds_toArray, List.set_cons_zero, List.set_cons_succ]))
          refine wpT_call (f := ?_) (args := ?_) (by rfl) ?_ ?_
          rotate_left 2; focus (go_simp; constructor <;> with_reducible rfl)
          refine (hb _).mono ?_
          rintro e w5 ⟨rfl, rfl⟩
          refine ⟨_, rfl, UpdS.refl _ _, ?_⟩
          simp only [Act.put, List.setIfInBounds_toArray, List.set_cons_zero, List.set_cons_succ]
          repeat (first
            | (refine wpT_move rfl ?_; simp only [Act.eval, Act.put, Array.getD_eq_getD_getElem?, List.getElem?_toArray, List.getElem?_cons_zero, List.getElem?_cons_succ, Option.getD_some, List.setIfInBounds_toArray, List.set_cons_zero, List.set_cons_succ])
            | (refine wpT_assign rfl ?_; simp only [Act.eval, Act.put, Array.getD_eq_getD_getElem?, List.getElem?_toArray, List.getElem?_cons_zero, List.getElem?_cons_succ, Option.getD_some, List.setIfInBounds_toArray, List.set_cons_zero, List.set_cons_succ])
            | (refine wpT_read (v := ?_) rfl ?_ ?_; rotate_left; (focus (intro w' hG; skip; go_simp; try (with_reducible rfl))); simp only [Act.put, List.setIfInBounds_toArray, List.set_cons_zero, List.set_cons_succ])
            | (refine wpT_skip rfl ?_; simp only [Act.put, List.setIfInBounds_toArray, List.set_cons_zero, List.set_cons_succ]))
          refine wpT_call (f := ?_) (args := ?_) (by rfl) ?_ ?_
          rotate_left 2; focus (go_simp; constructor <;> with_reducible rfl)
          refine (hg _).mono ?_
          rintro e w5 ⟨rfl, rfl⟩
          refine ⟨_, rfl, UpdS.refl _ _, ?_⟩
          simp only [Act.put, List.setIfInBounds_toArray, List.set_cons_zero, List.set_cons_succ]
          repeat (first
            | (refine wpT_move rfl ?_; simp only [Act.eval, Act.put, Array.getD_eq_getD_getElem?, List.getElem?_toArray, List.getElem?_cons_zero, List.getElem?_cons_succ, Option.getD_some, List.setIfInBounds_toArray, List.set_cons_zero, List.set_cons_succ])
            | (refine wpT_assign rfl ?_; simp only [Act.eval, Act.put, Array.getD_eq_getD_getElem?, List.getElem?_toArray, List.getElem?_cons_zero, List.getElem?_cons_succ, Option.getD_some, List.setIfInBounds_toArray, List.set_cons_zero, List.set_cons_succ])
            | (refine wpT_read (v := ?_) rfl ?_ ?_; rotate_left; (focus (intro w' hG; skip; go_simp; try (with_reducible rfl))); simp only [Act.put, List.setIfInBounds_toArray, List.set_cons_zero, List.set_cons_succ])
            | (refine wpT_skip rfl ?_; simp only [Act.put, List.setIfInBounds_toArray, List.set_cons_zero, List.set_cons_succ]))
          have V7 := VarAt.new wr.drew [.int .i64 0, .int .i64 0, .int .i64 0] 46
          obtain ⟨⟨v0, v1, v2⟩, v3, v4, v5⟩ := V7.three
          have V8 : Hid (VarAt ((((wr.drew.alloc (.cells #[.int .i64 0, .int .i64 0, .int .i64 0] 46)).setCell ⟨wr.heap.size, 0, none⟩ (.int .i64 (1 + q1))).setCell ⟨wr.heap.size, 1, none⟩ (.int .i64 (at1 + bq1))).setCell ⟨wr.heap.size, 2, none⟩ (.int .i64 (1 + g1))) wr.heap.size [.int .i64 (1 + q1), .int .i64 (at1 + bq1), .int .i64 (1 + g1)] ∧ Grow wr ((((wr.drew.alloc (.cells #[.int .i64 0, .int .i64 0, .int .i64 0] 46)).setCell ⟨wr.heap.size, 0, none⟩ (.int .i64 (1 + q1))).setCell ⟨wr.heap.size, 1, none⟩ (.int .i64 (at1 + bq1))).setCell ⟨wr.heap.size, 2, none⟩ (.int .i64 (1 + g1)))) := ⟨V7.set3 _ _ _, UpdS.new (((Grow.refl wr).drew).alloc _) (upd_three _ wr.heap.size _ _ _) (fun i hi => by omega)⟩
          refine wpT_store (w' := (((wr.drew.alloc (.cells #[.int .i64 0, .int .i64 0, .int .i64 0] 46)).setCell ⟨wr.heap.size, 0, none⟩ (.int .i64 (1 + q1))).setCell ⟨wr.heap.size, 1, none⟩ (.int .i64 (at1 + bq1))).setCell ⟨wr.heap.size, 2, none⟩ (.int .i64 (1 + g1))) (by rfl) ?_ ?_ ?_
          · go_simp
          · exact (upd_three _ wr.heap.size _ _ _).mono (fun i hi => by rw [hi]; exact Nat.le_refl _)
          simp only [Act.put, List.setIfInBounds_toArray, List.set_cons_zero, List.set_cons_succ]
          generalize (((wr.drew.alloc (.cells #[.int .i64 0, .int .i64 0, .int .i64 0] 46)).setCell ⟨wr.heap.size, 0, none⟩ (.int .i64 (1 + q1))).setCell ⟨wr.heap.size, 1, none⟩ (.int .i64 (at1 + bq1))).setCell ⟨wr.heap.size, 2, none⟩ (.int .i64 (1 + g1)) = w8 at V8 ⊢
          refine wpT_done ?_
          go_wp2_with fail
          go_meet
          exact ⟨wr.heap.size, rfl, V8.out.1, V8.out.2, Nat.le_refl _⟩
      case rest =>
        obtain ⟨b7, rfl, CC⟩ := hcut
        clear hq hb hg hwq hwb hwg HX
        have HB7 : Hid (b4 < wr.heap.size ∧ wr.heap.size ≤ b7 ∧ b7 < wc.heap.size) := ⟨X0.2.2.1.lt, CC.out.2.2, CC.out.1.lt⟩
        obtain ⟨a5, c5, rfl⟩ := X0.2.2.2.1.shape
        have hS0 := qsum_small qs X0.2.2.2.2.2.2.1
        have hql := X0.2.2.2.2.1
        have hwS : IntKind.i64.wrap (qsum qs + (1 + q1)) = qsum qs + (1 + q1) := by rw [IntKind.wrap_i64]; omega
        have HQ : Hid (qs.length = j) := hql
        have hq4 : qs.length ≤ 4 := by omega
        have Y1 : Hid (VarAt wc b1 [.int .i64 fr, .int .i64 dp, .int .i64 se, .slice (some ⟨bb, oo, none⟩) ps.length cp] ∧ VarAt wc b2 [.int .i64 (0 : Int), .int .i64 (0 : Int), .int .i64 (0 : Int), .slice none 0 0] ∧ VarAt wc b4 [.int .i64 (qsum qs), .int .i64 dp', .int .i64 (0 : Int), .slice a5 qs.length c5] ∧ OwnP (fun i => b4 < i ∧ i < wr.heap.size) wc (.slice a5 qs.length c5) qs ∧ RdP (fun i => i < b4) wc (.slice (some ⟨bb, oo, none⟩) ps.length cp) ps ∧ Grow w wc ∧ VarAt wc b7 [.int .i64 (1 + q1), .int .i64 (at1 + bq1), .int .i64 (1 + g1)]) :=
          ⟨X0.1.grow CC.out.2.1, X0.2.1.grow CC.out.2.1, X0.2.2.1.grow CC.out.2.1, OwnS.grow (OwnS.mono X0.2.2.2.1 (fun i h1 h2 => ⟨h2, h1⟩)) CC.out.2.1, RdS.grow X0.2.2.2.2.2.2.2.1 CC.out.2.1, X0.2.2.2.2.2.2.2.2.trans CC.out.2.1, CC.out.1⟩
        have Y2 : Hid (chain 0 qs at1 ∧ ∀ x ∈ qs, Small x) := ⟨X0.2.2.2.2.2.1, X0.2.2.2.2.2.2.1⟩
        clear X0 CC hql
        have Z1 : Hid (Grow wc (wc.alloc (.cells #[.int .i64 (1 + q1), .int .i64 (at1 + bq1), .int .i64 (1 + g1)] 46)) ∧ RdP (fun i => i = wc.heap.size) (wc.alloc (.cells #[.int .i64 (1 + q1), .int .i64 (at1 + bq1), .int .i64 (1 + g1)] 46)) (.slice (some ⟨wc.heap.size, 0, none⟩) 1 1) [(⟨1 + q1, at1 + bq1, 1 + g1⟩ : Pt)]) := ⟨(Grow.refl wc).alloc _, rdS_new (f := Pt.cs) (k := 3) wc 46 [(⟨1 + q1, at1 + bq1, 1 + g1⟩ : Pt)] Pt.cs_length (by simp only [List.length_singleton]; unfold maxLen; omega)⟩
        have hsrc := RdS.src (P := Try.prog) Z1.out.2 Pt.cs_length Pt.cs_one (tx := 22) Try.underlying22
        have hown := OwnS.grow Y1.out.2.2.2.1 Z1.out.1
        obtain ⟨⟨m0, m1, m2, m3⟩, -⟩ := Y1.out.2.2.1.four
        obtain ⟨⟨n0, n1, n2⟩, -⟩ := Y1.out.2.2.2.2.2.2.three
        go_wp2_with (at_builtin; (refine wpList_appS (f := Pt.cs) (k := 3) rfl (.tmp 55) (.tmp 57) 22 22 rfl Pt.cs_length (by omega) i0 (.agg #[.int .i64 0, .int .i64 0, .int .i64 0]) 24 Try.underlying22 hinf hz0 hz1 hz2 rfl rfl rfl hown hsrc (by simp only [maxLen, List.length_singleton]; omega) (by simp only [List.length_singleton]; omega) ?_))
        intro v6 w6 ho6 hu6
        have hsz6 := hu6.size
        rw [World.size_alloc] at hsz6
        have U6 : Hid (UpdS (fun i => b4 < i ∧ i < wr.heap.size) wc w6 ∧ wc.heap.size < w6.heap.size) := ⟨(Z1.out.1.s).trans hu6, by omega⟩
        have O6 : Hid (OwnP (fun i => b4 < i ∧ i ≠ b7) w6 v6 (qs ++ [(⟨1 + q1, at1 + bq1, 1 + g1⟩ : Pt)])) := OwnS.mono ho6 (fun i hi h => by
          have := HB7.out
          rcases h with h | h
          · omega
          · have h' : i = wc.heap.size + 1 := h
            omega)
        obtain ⟨a6, c6, hv6⟩ := ho6.shape
        rw [List.length_append, List.length_singleton] at hv6
        subst hv6
        clear ho6 hu6 hsz6 hsrc hown Z1 m0 m1 m2 m3 n0 n1 n2
        have Y3 : Hid (VarAt w6 b1 [.int .i64 fr, .int .i64 dp, .int .i64 se, .slice (some ⟨bb, oo, none⟩) ps.length cp] ∧ VarAt w6 b2 [.int .i64 (0 : Int), .int .i64 (0 : Int), .int .i64 (0 : Int), .slice none 0 0] ∧ VarAt w6 b4 [.int .i64 (qsum qs), .int .i64 dp', .int .i64 (0 : Int), .slice a5 qs.length c5] ∧ RdP (fun i => i < b4) w6 (.slice (some ⟨bb, oo, none⟩) ps.length cp) ps ∧ Grow w w6 ∧ VarAt w6 b7 [.int .i64 (1 + q1), .int .i64 (at1 + bq1), .int .i64 (1 + g1)]) := by
          have h7 := HB7.out
          have h4 := HB4.out
          exact ⟨Y1.out.1.upd U6.out.1 (by omega), Y1.out.2.1.upd U6.out.1 (by omega), Y1.out.2.2.1.upd U6.out.1 (by omega), RdS.upd Y1.out.2.2.2.2.1 U6.out.1 (fun i _ hi => by omega), UpdS.new Y1.out.2.2.2.2.2.1 U6.out.1 (fun i hi => by omega), Y1.out.2.2.2.2.2.2.upd U6.out.1 (by omega)⟩
        clear Y1 U6
        obtain ⟨⟨m0, m1, m2, m3⟩, f0, f1, f2, f3⟩ := Y3.out.2.2.1.four
        obtain ⟨⟨n0, n1, n2⟩, -⟩ := Y3.out.2.2.2.2.2.three
        have hne : (b7 == b4) = false := by have := HB7.out; simp; omega
        have hne2 : ¬ b4 = b7 := by have := HB7.out; omega
        have hne3 : ¬ b7 = b4 := by have := HB7.out; omega
        have hu8 := (upd_one w6 b4 3 (.slice a6 (qs.length + 1) c6)).trans (upd_one (w6.setCell ⟨b4, 3, none⟩ (.slice a6 (qs.length + 1) c6)) b4 0 (.int .i64 (qsum qs + (1 + q1))))
        have Y4 : Hid (VarAt ((w6.setCell ⟨b4, 3, none⟩ (.slice a6 (qs.length + 1) c6)).setCell ⟨b4, 0, none⟩ (.int .i64 (qsum qs + (1 + q1)))) b1 [.int .i64 fr, .int .i64 dp, .int .i64 se, .slice (some ⟨bb, oo, none⟩) ps.length cp] ∧ VarAt ((w6.setCell ⟨b4, 3, none⟩ (.slice a6 (qs.length + 1) c6)).setCell ⟨b4, 0, none⟩ (.int .i64 (qsum qs + (1 + q1)))) b2 [.int .i64 (0 : Int), .int .i64 (0 : Int), .int .i64 (0 : Int), .slice none 0 0] ∧ VarAt ((w6.setCell ⟨b4, 3, none⟩ (.slice a6 (qs.length + 1) c6)).setCell ⟨b4, 0, none⟩ (.int .i64 (qsum qs + (1 + q1)))) b4 [.int .i64 (qsum (qs ++ [(⟨1 + q1, at1 + bq1, 1 + g1⟩ : Pt)])), .int .i64 dp', .int .i64 (0 : Int), .slice a6 (qs.length + 1) c6] ∧ OwnP (fun i => b4 < i) ((w6.setCell ⟨b4, 3, none⟩ (.slice a6 (qs.length + 1) c6)).setCell ⟨b4, 0, none⟩ (.int .i64 (qsum qs + (1 + q1)))) (.slice a6 (qs.length + 1) c6) (qs ++ [(⟨1 + q1, at1 + bq1, 1 + g1⟩ : Pt)]) ∧ (qs ++ [(⟨1 + q1, at1 + bq1, 1 + g1⟩ : Pt)]).length = j + 1 ∧ chain 0 (qs ++ [(⟨1 + q1, at1 + bq1, 1 + g1⟩ : Pt)]) (at1 + bq1 + 2 * (1 + g1)) ∧ (∀ x ∈ qs ++ [(⟨1 + q1, at1 + bq1, 1 + g1⟩ : Pt)], Small x) ∧ RdP (fun i => i < b4) ((w6.setCell ⟨b4, 3, none⟩ (.slice a6 (qs.length + 1) c6)).setCell ⟨b4, 0, none⟩ (.int .i64 (qsum qs + (1 + q1)))) (.slice (some ⟨bb, oo, none⟩) ps.length cp) ps ∧ Grow w ((w6.setCell ⟨b4, 3, none⟩ (.slice a6 (qs.length + 1) c6)).setCell ⟨b4, 0, none⟩ (.int .i64 (qsum qs + (1 + q1))))) := by
          have h4 := HB4.out
          refine ⟨Y3.out.1.upd hu8 (by omega), Y3.out.2.1.upd hu8 (by omega), ?_, OwnS.upd (OwnS.mono O6.out (fun i _ h => h.1)) hu8 (fun i _ hi => by omega), by rw [List.length_append, HQ.out]; rfl, chain_snoc qs 0 at1 Y2.out.1 (by show at1 ≤ at1 + bq1; omega) (by show at1 + bq1 ≤ at1 + 2; omega), small_snoc Y2.out.2 ⟨by show 1 ≤ 1 + q1; omega, by show 1 + q1 ≤ 3; omega, by show 1 ≤ 1 + g1; omega, by show 1 + g1 ≤ 4; omega⟩, RdS.upd Y3.out.2.2.2.1 hu8 (fun i _ hi => by omega), UpdS.new Y3.out.2.2.2.2.1 hu8 (fun i hi => by omega)⟩
          rw [qsum_snoc]
          exact (Y3.out.2.2.1.set 3 _).set 0 _
        clear hu8
        have HA : Hid (0 ≤ at1 + bq1 + 2 * (1 + g1) ∧ at1 + bq1 + 2 * (1 + g1) ≤ 10 * ((j + 1 : Nat) : Int)) := ⟨by omega, by omega⟩
        go_wp2
        go_roundg (ps.length - (j + 1))
        case measure => have := HK.out; omega
        case rel => exact ⟨j + 1, at1 + bq1 + 2 * (1 + g1), rfl, HK.out.1, rfl, by go_num, HA.out.1, HA.out.2, _, _, Y4.out⟩
    · have hle : ¬ (j : Int) < (ps.length : Int) := by omega
      have hje : j = ps.length := by omega
      have hwa : IntKind.i64.wrap (at1 + S3) = at1 + S3 := by have := HL0.out.2.2.1; rw [IntKind.wrap_i64]; omega
      obtain ⟨a5, c5, rfl⟩ := X0.2.2.2.1.shape
      have HG : Hid (GoodC (qsum qs) dp' (at1 + S3) qs) := by
        have h0 := HL0.out
        have hl := X0.2.2.2.2.1
        exact ⟨by omega, by omega, HD.out.1, HD.out.2, rfl, X0.2.2.2.2.2.2.1, at1, X0.2.2.2.2.2.1, by omega, by omega⟩
      have Y1 : Hid (VarAt wr b1 [.int .i64 fr, .int .i64 dp, .int .i64 se, .slice a ps.length cp] ∧ VarAt wr b2 [.int .i64 (0 : Int), .int .i64 (0 : Int), .int .i64 (0 : Int), .slice none 0 0] ∧ VarAt wr b4 [.int .i64 (qsum qs), .int .i64 dp', .int .i64 (0 : Int), .slice a5 qs.length c5] ∧ OwnP (fun i => b4 < i) wr (.slice a5 qs.length c5) qs ∧ Grow w wr) := ⟨X0.1, X0.2.1, X0.2.2.1, X0.2.2.2.1, X0.2.2.2.2.2.2.2.2⟩
      clear X0 hk hj hlt hje ha0 ha1
      obtain ⟨⟨k0, k1, k2, k3⟩, -⟩ := Y1.out.1.four
      go_wp2_with fail
      refine (har3 _).mono ?_
      rintro e w' ⟨rfl, rfl⟩
      obtain ⟨⟨m0, m1, m2, m3⟩, f0, f1, f2, f3⟩ := Y1.out.2.2.1.four
      obtain ⟨⟨n0, n1, n2, n3⟩, g0, g1, g2, g3⟩ := Y1.out.2.1.four
      have hne1 : ¬ b2 = b4 := by have := HB4.out; omega
      have hne2 : ¬ b4 = b2 := by have := HB4.out; omega
      go_wp2
      have hU := (upd_one wr b4 2 (.int .i64 (at1 + S3))).mono (S' := fun i => i = b4 ∨ i = b2) (fun i hi => .inl hi)
      have hU2 := hU.trans ((upd_four (wr.setCell ⟨b4, 2, none⟩ (.int .i64 (at1 + S3))) b2 (.int .i64 (qsum qs)) (.int .i64 dp') (.int .i64 (at1 + S3)) (.slice a5 qs.length c5)).mono (S' := fun i => i = b4 ∨ i = b2) (fun i hi => .inr hi))
      refine bodyPost_ret_by (results_cell rfl _ _ _ (.agg #[.int .i64 (qsum qs), .int .i64 dp', .int .i64 (at1 + S3), .slice a5 qs.length c5]) rfl (load_G b2 (qsum qs) dp' (at1 + S3) _ _ ((Y1.out.2.1.upd (upd_one wr b4 2 _) (by have := HB4.out; omega)).set4 _ _ _ _) rfl)) rfl ⟨_, _, _, _, qs, rfl, HG.out, ?_, UpdS.new Y1.out.2.2.2.2 hU2 (fun i hi => by have := HB4.out; omega)⟩
      exact RdS.mono (RdS.upd Y1.out.2.2.2.1.rd hU2 (fun i _ hi => by have := HB4.out; omega)) (fun i _ hi => by have := HB4.out; omega)

set_option maxHeartbeats 8000000 in
theorem good_zero {p : Nat → Prop} (fr dp se : Int) (v : Value) (ps : List Pt) (w : World) (h : RdP p w v ps) (hok : ∀ x ∈ ps, x.Ok) (hdp : W64 dp) (hse : W64 se) (hle : ps.length ≤ 4) (h0 : ps.length = 0) :
    Calls Try.prog 8 #[.agg #[.int .i64 fr, .int .i64 dp, .int .i64 se, v]] w fun e w' => ∃ fr' dp' se' v' ps', e = .returned (.agg #[.int .i64 fr', .int .i64 dp', .int .i64 se', v']) ∧ GoodC fr' dp' se' ps' ∧ RdP (fun i => w.heap.size ≤ i) w' v' ps' ∧ Grow w w' := by
  obtain ⟨i0, hinf, hz0, hz1, hz2⟩ := info_parts infoP
  have HI : Hid (VarAt ((w.alloc (.cells #[.int .i64 fr, .int .i64 dp, .int .i64 se, v] 24)).alloc (.cells #[.int .i64 (0 : Int), .int .i64 (0 : Int), .int .i64 (0 : Int), .slice none 0 0] 24)) w.heap.size [.int .i64 fr, .int .i64 dp, .int .i64 se, v] ∧ VarAt ((w.alloc (.cells #[.int .i64 fr, .int .i64 dp, .int .i64 se, v] 24)).alloc (.cells #[.int .i64 (0 : Int), .int .i64 (0 : Int), .int .i64 (0 : Int), .slice none 0 0] 24)) (w.heap.size + 1) [.int .i64 (0 : Int), .int .i64 (0 : Int), .int .i64 (0 : Int), .slice none 0 0] ∧ Grow w ((w.alloc (.cells #[.int .i64 fr, .int .i64 dp, .int .i64 se, v] 24)).alloc (.cells #[.int .i64 (0 : Int), .int .i64 (0 : Int), .int .i64 (0 : Int), .slice none 0 0] 24))) := two_new
  have HR : Hid (RdP p w v ps ∧ (∀ x ∈ ps, x.Ok)) := ⟨h, hok⟩
  obtain ⟨a, cp, rfl, h1, h2, -⟩ := h
  unfold maxLen at h2
  have har4 := fun w' => around_any dp 4 w' (wf_of hdp) (by omega) (by omega)
  have har3 := fun w' => around_any se 3 w' (wf_of hse) (by omega) (by omega)
  have hA4 := around4 dp
  have hA3 := around3 se
  generalize around dp 4 = D at har4 hA4
  generalize around se 3 = S3 at har3 hA3
  obtain ⟨dp', hdp'⟩ : ∃ dp', dp' = 1 + D := ⟨_, rfl⟩
  have hwd : IntKind.i64.wrap (1 + D) = dp' := by rw [IntKind.wrap_i64]; omega
  have HD : Hid (1 ≤ dp' ∧ dp' ≤ 4) := ⟨by omega, by omega⟩
  clear hdp' hA4 hok hdp hse
  have hle' : (ps.length : Int) ≤ 4 := by omega
  have hmin : min (ps.length : Int) 4 = (ps.length : Int) := by omega
  have hz : ((ps.length : Int) == 0) = true := by rw [h0]; rfl
  clear h0
  have HL0 : Hid (([Pt.zero]).length = 1 ∧ 1 ≤ 1 ∧ 1 ≤ 4 ∧ ∀ x ∈ [Pt.zero], x.Ok) := ⟨rfl, by omega, by omega, fun x hx => by rw [List.mem_singleton.1 hx]; exact zero_ok⟩
  have X0 : Hid (VarAt (((w.alloc (.cells #[.int .i64 fr, .int .i64 dp, .int .i64 se, .slice a ps.length cp] 24)).alloc (.cells #[.int .i64 (0 : Int), .int .i64 (0 : Int), .int .i64 (0 : Int), .slice none 0 0] 24)).alloc (.cells #[.int .i64 0, .int .i64 0, .int .i64 0] 46)) w.heap.size [.int .i64 fr, .int .i64 dp, .int .i64 se, .slice a ps.length cp] ∧ VarAt (((w.alloc (.cells #[.int .i64 fr, .int .i64 dp, .int .i64 se, .slice a ps.length cp] 24)).alloc (.cells #[.int .i64 (0 : Int), .int .i64 (0 : Int), .int .i64 (0 : Int), .slice none 0 0] 24)).alloc (.cells #[.int .i64 0, .int .i64 0, .int .i64 0] 46)) (w.heap.size + 1) [.int .i64 (0 : Int), .int .i64 (0 : Int), .int .i64 (0 : Int), .slice none 0 0] ∧ RdP (fun i => i < (((w.alloc (.cells #[.int .i64 fr, .int .i64 dp, .int .i64 se, .slice a ps.length cp] 24)).alloc (.cells #[.int .i64 (0 : Int), .int .i64 (0 : Int), .int .i64 (0 : Int), .slice none 0 0] 24)).alloc (.cells #[.int .i64 0, .int .i64 0, .int .i64 0] 46)).heap.size) (((w.alloc (.cells #[.int .i64 fr, .int .i64 dp, .int .i64 se, .slice a ps.length cp] 24)).alloc (.cells #[.int .i64 (0 : Int), .int .i64 (0 : Int), .int .i64 (0 : Int), .slice none 0 0] 24)).alloc (.cells #[.int .i64 0, .int .i64 0, .int .i64 0] 46)) (.slice (some ⟨w.heap.size + 1 + 1, 0, none⟩) 1 1) [Pt.zero] ∧ Grow w (((w.alloc (.cells #[.int .i64 fr, .int .i64 dp, .int .i64 se, .slice a ps.length cp] 24)).alloc (.cells #[.int .i64 (0 : Int), .int .i64 (0 : Int), .int .i64 (0 : Int), .slice none 0 0] 24)).alloc (.cells #[.int .i64 0, .int .i64 0, .int .i64 0] 46))) := by
    refine ⟨HI.out.1.grow ((Grow.refl _).alloc _), HI.out.2.1.grow ((Grow.refl _).alloc _), ?_, HI.out.2.2.alloc _⟩
    have := rdS_new (f := Pt.cs) (k := 3) ((w.alloc (.cells #[.int .i64 fr, .int .i64 dp, .int .i64 se, .slice a ps.length cp] 24)).alloc (.cells #[.int .i64 (0 : Int), .int .i64 (0 : Int), .int .i64 (0 : Int), .slice none 0 0] 24)) 46 [Pt.zero] Pt.cs_length (by unfold maxLen; decide)
    rw [World.size_alloc, World.size_alloc] at this
    exact RdS.mono this (fun i hi _ => hi)
  go_enter Try.func8, Try.ntmps8
  go_wp2_with fail
  obtain ⟨b1, hb1⟩ : ∃ b1, b1 = w.heap.size := ⟨_, rfl⟩
  obtain ⟨b2, hb2⟩ : ∃ b2, b2 = w.heap.size + 1 := ⟨_, rfl⟩
  have HB : Hid (b1 = w.heap.size ∧ b2 = w.heap.size + 1) := ⟨hb1, hb2⟩
  obtain ⟨b3, hb3⟩ : ∃ b3, b3 = w.heap.size + 1 + 1 := ⟨_, rfl⟩
  generalize (((w.alloc (.cells #[.int .i64 fr, .int .i64 dp, .int .i64 se, .slice a ps.length cp] 24)).alloc (.cells #[.int .i64 (0 : Int), .int .i64 (0 : Int), .int .i64 (0 : Int), .slice none 0 0] 24)).alloc (.cells #[.int .i64 0, .int .i64 0, .int .i64 0] 46)) = w2 at X0 ⊢
  rw [← hb3, ← hb2, ← hb1] at X0 ⊢
  have X := X0
  clear hb1 hb2 hb3 X0 HI
  generalize [Pt.zero] = ls at HL0 X
  go_wp2_with fail
  refine (har4 _).mono ?_
  rintro e w' ⟨rfl, rfl⟩
  obtain ⟨⟨m0, m1, m2, m3⟩, -⟩ := X.out.1.four
  have HI4 : Hid (VarAt (w2.alloc (.cells #[.int .i64 (0 : Int), .int .i64 dp', .int .i64 (0 : Int), .slice none 0 0] 24)) w2.heap.size [.int .i64 (0 : Int), .int .i64 dp', .int .i64 (0 : Int), .slice none 0 0] ∧ Grow w2 (w2.alloc (.cells #[.int .i64 (0 : Int), .int .i64 dp', .int .i64 (0 : Int), .slice none 0 0] 24))) := ⟨VarAt.new w2 [.int .i64 (0 : Int), .int .i64 dp', .int .i64 (0 : Int), .slice none 0 0] _, (Grow.refl w2).alloc _⟩
  go_wp2
  clear m0 m1 m2 m3 har4 hwd
  generalize w2.alloc (.cells #[.int .i64 (0 : Int), .int .i64 dp', .int .i64 (0 : Int), .slice none 0 0] 24) = w3 at HI4 ⊢
  have Y : Hid (VarAt w3 b1 [.int .i64 fr, .int .i64 dp, .int .i64 se, .slice a ps.length cp] ∧ VarAt w3 b2 [.int .i64 (0 : Int), .int .i64 (0 : Int), .int .i64 (0 : Int), .slice none 0 0] ∧ VarAt w3 w2.heap.size [.int .i64 (0 : Int), .int .i64 dp', .int .i64 (0 : Int), .slice none 0 0] ∧ RdP (fun i => i < w2.heap.size) w3 (.slice (some ⟨b3, 0, none⟩) 1 1) ls ∧ Grow w w3 ∧ b1 < w2.heap.size ∧ b2 < w2.heap.size ∧ w.heap.size ≤ w2.heap.size) :=
    ⟨X.out.1.grow HI4.out.2, X.out.2.1.grow HI4.out.2, HI4.out.1, RdS.grow X.out.2.2.1 HI4.out.2, X.out.2.2.2.trans HI4.out.2, X.out.1.lt, X.out.2.1.lt, X.out.2.2.2.size⟩
  clear HI4 X
  generalize w2.heap.size = b4 at Y ⊢
  have HB4 : Hid (b1 < b4 ∧ b2 < b4 ∧ w.heap.size ≤ b4 ∧ b1 = w.heap.size ∧ b2 = w.heap.size + 1) := ⟨Y.out.2.2.2.2.2.1, Y.out.2.2.2.2.2.2.1, Y.out.2.2.2.2.2.2.2, HB.out.1, HB.out.2⟩
  clear HB w2
  go_loopg [5, 6] (1) (fun m av iv wr => ∃ (j : Nat) (at1 : Int), m = 1 - j ∧ j ≤ 1 ∧ av = .int .i64 at1 ∧ iv = .int .i64 j ∧ 0 ≤ at1 ∧ at1 ≤ 10 * j ∧ Hid (∃ (vv : Value) (qs : List Pt), VarAt wr b1 [.int .i64 fr, .int .i64 dp, .int .i64 se, .slice a ps.length cp] ∧ VarAt wr b2 [.int .i64 (0 : Int), .int .i64 (0 : Int), .int .i64 (0 : Int), .slice none 0 0] ∧ VarAt wr b4 [.int .i64 (qsum qs), .int .i64 dp', .int .i64 (0 : Int), vv] ∧ OwnP (fun i => b4 < i) wr vv qs ∧ qs.length = j ∧ chain 0 qs at1 ∧ (∀ x ∈ qs, Small x) ∧ RdP (fun i => i < b4) wr (.slice (some ⟨b3, 0, none⟩) 1 1) ls ∧ Grow w wr))
  case atStart => exact ⟨0, 0, by omega, by omega, rfl, rfl, by omega, by omega, .slice none 0 0, [], Y.out.1, Y.out.2.1, Y.out.2.2.1, OwnS.nil _ _ _ _ _, rfl, rfl, (fun x hx => by cases hx), Y.out.2.2.2.1, Y.out.2.2.2.2.1⟩
  case round =>
    clear Y
    obtain ⟨j, at1, hk, hj, rfl, rfl, ha0, ha1, vv, qs, X0⟩ := hrel
    by_cases hlt : j < 1
    · have hle : (j : Int) < 1 := by omega
      have HK : Hid (j < 1 ∧ gk = 1 - j) := ⟨hlt, hk⟩
      have hj4 : j < 4 := by have := HL0.out.2.2.1; omega
      have hlt : j < ls.length := by have := HL0.out.1; omega
      have hw1 : IntKind.i64.wrap ((j : Int) + 1) = (j : Int) + 1 := by rw [IntKind.wrap_i64]; omega
      obtain ⟨bb, oo, hal, hbb, hbl, hin⟩ := rdP_at X0.2.2.2.2.2.2.2.1 hlt
      injection hal with hal
      injection hal with e1 e2
      subst e1 e2
      have hdo := HL0.out.2.2.2 _ (getD_mem hlt)
      generalize ls.getD j Pt.zero = d at hin hdo
      have hq := fun w' => around_any d.q 3 w' (wf_of hdo.1) (by omega) (by omega)
      have hb := fun w' => around_any d.b 3 w' (wf_of hdo.2.1) (by omega) (by omega)
      have hg := fun w' => around_any d.g 4 w' (wf_of hdo.2.2) (by omega) (by omega)
      have hq3 := around3 d.q
      have hb3 := around3 d.b
      have hg4 := around4 d.g
      generalize around d.q 3 = q1 at hq hq3
      generalize around d.b 3 = bq1 at hb hb3
      generalize around d.g 4 = g1 at hg hg4
      have hwq : IntKind.i64.wrap (1 + q1) = 1 + q1 := by rw [IntKind.wrap_i64]; omega
      have hwb : IntKind.i64.wrap (at1 + bq1) = at1 + bq1 := by rw [IntKind.wrap_i64]; omega
      have hwg : IntKind.i64.wrap (1 + g1) = 1 + g1 := by rw [IntKind.wrap_i64]; omega
      have hw2 : IntKind.i64.wrap (2 * (1 + g1)) = 2 * (1 + g1) := by rw [IntKind.wrap_i64]; omega
      have hw3 : IntKind.i64.wrap (at1 + bq1 + 2 * (1 + g1)) = at1 + bq1 + 2 * (1 + g1) := by rw [IntKind.wrap_i64]; omega
      have HX : Hid (PIn wr b3 (j * 3) d) := by rw [Nat.zero_add] at hin; exact hin
      clear hin hdo hk hj hlt
      go_upto_region 9 with fail
      go_cut [7] from 25 to 71 (fun pv wx => ∃ b7 : Nat, pv = .pointer (some ⟨b7, 0, none⟩) ∧ Hid (VarAt wx b7 [.int .i64 (1 + q1), .int .i64 (at1 + bq1), .int .i64 (1 + g1)] ∧ Grow wr wx ∧ wr.heap.size ≤ b7))
      case first =>
        have kx : ∀ w', UpdS (fun i => wr.heap.size ≤ i) wr.drew w' → PIn w' b3 (j * 3) d := fun w' h => (HX.out.grow (Grow.refl wr).drew).upd h (by have := World.block_lt_of_cell? _ _ HX.out.1; omega)
        refine wp_region_treeG (UpdS (fun i => wr.heap.size ≤ i)) (UpdS.refl _) (fun _ _ _ => UpdS.trans) (by kernel_rfl) (.read 0 (.read 1 (.read 2 (.read 3 (.read 4 (.read 7 (.read 8 (.read 9 (.read 10 (.read 11 (.read 12 (.read 15 (.read 16 (.read 17 (.read 18 (.read 19 (.fork 5 (.read 6 (.fork 13 (.read 14 (.fork 20 (.read 21 (.read 22 (.act 23 (.act 24 .done)))) 23 (.act 20 (.read 21 (.read 22 (.act 24 .done)))))) 23 (.act 13 (.read 14 (.act 20 (.read 21 (.read 22 (.act 24 .done)))))))) 23 (.act 5 (.read 6 (.act 13 (.read 14 (.act 20 (.read 21 (.read 22 (.act 24 .done))))))))))))))))))))))))) (by kernel_rfl) (by kernel_rfl) rfl (fun _ _ d _ _ h => by cases d <;> exact h) ?_
        simp only [Tr.over, List.getElem?_toArray, List.getElem?_cons_zero, List.getElem?_cons_succ]
        repeat (first
          | (refine wpT_move rfl ?_; simp only [Act.eval, Act.put, Array.getD_eq_getD_getElem?, List.getElem?_toArray, List.getElem?_cons_zero, List.getElem?_cons_succ, Option.getD_some, List.setIfInBounds_toArray, List.set_cons_zero, List.set_cons_succ])
          | (refine wpT_assign rfl ?_; simp only [Act.eval, Act.put, Array.getD_eq_getD_getElem?, List.getElem?_toArray, List.getElem?_cons_zero, List.getElem?_cons_succ, Option.getD_some, List.setIfInBounds_toArray, List.set_cons_zero, List.set_cons_succ])
          | (refine wpT_read (v := ?_) rfl ?_ ?_; rotate_left; (focus (intro w' hG; obtain ⟨k0, k1, k2⟩ := kx w' hG; go_simp; try (with_reducible rfl))); simp only [Act.put, List.setIfInBounds_toArray, List.set_cons_zero, List.set_cons_succ])
          | (refine wpT_skip rfl ?_; simp only [Act.put, List.setIfInBounds_toArray, List.set_cons_zero, List.set_cons_succ]))
        refine wpT_fork ?_ ?_
        · skip
          refine wpT_call (f := ?_) (args := ?_) (by rfl) ?_ ?_
          rotate_left 2; focus (go_simp; constructor <;> with_reducible rfl)
          refine (hq _).mono ?_
          rintro e w5 ⟨rfl, rfl⟩
          refine ⟨_, rfl, UpdS.refl _ _, ?_⟩
          simp only [Act.put, List.setIfInBounds_toArray, List.set_cons_zero, List.set_cons_succ]
          repeat (first
            | (refine wpT_move rfl ?_; simp only [Act.eval, Act.put, Array.getD_eq_getD_getElem?, List.getElem?_toArray, List.getElem?_cons_zero, List.getElem?_cons_succ, Option.getD_some, List.setIfInBounds_toArray, List.set_cons_zero, List.set_cons_succ])
            | (refine wpT_assign rfl ?_; simp only [Act.eval, Act.put, Array.getD_eq_getD_getElem?, List.getElem?_toArray, List.getElem?_cons_zero, List.getElem?_cons_succ, Option.getD_some, List.setIfInBounds_toArray, List.set_cons_zero, List.set_cons_succ])
            | (refine wpT_read (v := ?_) rfl ?_ ?_; rotate_left; (focus (intro w' hG; skip; go_simp; try (with_reducible rfl))); simp only [Act.put, List.setIfInBounds_toArray, List.set_cons_zero, List.set_cons_succ])
            | (refine wpT_skip rfl ?_; simp only [Act.put, List.setIfInBounds_toArray, List.set_cons_zero, List.set_cons_succ]))
          refine wpT_fork ?_ ?_
          · skip
            refine wpT_call (f := ?_) (args := ?_) (by rfl) ?_ ?_
            rotate_left 2; focus (go_simp; constructor <;> with_reducible rfl)
            refine (hb _).mono ?_
            rintro e w5 ⟨rfl, rfl⟩
            refine ⟨_, rfl, UpdS.refl _ _, ?_⟩
            simp only [Act.put, List.setIfInBounds_toArray, List.set_cons_zero, List.set_cons_succ]
            repeat (first
              | (refine wpT_move rfl ?_; simp only [Act.eval, Act.put, Array.getD_eq_getD_getElem?, List.getElem?_toArray, List.getElem?_cons_zero, List.getElem?_cons_succ, Option.getD_some, List.setIfInBounds_toArray, List.set_cons_zero, List.set_cons_succ])
              | (refine wpT_assign rfl ?_; simp only [Act.eval, Act.put, Array.getD_eq_getD_getElem?, List.getElem?_toArray, List.getElem?_cons_zero, List.getElem?_cons_succ, Option.getD_some, List.setIfInBounds_toArray, List.set_cons_zero, List.set_cons_succ])
              | (refine wpT_read (v := ?_) rfl ?_ ?_; rotate_left; (focus (intro w' hG; skip; go_simp; try (with_reducible rfl))); simp only [Act.put, List.setIfInBounds_toArray, List.set_cons_zero, List.set_cons_succ])
              | (refine wpT_skip rfl ?_; simp only [Act.put, List.setIfInBounds_toArray, List.set_cons_zero, List.set_cons_succ]))
            refine wpT_fork ?_ ?_
            · skip
              refine wpT_call (f := ?_) (args := ?_) (by rfl) ?_ ?_
              rotate_left 2; focus (go_simp; constructor <;> with_reducible rfl)
              refine (hg _).mono ?_
              rintro e w5 ⟨rfl, rfl⟩
              refine ⟨_, rfl, UpdS.refl _ _, ?_⟩
              simp only [Act.put, List.setIfInBounds_toArray, List.set_cons_zero, List.set_cons_succ]
              repeat (first
                | (refine wpT_move rfl ?_; simp only [Act.eval, Act.put, Array.getD_eq_getD_getElem?, List.getElem?_toArray, List.getElem?_cons_zero, List.getElem?_cons_succ, Option.getD_some, List.setIfInBounds_toArray, List.set_cons_zero, List.set_cons_succ])
                | (refine wpT_assign rfl ?_; simp only [Act.eval, Act.put, Array.getD_eq_getD_getElem?, List.getElem?_toArray, List.getElem?_cons_zero, List.getElem?_cons_succ, Option.getD_some, List.setIfInBounds_toArray, List.set_cons_zero, List.set_cons_succ])
                | (refine wpT_read (v := ?_) rfl ?_ ?_; rotate_left; (focus (intro w' hG; skip; go_simp; try (with_reducible rfl))); simp only [Act.put, List.setIfInBounds_toArray, List.set_cons_zero, List.set_cons_succ])
                | (refine wpT_skip rfl ?_; simp only [Act.put, List.setIfInBounds_toArray, List.set_cons_zero, List.set_cons_succ]))
              refine wpT_act (by rfl) (exec_alloc #[.int .i64 0, .int .i64 0, .int .i64 0] zeroP) (Grow.s ((Grow.refl _).alloc _)) ?_
              simp only [Act.put, List.setIfInBounds_toArray, List.set_cons_zero, List.set_cons_succ]
              repeat (first
                | (refine wpT_move rfl ?_; simp only [Act.eval, Act.put, Array.getD_eq_getD_getElem?, List.getElem?_toArray, List.getElem?_cons_zero, List.getElem?_cons_succ, Option.getD_some, List.setIfInBounds_toArray, List.set_cons_zero, List.set_cons_succ])
                | (refine wpT_assign rfl ?_; simp only [Act.eval, Act.put, Array.getD_eq_getD_getElem?, List.getElem?_toArray, List.getElem?_cons_zero, List.getElem?_cons_succ, Option.getD_some, List.setIfInBounds_toArray, List.set_cons_zero, List.set_cons_succ])
                | (refine wpT_read (v := ?_) rfl ?_ ?_; rotate_left; (focus (intro w' hG; skip; go_simp; try (with_reducible rfl))); simp only [Act.put, List.setIfInBounds_toArray, List.set_cons_zero, List.set_cons_succ])
                | (refine wpT_skip rfl ?_; simp only [Act.put, List.setIfInBounds_toArray, List.set_cons_zero, List.set_cons_succ]))
              have V7 := VarAt.new wr.drew [.int .i64 0, .int .i64 0, .int .i64 0] 46
              obtain ⟨⟨v0, v1, v2⟩, v3, v4, v5⟩ := V7.three
              have V8 : Hid (VarAt ((((wr.drew.alloc (.cells #[.int .i64 0, .int .i64 0, .int .i64 0] 46)).setCell ⟨wr.heap.size, 0, none⟩ (.int .i64 (1 + q1))).setCell ⟨wr.heap.size, 1, none⟩ (.int .i64 (at1 + bq1))).setCell ⟨wr.heap.size, 2, none⟩ (.int .i64 (1 + g1))) wr.heap.size [.int .i64 (1 + q1), .int .i64 (at1 + bq1), .int .i64 (1 + g1)] ∧ Grow wr ((((wr.drew.alloc (.cells #[.int .i64 0, .int .i64 0, .int .i64 0] 46)).setCell ⟨wr.heap.size, 0, none⟩ (.int .i64 (1 + q1))).setCell ⟨wr.heap.size, 1, none⟩ (.int .i64 (at1 + bq1))).setCell ⟨wr.heap.size, 2, none⟩ (.int .i64 (1 + g1)))) := ⟨V7.set3 _ _ _, UpdS.new (((Grow.refl wr).drew).alloc _) (upd_three _ wr.heap.size _ _ _) (fun i hi => by omega)⟩
              refine wpT_store (w' := (((wr.drew.alloc (.cells #[.int .i64 0, .int .i64 0, .int .i64 0] 46)).setCell ⟨wr.heap.size, 0, none⟩ (.int .i64 (1 + q1))).setCell ⟨wr.heap.size, 1, none⟩ (.int .i64 (at1 + bq1))).setCell ⟨wr.heap.size, 2, none⟩ (.int .i64 (1 + g1))) (by rfl) ?_ ?_ ?_
              · go_simp
              · exact (upd_three _ wr.heap.size _ _ _).mono (fun i hi => by rw [hi]; exact Nat.le_refl _)
              simp only [Act.put, List.setIfInBounds_toArray, List.set_cons_zero, List.set_cons_succ]
              generalize (((wr.drew.alloc (.cells #[.int .i64 0, .int .i64 0, .int .i64 0] 46)).setCell ⟨wr.heap.size, 0, none⟩ (.int .i64 (1 + q1))).setCell ⟨wr.heap.size, 1, none⟩ (.int .i64 (at1 + bq1))).setCell ⟨wr.heap.size, 2, none⟩ (.int .i64 (1 + g1)) = w8 at V8 ⊢
              refine wpT_done ?_
              go_wp2_with fail
              go_meet
              exact ⟨wr.heap.size, rfl, V8.out.1, V8.out.2, Nat.le_refl _⟩
            · skip
              refine wpT_act (by rfl) (exec_alloc #[.int .i64 0, .int .i64 0, .int .i64 0] zeroP) (Grow.s ((Grow.refl _).alloc _)) ?_
              simp only [Act.put, List.setIfInBounds_toArray, List.set_cons_zero, List.set_cons_succ]
              repeat (first
                | (refine wpT_move rfl ?_; simp only [Act.eval, Act.put, Array.getD_eq_getD_getElem?, List.getElem?_toArray, List.getElem?_cons_zero, List.getElem?_cons_succ, Option.getD_some, List.setIfInBounds_toArray, List.set_cons_zero, List.set_cons_succ])
                | (refine wpT_assign rfl ?_; simp only [Act.eval, Act.put, Array.getD_eq_getD_getElem?, List.getElem?_toArray, List.getElem?_cons_zero, List.getElem?_cons_succ, Option.getD_some, List.setIfInBounds_toArray, List.set_cons_zero, List.set_cons_succ])
                | (refine wpT_read (v := ?_) rfl ?_ ?_; rotate_left; (focus (intro w' hG; skip; go_simp; try (with_reducible rfl))); simp only [Act.put, List.setIfInBounds_toArray, List.set_cons_zero, List.set_cons_succ])
                | (refine wpT_skip rfl ?_; simp only [Act.put, List.setIfInBounds_toArray, List.set_cons_zero, List.set_cons_succ]))
              refine wpT_call (f := ?_) (args := ?_) (by rfl) ?_ ?_
              rotate_left 2; focus (go_simp; constructor <;> with_reducible rfl)
              refine (hg _).mono ?_
              rintro e w5 ⟨rfl, rfl⟩
              refine ⟨_, rfl, UpdS.refl _ _, ?_⟩
              simp only [Act.put, List.setIfInBounds_toArray, List.set_cons_zero, List.set_cons_succ]
              repeat (first
                | (refine wpT_move rfl ?_; simp only [Act.eval, Act.put, Array.getD_eq_getD_getElem?, List.getElem?_toArray, List.getElem?_cons_zero, List.getElem?_cons_succ, Option.getD_some, List.setIfInBounds_toArray, List.set_cons_zero, List.set_cons_succ])
                | (refine wpT_assign rfl ?_; simp only [Act.eval, Act.put, Array.getD_eq_getD_getElem?, List.getElem?_toArray, List.getElem?_cons_zero, List.getElem?_cons_succ, Option.getD_some, List.setIfInBounds_toArray, List.set_cons_zero, List.set_cons_succ])
                | (refine wpT_read (v := ?_) rfl ?_ ?_; rotate_left; (focus (intro w' hG; skip; go_simp; try (with_reducible rfl))); simp only [Act.put, List.setIfInBounds_toArray, List.set_cons_zero, List.set_cons_succ])
                | (refine wpT_skip rfl ?_; simp only [Act.put, List.setIfInBounds_toArray, List.set_cons_zero, List.set_cons_succ]))
              have V7 := VarAt.new wr.drew [.int .i64 0, .int .i64 0, .int .i64 0] 46
              obtain ⟨⟨v0, v1, v2⟩, v3, v4, v5⟩ := V7.three
              have V8 : Hid (VarAt ((((wr.drew.alloc (.cells #[.int .i64 0, .int .i64 0, .int .i64 0] 46)).setCell ⟨wr.heap.size, 0, none⟩ (.int .i64 (1 + q1))).setCell ⟨wr.heap.size, 1, none⟩ (.int .i64 (at1 + bq1))).setCell ⟨wr.heap.size, 2, none⟩ (.int .i64 (1 + g1))) wr.heap.size [.int .i64 (1 + q1), .int .i64 (at1 + bq1), .int .i64 (1 + g1)] ∧ Grow wr ((((wr.drew.alloc (.cells #[.int .i64 0, .int .i64 0, .int .i64 0] 46)).setCell ⟨wr.heap.size, 0, none⟩ (.int .i64 (1 + q1))).setCell ⟨wr.heap.size, 1, none⟩ (.int .i64 (at1 + bq1))).setCell ⟨wr.heap.size, 2, none⟩ (.int .i64 (1 + g1)))) := ⟨V7.set3 _ _ _, UpdS.new (((Grow.refl wr).drew).alloc _) (upd_three _ wr.heap.size _ _ _) (fun i hi => by omega)⟩
              refine wpT_store (w' := (((wr.drew.alloc (.cells #[.int .i64 0, .int .i64 0, .int .i64 0] 46)).setCell ⟨wr.heap.size, 0, none⟩ (.int .i64 (1 + q1))).setCell ⟨wr.heap.size, 1, none⟩ (.int .i64 (at1 + bq1))).setCell ⟨wr.heap.size, 2, none⟩ (.int .i64 (1 + g1))) (by rfl) ?_ ?_ ?_
              · go_simp
              · exact (upd_three _ wr.heap.size _ _ _).mono (fun i hi => by rw [hi]; exact Nat.le_refl _)
              simp only [Act.put, List.setIfInBounds_toArray, List.set_cons_zero, List.set_cons_succ]
              generalize (((wr.drew.alloc (.cells #[.int .i64 0, .int .i64 0, .int .i64 0] 46)).setCell ⟨wr.heap.size, 0, none⟩ (.int .i64 (1 + q1))).setCell ⟨wr.heap.size, 1, none⟩ (.int .i64 (at1 + bq1))).setCell ⟨wr.heap.size, 2, none⟩ (.int .i64 (1 + g1)) = w8 at V8 ⊢
              refine wpT_done ?_
              go_wp2_with fail
              go_meet
              exact ⟨wr.heap.size, rfl, V8.out.1, V8.out.2, Nat.le_refl _⟩
          · skip
            refine wpT_act (by rfl) (exec_alloc #[.int .i64 0, .int .i64 0, .int .i64 0] zeroP) (Grow.s ((Grow.refl _).alloc _)) ?_
            simp only [Act.put, List.setIfInBounds_toArray, List.set_cons_zero, List.set_cons_succ]
            repeat (first
              | (refine wpT_move rfl ?_; simp only [Act.eval, Act.put, Array.getD_eq_getD_getElem?, List.getElem?_toArray, List.getElem?_cons_zero, List.getElem?_cons_succ, Option.getD_some, List.setIfInBounds_toArray, List.set_cons_zero, List.set_cons_succ])
              | (refine wpT_assign rfl ?_; simp only [Act.eval, Act.put, Array.getD_eq_getD_getElem?, List.getElem?_toArray, List.getElem?_cons_zero, List.getElem?_cons_succ, Option.getD_some, List.setIfInBounds_toArray, List.set_cons_zero, List.set_cons_succ])
              | (refine wpT_read (v := ?_) rfl ?_ ?_; rotate_left; (focus (intro w' hG; skip; go_simp; try (with_reducible rfl))); simp only [Act.put, List.setIfInBounds_toArray, List.set_cons_zero, List.set_cons_succ])
              | (refine wpT_skip rfl ?_; simp only [Act.put, List.setIfInBounds_toArray, List.set_cons_zero, List.set_cons_succ]))
            refine wpT_call (f := ?_) (args := ?_) (by rfl) ?_ ?_
            rotate_left 2; focus (go_simp; constructor <;> with_reducible rfl)
            refine (hb _).mono ?_
            rintro e w5 ⟨rfl, rfl⟩
            refine ⟨_, rfl, UpdS.refl _ _, ?_⟩
            simp only [Act.put, List.setIfInBounds_toArray, List.set_cons_zero, List.set_cons_succ]
            repeat (first
              | (refine wpT_move rfl ?_; simp only [Act.eval, Act.put, Array.getD_eq_getD_getElem?, List.getElem?_toArray, List.getElem?_cons_zero, List.getElem?_cons_succ, Option.getD_some, List.setIfInBounds_toArray, List.set_cons_zero, List.set_cons_succ])
              | (refine wpT_assign rfl ?_; simp only [Act.eval, Act.put, Array.getD_eq_getD_getElem?, List.getElem?_toArray, List.getElem?_cons_zero, List.getElem?_cons_succ, Option.getD_some, List.setIfInBounds_toArray, List.set_cons_zero, List.set_cons_succ])
              | (refine wpT_read (v := ?_) rfl ?_ ?_; rotate_left; (focus (intro w' hG; skip; go_simp; try (with_reducible rfl))); simp only [Act.put, List.setIfInBounds_toArray, List.set_cons_zero, List.set_cons_succ])
              | (refine wpT_skip rfl ?_; simp only [Act.put, List.setIfInBounds_toArray, List.set_cons_zero, List.set_cons_succ]))
            refine wpT_call (f := ?_) (args := ?_) (by rfl) ?_ ?_
            rotate_left 2; focus (go_simp; constructor <;> with_reducible rfl)
            refine (hg _).mono ?_
            rintro e w5 ⟨rfl, rfl⟩
            refine ⟨_, rfl, UpdS.refl _ _, ?_⟩
            simp only [Act.put, List.setIfInBounds_toArray, List.set_cons_zero, List.set_cons_succ]
            repeat (first
              | (refine wpT_move rfl ?_; simp only [Act.eval, Act.put, Array.getD_eq_getD_getElem?, List.getElem?_toArray, List.getElem?_cons_zero, List.getElem?_cons_succ, Option.getD_some, List.setIfInBounds_toArray, List.set_cons_zero, List.set_cons_succ])
              | (refine wpT_assign rfl ?_; simp only [Act.eval, Act.put, Array.getD_eq_getD_getElem?, List.getElem?_toArray, List.getElem?_cons_zero, List.getElem?_cons_succ, Option.getD_some, List.setIfInBounds_toArray, List.set_cons_zero, List.set_cons_succ])
              | (refine wpT_read (v := ?_) rfl ?_ ?_; rotate_left; (focus (intro w' hG; skip; go_simp; try (with_reducible rfl))); simp only [Act.put, List.setIfInBounds_toArray, List.set_cons_zero, List.set_cons_succ])
              | (refine wpT_skip rfl ?_; simp only [Act.put, List.setIfInBounds_toArray, List.set_cons_zero, List.set_cons_succ]))
            have V7 := VarAt.new wr.drew [.int .i64 0, .int .i64 0, .int .i64 0] 46
            obtain ⟨⟨v0, v1, v2⟩, v3, v4, v5⟩ := V7.three
            have V8 : Hid (VarAt ((((wr.drew.alloc (.cells #[.int .i64 0, .int .i64 0, .int .i64 0] 46)).setCell ⟨wr.heap.size, 0, none⟩ (.int .i64 (1 + q1))).setCell ⟨wr.heap.size, 1, none⟩ (.int .i64 (at1 + bq1))).setCell ⟨wr.heap.size, 2, none⟩ (.int .i64 (1 + g1))) wr.heap.size [.int .i64 (1 + q1), .int .i64 (at1 + bq1), .int .i64 (1 + g1)] ∧ Grow wr ((((wr.drew.alloc (.cells #[.int .i64 0, .int .i64 0, .int .i64 0] 46)).setCell ⟨wr.heap.size, 0, none⟩ (.int .i64 (1 + q1))).setCell ⟨wr.heap.size, 1, none⟩ (.int .i64 (at1 + bq1))).setCell ⟨wr.heap.size, 2, none⟩ (.int .i64 (1 + g1)))) := ⟨V7.set3 _ _ _, UpdS.new (((Grow.refl wr).drew).alloc _) (upd_three _ wr.heap.size _ _ _) (fun i hi => by omega)⟩
            refine wpT_store (w' := (((wr.drew.alloc (.cells #[.int .i64 0, .int .i64 0, .int .i64 0] 46)).setCell ⟨wr.heap.size, 0, none⟩ (.int .i64 (1 + q1))).setCell ⟨wr.heap.size, 1, none⟩ (.int .i64 (at1 + bq1))).setCell ⟨wr.heap.size, 2, none⟩ (.int .i64 (1 + g1))) (by rfl) ?_ ?_ ?_
            · go_simp
            · exact (upd_three _ wr.heap.size _ _ _).mono (fun i hi => by rw [hi]; exact Nat.le_refl _)
            simp only [Act.put, List.setIfInBounds_toArray, List.set_cons_zero, List.set_cons_succ]
            generalize (((wr.drew.alloc (.cells #[.int .i64 0, .int .i64 0, .int .i64 0] 46)).setCell ⟨wr.heap.size, 0, none⟩ (.int .i64 (1 + q1))).setCell ⟨wr.heap.size, 1, none⟩ (.int .i64 (at1 + bq1))).setCell ⟨wr.heap.size, 2, none⟩ (.int .i64 (1 + g1)) = w8 at V8 ⊢
            refine wpT_done ?_
            go_wp2_with fail
            go_meet
            exact ⟨wr.heap.size, rfl, V8.out.1, V8.out.2, Nat.le_refl _⟩
        · skip
          refine wpT_act (by rfl) (exec_alloc #[.int .i64 0, .int .i64 0, .int .i64 0] zeroP) (Grow.s ((Grow.refl _).alloc _)) ?_
          simp only [Act.put, List.setIfInBounds_toArray, List.set_cons_zero, List.set_cons_succ]
          repeat (first
            | (refine wpT_move rfl ?_; simp only [Act.eval, Act.put, Array.getD_eq_getD_getElem?, List.getElem?_toArray, List.getElem?_cons_zero, List.getElem?_cons_succ, Option.getD_some, List.setIfInBounds_toArray, List.set_cons_zero, List.set_cons_succ])
            | (refine wpT_assign rfl ?_; simp only [Act.eval, Act.put, Array.getD_eq_getD_getElem?, List.getElem?_toArray, List.getElem?_cons_zero, List.getElem?_cons_succ, Option.getD_some, List.setIfInBounds_toArray, List.set_cons_zero, List.set_cons_succ])
            | (refine wpT_read (v := ?_) rfl ?_ ?_; rotate_left; (focus (intro w' hG; skip; go_simp; try (with_reducible rfl))); simp only [Act.put, List.setIfInBounds_toArray, List.set_cons_zero, List.set_cons_succ])
            | (refine wpT_skip rfl ?_; simp only [Act.put, List.setIfInBounds_toArray, List.set_cons_zero, List.set_cons_succ]))
          refine wpT_call (f := ?_) (args := ?_) (by rfl) ?_ ?_
          rotate_left 2; focus (go_simp; constructor <;> with_reducible rfl)
          refine (hq _).mono ?_
          rintro e w5 ⟨rfl, rfl⟩
          refine ⟨_, rfl, UpdS.refl _ _, ?_⟩
          simp only [Act.put, List.setIfInBounds_toArray, List.set_cons_zero, List.set_cons_succ]
          repeat (first
            | (refine wpT_move rfl ?_; simp only [Act.eval, Act.put, Array.getD_eq_getD_getElem?, List.getElem?_toArray, List.getElem?_cons_zero, List.getElem?_cons_succ, Option.getD_some, List.setIfInBounds_toArray, List.set_cons_zero, List.set_cons_succ])
            | (refine wpT_assign rfl ?_; simp only [Act.eval, Act.put, Array.getD_eq_getD_getElem?, List.getElem?_toArray, List.getElem?_cons_zero, List.getElem?_cons_succ, Option.getD_some, List.setIfInBounds_toArray, List.set_cons_zero, List.set_cons_succ])
            | (refine wpT_read (v := ?_) rfl ?_ ?_; rotate_left; (focus (intro w' hG; skip; go_simp; try (with_reducible rfl))); simp only [Act.put, List.setIfInBounds_toArray, List.set_cons_zero, List.set_cons_succ])
            | (refine wpT_skip rfl ?_; simp only [Act.put, List.setIfInBounds_toArray, List.set_cons_zero, List.set_cons_succ]))
          refine wpT_call (f := ?_) (args := ?_) (by rfl) ?_ ?_
          rotate_left 2; focus (go_simp; constructor <;> with_reducible rfl)
          refine (hb _).mono ?_
          rintro e w5 ⟨rfl, rfl⟩
          refine ⟨_, rfl, UpdS.refl _ _, ?_⟩
          simp only [Act.put, List.setIfInBounds_toArray, List.set_cons_zero, List.set_cons_succ]
          repeat (first
            | (refine wpT_move rfl ?_; simp only [Act.eval, Act.put, Array.getD_eq_getD_getElem?, List.getElem?_toArray, List.getElem?_cons_zero, List.getElem?_cons_succ, Option.getD_some, List.setIfInBounds_toArray, List.set_cons_zero, List.set_cons_succ])
            | (refine wpT_assign rfl ?_; simp only [Act.eval, Act.put, Array.getD_eq_getD_getElem?, List.getElem?_toArray, List.getElem?_cons_zero, List.getElem?_cons_succ, Option.getD_some, List.setIfInBounds_toArray, List.set_cons_zero, List.set_cons_succ])
            | (refine wpT_read (v := ?_) rfl ?_ ?_; rotate_left; (focus (intro w' hG; skip; go_simp; try (with_reducible rfl))); simp only [Act.put, List.setIfInBounds_toArray, List.set_cons_zero, List.set_cons_succ])
            | (refine wpT_skip rfl ?_; simp only [Act.put, List.setIfInBounds_toArray, List.set_cons_zero, List.set_cons_succ]))
          refine wpT_call (f := ?_) (args := ?_) (by rfl) ?_ ?_
          rotate_left 2; focus (go_simp; constructor <;> with_reducible rfl)
          refine (hg _).mono ?_
          rintro e w5 ⟨rfl, rfl⟩
          refine ⟨_, rfl, UpdS.refl _ _, ?_⟩
          simp only [Act.put, List.setIfInBounds_toArray, List.set_cons_zero, List.set_cons_succ]
          repeat (first
            | (refine wpT_move rfl ?_; simp only [Act.eval, Act.put, Array.getD_eq_getD_getElem?, List.getElem?_toArray, List.getElem?_cons_zero, List.getElem?_cons_succ, Option.getD_some, List.setIfInBounds_toArray, List.set_cons_zero, List.set_cons_succ])
            | (refine wpT_assign rfl ?_; simp only [Act.eval, Act.put, Array.getD_eq_getD_getElem?, List.getElem?_toArray, List.getElem?_cons_zero, List.getElem?_cons_succ, Option.getD_some, List.setIfInBounds_toArray, List.set_cons_zero, List.set_cons_succ])
            | (refine wpT_read (v := ?_) rfl ?_ ?_; rotate_left; (focus (intro w' hG; skip; go_simp; try (with_reducible rfl))); simp only [Act.put, List.setIfInBounds_toArray, List.set_cons_zero, List.set_cons_succ])
            | (refine wpT_skip rfl ?_; simp only [Act.put, List.setIfInBounds_toArray, List.set_cons_zero, List.set_cons_succ]))
          have V7 := VarAt.new wr.drew [.int .i64 0, .int .i64 0, .int .i64 0] 46
          obtain ⟨⟨v0, v1, v2⟩, v3, v4, v5⟩ := V7.three
          have V8 : Hid (VarAt ((((wr.drew.alloc (.cells #[.int .i64 0, .int .i64 0, .int .i64 0] 46)).setCell ⟨wr.heap.size, 0, none⟩ (.int .i64 (1 + q1))).setCell ⟨wr.heap.size, 1, none⟩ (.int .i64 (at1 + bq1))).setCell ⟨wr.heap.size, 2, none⟩ (.int .i64 (1 + g1))) wr.heap.size [.int .i64 (1 + q1), .int .i64 (at1 + bq1), .int .i64 (1 + g1)] ∧ Grow wr ((((wr.drew.alloc (.cells #[.int .i64 0, .int .i64 0, .int .i64 0] 46)).setCell ⟨wr.heap.size, 0, none⟩ (.int .i64 (1 + q1))).setCell ⟨wr.heap.size, 1, none⟩ (.int .i64 (at1 + bq1))).setCell ⟨wr.heap.size, 2, none⟩ (.int .i64 (1 + g1)))) := ⟨V7.set3 _ _ _, UpdS.new (((Grow.refl wr).drew).alloc _) (upd_three _ wr.heap.size _ _ _) (fun i hi => by omega)⟩
          refine wpT_store (w' := (((wr.drew.alloc (.cells #[.int .i64 0, .int .i64 0, .int .i64 0] 46)).setCell ⟨wr.heap.size, 0, none⟩ (.int .i64 (1 + q1))).setCell ⟨wr.heap.size, 1, none⟩ (.int .i64 (at1 + bq1))).setCell ⟨wr.heap.size, 2, none⟩ (.int .i64 (1 + g1))) (by rfl) ?_ ?_ ?_
          · go_simp
          · exact (upd_three _ wr.heap.size _ _ _).mono (fun i hi => by rw [hi]; exact Nat.le_refl _)
          simp only [Act.put, List.setIfInBounds_toArray, List.set_cons_zero, List.set_cons_succ]
          generalize (((wr.drew.alloc (.cells #[.int .i64 0, .int .i64 0, .int .i64 0] 46)).setCell ⟨wr.heap.size, 0, none⟩ (.int .i64 (1 + q1))).setCell ⟨wr.heap.size, 1, none⟩ (.int .i64 (at1 + bq1))).setCell ⟨wr.heap.size, 2, none⟩ (.int .i64 (1 + g1)) = w8 at V8 ⊢
          refine wpT_done ?_
          go_wp2_with fail
          go_meet
          exact ⟨wr.heap.size, rfl, V8.out.1, V8.out.2, Nat.le_refl _⟩
      case rest =>
        obtain ⟨b7, rfl, CC⟩ := hcut
        clear hq hb hg hwq hwb hwg HX
        have HB7 : Hid (b4 < wr.heap.size ∧ wr.heap.size ≤ b7 ∧ b7 < wc.heap.size) := ⟨X0.2.2.1.lt, CC.out.2.2, CC.out.1.lt⟩
        obtain ⟨a5, c5, rfl⟩ := X0.2.2.2.1.shape
        have hS0 := qsum_small qs X0.2.2.2.2.2.2.1
        have hql := X0.2.2.2.2.1
        have hwS : IntKind.i64.wrap (qsum qs + (1 + q1)) = qsum qs + (1 + q1) := by rw [IntKind.wrap_i64]; omega
        have HQ : Hid (qs.length = j) := hql
        have hq4 : qs.length ≤ 4 := by omega
        have Y1 : Hid (VarAt wc b1 [.int .i64 fr, .int .i64 dp, .int .i64 se, .slice a ps.length cp] ∧ VarAt wc b2 [.int .i64 (0 : Int), .int .i64 (0 : Int), .int .i64 (0 : Int), .slice none 0 0] ∧ VarAt wc b4 [.int .i64 (qsum qs), .int .i64 dp', .int .i64 (0 : Int), .slice a5 qs.length c5] ∧ OwnP (fun i => b4 < i ∧ i < wr.heap.size) wc (.slice a5 qs.length c5) qs ∧ RdP (fun i => i < b4) wc (.slice (some ⟨b3, 0, none⟩) 1 1) ls ∧ Grow w wc ∧ VarAt wc b7 [.int .i64 (1 + q1), .int .i64 (at1 + bq1), .int .i64 (1 + g1)]) :=
          ⟨X0.1.grow CC.out.2.1, X0.2.1.grow CC.out.2.1, X0.2.2.1.grow CC.out.2.1, OwnS.grow (OwnS.mono X0.2.2.2.1 (fun i h1 h2 => ⟨h2, h1⟩)) CC.out.2.1, RdS.grow X0.2.2.2.2.2.2.2.1 CC.out.2.1, X0.2.2.2.2.2.2.2.2.trans CC.out.2.1, CC.out.1⟩
        have Y2 : Hid (chain 0 qs at1 ∧ ∀ x ∈ qs, Small x) := ⟨X0.2.2.2.2.2.1, X0.2.2.2.2.2.2.1⟩
        clear X0 CC hql
        have Z1 : Hid (Grow wc (wc.alloc (.cells #[.int .i64 (1 + q1), .int .i64 (at1 + bq1), .int .i64 (1 + g1)] 46)) ∧ RdP (fun i => i = wc.heap.size) (wc.alloc (.cells #[.int .i64 (1 + q1), .int .i64 (at1 + bq1), .int .i64 (1 + g1)] 46)) (.slice (some ⟨wc.heap.size, 0, none⟩) 1 1) [(⟨1 + q1, at1 + bq1, 1 + g1⟩ : Pt)]) := ⟨(Grow.refl wc).alloc _, rdS_new (f := Pt.cs) (k := 3) wc 46 [(⟨1 + q1, at1 + bq1, 1 + g1⟩ : Pt)] Pt.cs_length (by simp only [List.length_singleton]; unfold maxLen; omega)⟩
        have hsrc := RdS.src (P := Try.prog) Z1.out.2 Pt.cs_length Pt.cs_one (tx := 22) Try.underlying22
        have hown := OwnS.grow Y1.out.2.2.2.1 Z1.out.1
        obtain ⟨⟨m0, m1, m2, m3⟩, -⟩ := Y1.out.2.2.1.four
        obtain ⟨⟨n0, n1, n2⟩, -⟩ := Y1.out.2.2.2.2.2.2.three
        go_wp2_with (at_builtin; (refine wpList_appS (f := Pt.cs) (k := 3) rfl (.tmp 55) (.tmp 57) 22 22 rfl Pt.cs_length (by omega) i0 (.agg #[.int .i64 0, .int .i64 0, .int .i64 0]) 24 Try.underlying22 hinf hz0 hz1 hz2 rfl rfl rfl hown hsrc (by simp only [maxLen, List.length_singleton]; omega) (by simp only [List.length_singleton]; omega) ?_))
        intro v6 w6 ho6 hu6
        have hsz6 := hu6.size
        rw [World.size_alloc] at hsz6
        have U6 : Hid (UpdS (fun i => b4 < i ∧ i < wr.heap.size) wc w6 ∧ wc.heap.size < w6.heap.size) := ⟨(Z1.out.1.s).trans hu6, by omega⟩
        have O6 : Hid (OwnP (fun i => b4 < i ∧ i ≠ b7) w6 v6 (qs ++ [(⟨1 + q1, at1 + bq1, 1 + g1⟩ : Pt)])) := OwnS.mono ho6 (fun i hi h => by
          have := HB7.out
          rcases h with h | h
          · omega
          · have h' : i = wc.heap.size + 1 := h
            omega)
        obtain ⟨a6, c6, hv6⟩ := ho6.shape
        rw [List.length_append, List.length_singleton] at hv6
        subst hv6
        clear ho6 hu6 hsz6 hsrc hown Z1 m0 m1 m2 m3 n0 n1 n2
        have Y3 : Hid (VarAt w6 b1 [.int .i64 fr, .int .i64 dp, .int .i64 se, .slice a ps.length cp] ∧ VarAt w6 b2 [.int .i64 (0 : Int), .int .i64 (0 : Int), .int .i64 (0 : Int), .slice none 0 0] ∧ VarAt w6 b4 [.int .i64 (qsum qs), .int .i64 dp', .int .i64 (0 : Int), .slice a5 qs.length c5] ∧ RdP (fun i => i < b4) w6 (.slice (some ⟨b3, 0, none⟩) 1 1) ls ∧ Grow w w6 ∧ VarAt w6 b7 [.int .i64 (1 + q1), .int .i64 (at1 + bq1), .int .i64 (1 + g1)]) := by
          have h7 := HB7.out
          have h4 := HB4.out
          exact ⟨Y1.out.1.upd U6.out.1 (by omega), Y1.out.2.1.upd U6.out.1 (by omega), Y1.out.2.2.1.upd U6.out.1 (by omega), RdS.upd Y1.out.2.2.2.2.1 U6.out.1 (fun i _ hi => by omega), UpdS.new Y1.out.2.2.2.2.2.1 U6.out.1 (fun i hi => by omega), Y1.out.2.2.2.2.2.2.upd U6.out.1 (by omega)⟩
        clear Y1 U6
        obtain ⟨⟨m0, m1, m2, m3⟩, f0, f1, f2, f3⟩ := Y3.out.2.2.1.four
        obtain ⟨⟨n0, n1, n2⟩, -⟩ := Y3.out.2.2.2.2.2.three
        have hne : (b7 == b4) = false := by have := HB7.out; simp; omega
        have hne2 : ¬ b4 = b7 := by have := HB7.out; omega
        have hne3 : ¬ b7 = b4 := by have := HB7.out; omega
        have hu8 := (upd_one w6 b4 3 (.slice a6 (qs.length + 1) c6)).trans (upd_one (w6.setCell ⟨b4, 3, none⟩ (.slice a6 (qs.length + 1) c6)) b4 0 (.int .i64 (qsum qs + (1 + q1))))
        have Y4 : Hid (VarAt ((w6.setCell ⟨b4, 3, none⟩ (.slice a6 (qs.length + 1) c6)).setCell ⟨b4, 0, none⟩ (.int .i64 (qsum qs + (1 + q1)))) b1 [.int .i64 fr, .int .i64 dp, .int .i64 se, .slice a ps.length cp] ∧ VarAt ((w6.setCell ⟨b4, 3, none⟩ (.slice a6 (qs.length + 1) c6)).setCell ⟨b4, 0, none⟩ (.int .i64 (qsum qs + (1 + q1)))) b2 [.int .i64 (0 : Int), .int .i64 (0 : Int), .int .i64 (0 : Int), .slice none 0 0] ∧ VarAt ((w6.setCell ⟨b4, 3, none⟩ (.slice a6 (qs.length + 1) c6)).setCell ⟨b4, 0, none⟩ (.int .i64 (qsum qs + (1 + q1)))) b4 [.int .i64 (qsum (qs ++ [(⟨1 + q1, at1 + bq1, 1 + g1⟩ : Pt)])), .int .i64 dp', .int .i64 (0 : Int), .slice a6 (qs.length + 1) c6] ∧ OwnP (fun i => b4 < i) ((w6.setCell ⟨b4, 3, none⟩ (.slice a6 (qs.length + 1) c6)).setCell ⟨b4, 0, none⟩ (.int .i64 (qsum qs + (1 + q1)))) (.slice a6 (qs.length + 1) c6) (qs ++ [(⟨1 + q1, at1 + bq1, 1 + g1⟩ : Pt)]) ∧ (qs ++ [(⟨1 + q1, at1 + bq1, 1 + g1⟩ : Pt)]).length = j + 1 ∧ chain 0 (qs ++ [(⟨1 + q1, at1 + bq1, 1 + g1⟩ : Pt)]) (at1 + bq1 + 2 * (1 + g1)) ∧ (∀ x ∈ qs ++ [(⟨1 + q1, at1 + bq1, 1 + g1⟩ : Pt)], Small x) ∧ RdP (fun i => i < b4) ((w6.setCell ⟨b4, 3, none⟩ (.slice a6 (qs.length + 1) c6)).setCell ⟨b4, 0, none⟩ (.int .i64 (qsum qs + (1 + q1)))) (.slice (some ⟨b3, 0, none⟩) 1 1) ls ∧ Grow w ((w6.setCell ⟨b4, 3, none⟩ (.slice a6 (qs.length + 1) c6)).setCell ⟨b4, 0, none⟩ (.int .i64 (qsum qs + (1 + q1))))) := by
          have h4 := HB4.out
          refine ⟨Y3.out.1.upd hu8 (by omega), Y3.out.2.1.upd hu8 (by omega), ?_, OwnS.upd (OwnS.mono O6.out (fun i _ h => h.1)) hu8 (fun i _ hi => by omega), by rw [List.length_append, HQ.out]; rfl, chain_snoc qs 0 at1 Y2.out.1 (by show at1 ≤ at1 + bq1; omega) (by show at1 + bq1 ≤ at1 + 2; omega), small_snoc Y2.out.2 ⟨by show 1 ≤ 1 + q1; omega, by show 1 + q1 ≤ 3; omega, by show 1 ≤ 1 + g1; omega, by show 1 + g1 ≤ 4; omega⟩, RdS.upd Y3.out.2.2.2.1 hu8 (fun i _ hi => by omega), UpdS.new Y3.out.2.2.2.2.1 hu8 (fun i hi => by omega)⟩
          rw [qsum_snoc]
          exact (Y3.out.2.2.1.set 3 _).set 0 _
        clear hu8
        have HA : Hid (0 ≤ at1 + bq1 + 2 * (1 + g1) ∧ at1 + bq1 + 2 * (1 + g1) ≤ 10 * ((j + 1 : Nat) : Int)) := ⟨by omega, by omega⟩
        go_wp2
        go_roundg (1 - (j + 1))
        case measure => have := HK.out; omega
        case rel => exact ⟨j + 1, at1 + bq1 + 2 * (1 + g1), rfl, HK.out.1, rfl, by go_num, HA.out.1, HA.out.2, _, _, Y4.out⟩
    · have hle : ¬ (j : Int) < 1 := by omega
      have hje : j = 1 := by omega
      have hwa : IntKind.i64.wrap (at1 + S3) = at1 + S3 := by have := HL0.out.2.2.1; rw [IntKind.wrap_i64]; omega
      obtain ⟨a5, c5, rfl⟩ := X0.2.2.2.1.shape
      have HG : Hid (GoodC (qsum qs) dp' (at1 + S3) qs) := by
        have h0 := HL0.out
        have hl := X0.2.2.2.2.1
        exact ⟨by omega, by omega, HD.out.1, HD.out.2, rfl, X0.2.2.2.2.2.2.1, at1, X0.2.2.2.2.2.1, by omega, by omega⟩
      have Y1 : Hid (VarAt wr b1 [.int .i64 fr, .int .i64 dp, .int .i64 se, .slice a ps.length cp] ∧ VarAt wr b2 [.int .i64 (0 : Int), .int .i64 (0 : Int), .int .i64 (0 : Int), .slice none 0 0] ∧ VarAt wr b4 [.int .i64 (qsum qs), .int .i64 dp', .int .i64 (0 : Int), .slice a5 qs.length c5] ∧ OwnP (fun i => b4 < i) wr (.slice a5 qs.length c5) qs ∧ Grow w wr) := ⟨X0.1, X0.2.1, X0.2.2.1, X0.2.2.2.1, X0.2.2.2.2.2.2.2.2⟩
      clear X0 hk hj hlt hje ha0 ha1
      obtain ⟨⟨k0, k1, k2, k3⟩, -⟩ := Y1.out.1.four
      go_wp2_with fail
      refine (har3 _).mono ?_
      rintro e w' ⟨rfl, rfl⟩
      obtain ⟨⟨m0, m1, m2, m3⟩, f0, f1, f2, f3⟩ := Y1.out.2.2.1.four
      obtain ⟨⟨n0, n1, n2, n3⟩, g0, g1, g2, g3⟩ := Y1.out.2.1.four
      have hne1 : ¬ b2 = b4 := by have := HB4.out; omega
      have hne2 : ¬ b4 = b2 := by have := HB4.out; omega
      go_wp2
      have hU := (upd_one wr b4 2 (.int .i64 (at1 + S3))).mono (S' := fun i => i = b4 ∨ i = b2) (fun i hi => .inl hi)
      have hU2 := hU.trans ((upd_four (wr.setCell ⟨b4, 2, none⟩ (.int .i64 (at1 + S3))) b2 (.int .i64 (qsum qs)) (.int .i64 dp') (.int .i64 (at1 + S3)) (.slice a5 qs.length c5)).mono (S' := fun i => i = b4 ∨ i = b2) (fun i hi => .inr hi))
      refine bodyPost_ret_by (results_cell rfl _ _ _ (.agg #[.int .i64 (qsum qs), .int .i64 dp', .int .i64 (at1 + S3), .slice a5 qs.length c5]) rfl (load_G b2 (qsum qs) dp' (at1 + S3) _ _ ((Y1.out.2.1.upd (upd_one wr b4 2 _) (by have := HB4.out; omega)).set4 _ _ _ _) rfl)) rfl ⟨_, _, _, _, qs, rfl, HG.out, ?_, UpdS.new Y1.out.2.2.2.2 hU2 (fun i hi => by have := HB4.out; omega)⟩
      exact RdS.mono (RdS.upd Y1.out.2.2.2.1.rd hU2 (fun i _ hi => by have := HB4.out; omega)) (fun i _ hi => by have := HB4.out; omega)

theorem good_any {p : Nat → Prop} (fr dp se : Int) (v : Value) (ps : List Pt) (w : World) (h : RdP p w v ps) (hok : ∀ x ∈ ps, x.Ok) (hdp : W64 dp) (hse : W64 se) :
    Calls Try.prog 8 #[.agg #[.int .i64 fr, .int .i64 dp, .int .i64 se, v]] w fun e w' => ∃ fr' dp' se' v' ps', e = .returned (.agg #[.int .i64 fr', .int .i64 dp', .int .i64 se', v']) ∧ GoodC fr' dp' se' ps' ∧ RdP (fun i => w.heap.size ≤ i) w' v' ps' ∧ Grow w w' := by
  by_cases hle : ps.length ≤ 4
  · by_cases h0 : ps.length = 0
    · exact good_zero fr dp se v ps w h hok hdp hse hle h0
    · exact good_mid fr dp se v ps w h hok hdp hse hle h0
  · exact good_big fr dp se v ps w h hok hdp hse hle
end Go.Proofs.Ytfjfbcgjocpmoaa
