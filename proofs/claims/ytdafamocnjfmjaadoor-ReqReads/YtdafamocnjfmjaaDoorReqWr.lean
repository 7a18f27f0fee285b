/-
  The walks of Write and of the document's Bytes. Conditions: each theorem's own.
-/
import Derived.Test.YtdafamocnjfmjaaDoorReqRd
import Derived.Test.YtdafamocnjfmjaaDoorReqGd
namespace Go.Proofs.YtdafamocnjfmjaaDoor
open Go.RowKit
set_option linter.unusedVariables false
set_option linter.unusedSimpArgs false

theorem six_cells (w : World) (t : TypeId) (s g o p f l : Int) (b : Nat) (hb : b = w.heap.size) : ∀ j : Nat, j < 6 → (w.alloc (.cells #[.int .i64 s, .int .i64 g, .int .i64 o, .int .i64 p, .int .i64 f, .int .i64 l] t)).cell? ⟨b, j, none⟩ = some (.int .i64 ([s, g, o, p, f, l].getD j 0)) := fun j hj => by
  subst hb
  refine (World.cell?_alloc_new w _ _ j).trans ?_
  rcases (show j = 0 ∨ j = 1 ∨ j = 2 ∨ j = 3 ∨ j = 4 ∨ j = 5 by omega) with rfl | rfl | rfl | rfl | rfl | rfl <;> rfl
theorem six_rd (w : World) (t : TypeId) (s g o p f l : Int) : Rd .i64 (w.alloc (.cells #[.int .i64 s, .int .i64 g, .int .i64 o, .int .i64 p, .int .i64 f, .int .i64 l] t)).heap.size (w.alloc (.cells #[.int .i64 s, .int .i64 g, .int .i64 o, .int .i64 p, .int .i64 f, .int .i64 l] t)) (.slice (some ⟨w.heap.size, 0, none⟩) 6 6) [s, g, o, p, f, l] :=
  ⟨_, 6, rfl, Nat.le_refl _, by decide, fun i hi => ⟨w.heap.size, 0, rfl, by simp, by rw [Nat.zero_add]; exact six_cells w t s g o p f l _ rfl i hi⟩⟩
theorem exec_six {w : World} {o : Oper} {a : Act} {x0 x1 x2 x3 x4 x5 : Operand} {q0 q1 q2 q3 q4 q5 : Int} (ho : o.op = .buildSlice 50 6 #[(0, x0), (1, x1), (2, x2), (3, x3), (4, x4), (5, x5)]) (h0 : a.eval x0 = .int .i64 q0) (h1 : a.eval x1 = .int .i64 q1) (h2 : a.eval x2 = .int .i64 q2) (h3 : a.eval x3 = .int .i64 q3) (h4 : a.eval x4 = .int .i64 q4) (h5 : a.eval x5 = .int .i64 q5) :
    (execOp a.eval o).run Tryd.prog w = .ok (.value (.slice (some ⟨w.heap.size, 0, none⟩) 6 6)) (w.alloc (.cells #[.int .i64 q0, .int .i64 q1, .int .i64 q2, .int .i64 q3, .int .i64 q4, .int .i64 q5] 3)) := by
  generalize a.eval = ev at h0 h1 h2 h3 h4 h5 ⊢
  simp only [execOp, ho, h0, h1, h2, h3, h4, h5, List.mapM_cons, Array.map, Array.toList]
  go_simp

/-- a request's bytes, with a capability -/
def rqB (s g o p f l : Int) (z : List Int) : List Int := leAll [s, g, o, p, f, l] ++ (le 8 z.length ++ z)
theorem rqB_length (s g o p f l : Int) (z : List Int) : (rqB s g o p f l z).length = 56 + z.length := by
  unfold rqB
  rw [List.length_append, List.length_append, leAll_length, le_length]
  simp only [List.length_cons, List.length_nil]
  omega

set_option maxRecDepth 8000 in
set_option maxHeartbeats 4000000 in
theorem write_any (w : World) (s g o p f l : Int) (a : Option Addr) (n c : Nat) (z : List Int) (B : Nat) (h : Rd .u8 B w (.slice a n c) z) (hl : z.length ≤ 100000) :
    Calls Tryd.prog 18 #[.agg #[.int .i64 s, .int .i64 g], .agg #[.int .i64 o, .int .i64 p, .int .i64 f, .int .i64 l, .slice a n c]] w fun e w' => ∃ v, e = .returned v ∧ Own .u8 w.heap.size w' v (rqB s g o p f l z) ∧ Grow w w' := by
  have HV : Hid (VarAt ((w.alloc (.cells #[.int .i64 s, .int .i64 g] 37)).alloc (.cells #[.int .i64 o, .int .i64 p, .int .i64 f, .int .i64 l, .slice a n c] 24)) w.heap.size [.int .i64 s, .int .i64 g] ∧ VarAt ((w.alloc (.cells #[.int .i64 s, .int .i64 g] 37)).alloc (.cells #[.int .i64 o, .int .i64 p, .int .i64 f, .int .i64 l, .slice a n c] 24)) (w.heap.size + 1) [.int .i64 o, .int .i64 p, .int .i64 f, .int .i64 l, .slice a n c] ∧ Grow w ((w.alloc (.cells #[.int .i64 s, .int .i64 g] 37)).alloc (.cells #[.int .i64 o, .int .i64 p, .int .i64 f, .int .i64 l, .slice a n c] 24)) ∧ Rd .u8 w.heap.size ((w.alloc (.cells #[.int .i64 s, .int .i64 g] 37)).alloc (.cells #[.int .i64 o, .int .i64 p, .int .i64 f, .int .i64 l, .slice a n c] 24)) (.slice a n c) z) := ⟨(VarAt.new w _ _).old _, VarAt.new2 w _ _ _, ((Grow.refl w).alloc _).alloc _, (Rd.size h).below (((Grow.refl w).alloc _).alloc _)⟩
  clear h
  go_enter Tryd.func18, Tryd.ntmps18
  go_wp2
  refine wp_region_sched (by kernel_rfl) [(0, false), (1, false), (2, false), (3, false), (4, false), (5, false), (6, false), (7, false), (8, false), (9, false), (10, false), (11, false), (14, false), (15, false), (12, true), (13, true), (16, true), (17, false)] (by kernel_rfl) (by kernel_rfl) rfl (fun _ _ d _ _ h => by cases d <;> exact h) ?_
  simp only [inOrder, List.filterMap_cons, List.filterMap_nil, List.getElem?_toArray, List.getElem?_cons_zero, List.getElem?_cons_succ, Option.map_some]
  repeat (first
    | (refine wpS_move rfl ?_; simp only [Act.eval, Act.put, Array.getD_eq_getD_getElem?, List.getElem?_toArray, List.getElem?_cons_zero, List.getElem?_cons_succ, Option.getD_some, List.setIfInBounds_toArray, List.set_cons_zero, List.set_cons_succ])
    | (refine wpS_assign rfl ?_; simp only [Act.eval, Act.put, Array.getD_eq_getD_getElem?, List.getElem?_toArray, List.getElem?_cons_zero, List.getElem?_cons_succ, Option.getD_some, List.setIfInBounds_toArray, List.set_cons_zero, List.set_cons_succ])
    | (refine wpS_read (v := ?_) rfl ?_ ?_; rotate_left; (focus (intro w' hG; obtain ⟨c0, c1⟩ := late2 HV.out.1 (by first | exact .inl hG | exact .inr hG); obtain ⟨e0, e1, e2, e3, e4⟩ := late5 HV.out.2.1 (by first | exact .inl hG | exact .inr hG); go_simp; try (with_reducible rfl))); simp only [Act.put, List.setIfInBounds_toArray, List.set_cons_zero, List.set_cons_succ])
    | (refine wpS_skip rfl ?_; simp only [Act.put, List.setIfInBounds_toArray, List.set_cons_zero, List.set_cons_succ]))
  refine wpS_act (by rfl) (exec_six (q0 := s) (q1 := g) (q2 := o) (q3 := p) (q4 := f) (q5 := l) rfl rfl rfl rfl rfl rfl rfl) ((Grow.refl _).alloc _) ?_
  simp only [Act.put, List.setIfInBounds_toArray, List.set_cons_zero, List.set_cons_succ]
  have h6 := six_rd (((w.alloc (.cells #[.int .i64 s, .int .i64 g] 37)).alloc (.cells #[.int .i64 o, .int .i64 p, .int .i64 f, .int .i64 l, .slice a n c] 24)).drew) 3 s g o p f l
  have g6 : Grow w (((w.alloc (.cells #[.int .i64 s, .int .i64 g] 37)).alloc (.cells #[.int .i64 o, .int .i64 p, .int .i64 f, .int .i64 l, .slice a n c] 24)).drew.alloc (.cells #[.int .i64 s, .int .i64 g, .int .i64 o, .int .i64 p, .int .i64 f, .int .i64 l] 3)) := HV.out.2.2.1.trans ((Grow.refl _).drew.alloc _)
  have HD : Hid (Rd .u8 w.heap.size (((w.alloc (.cells #[.int .i64 s, .int .i64 g] 37)).alloc (.cells #[.int .i64 o, .int .i64 p, .int .i64 f, .int .i64 l, .slice a n c] 24)).drew.alloc (.cells #[.int .i64 s, .int .i64 g, .int .i64 o, .int .i64 p, .int .i64 f, .int .i64 l] 3)) (.slice a n c) z) := HV.out.2.2.2.below (((Grow.refl _).drew.alloc _).below HV.out.2.2.1.size)
  have h0 := Rd.nil .u8 0 (((w.alloc (.cells #[.int .i64 s, .int .i64 g] 37)).alloc (.cells #[.int .i64 o, .int .i64 p, .int .i64 f, .int .i64 l, .slice a n c] 24)).drew.alloc (.cells #[.int .i64 s, .int .i64 g, .int .i64 o, .int .i64 p, .int .i64 f, .int .i64 l] 3)) none 0 (Nat.zero_le _)
  clear HV
  generalize hW : (((w.alloc (.cells #[.int .i64 s, .int .i64 g] 37)).alloc (.cells #[.int .i64 o, .int .i64 p, .int .i64 f, .int .i64 l, .slice a n c] 24)).drew.alloc (.cells #[.int .i64 s, .int .i64 g, .int .i64 o, .int .i64 p, .int .i64 f, .int .i64 l] 3)) = W at *
  clear hW
  generalize (World.heap ((w.alloc (.cells #[.int .i64 s, .int .i64 g] 37)).alloc (.cells #[.int .i64 o, .int .i64 p, .int .i64 f, .int .i64 l, .slice a n c] 24)).drew).size = b6 at *
  refine wpS_call (f := ?_) (args := ?_) (by rfl) ?_ ?_
  rotate_left 2; focus (go_simp; constructor <;> with_reducible rfl)
  refine (ints_any _ _ [] [s, g, o, p, f, l] _ _ W h0 h6 (by simp) (by simp)).mono ?_
  rintro e w1 ⟨v1, rfl, ho1, hb1⟩
  refine ⟨_, rfl, hb1, ?_⟩
  simp only [Act.put, List.setIfInBounds_toArray, List.set_cons_zero, List.set_cons_succ]
  refine wpS_call (f := ?_) (args := ?_) (by rfl) ?_ ?_
  rotate_left 2; focus (go_simp; constructor <;> with_reducible rfl)
  refine (bytes_any v1 _ _ z _ _ w1 ho1.rd (HD.out.below (Below.mono hb1 g6.size)) (by simp [leAll_length]) (by omega)).mono ?_
  rintro e w2 ⟨v2, rfl, ho2, hb2⟩
  refine ⟨_, rfl, hb2, ?_⟩
  simp only [Act.put, List.setIfInBounds_toArray, List.set_cons_zero, List.set_cons_succ]
  have gf : Grow w w2 := (g6.trans hb1).trans hb2
  have HF : Hid (Own .u8 w.heap.size w2 v2 (rqB s g o p f l z)) := by
    have h := ho2.base (Nat.le_trans g6.size hb1.size)
    rw [List.nil_append, List.append_assoc] at h
    exact h
  clear ho1 ho2 hb1 hb2 h6 h0 HD g6
  repeat (first
    | (refine wpS_move rfl ?_; simp only [Act.eval, Act.put, Array.getD_eq_getD_getElem?, List.getElem?_toArray, List.getElem?_cons_zero, List.getElem?_cons_succ, Option.getD_some, List.setIfInBounds_toArray, List.set_cons_zero, List.set_cons_succ])
    | (refine wpS_assign rfl ?_; simp only [Act.eval, Act.put, Array.getD_eq_getD_getElem?, List.getElem?_toArray, List.getElem?_cons_zero, List.getElem?_cons_succ, Option.getD_some, List.setIfInBounds_toArray, List.set_cons_zero, List.set_cons_succ])
    | (refine wpS_read (v := ?_) rfl ?_ ?_; rotate_left; (focus (intro w' hG; go_simp; try (with_reducible rfl))); simp only [Act.put, List.setIfInBounds_toArray, List.set_cons_zero, List.set_cons_succ])
    | (refine wpS_skip rfl ?_; simp only [Act.put, List.setIfInBounds_toArray, List.set_cons_zero, List.set_cons_succ]))
  refine wpS_nil ?_
  go_wp2
  go_ret
  exact ⟨_, rfl, HF.out, gf⟩

set_option maxRecDepth 8000 in
set_option maxHeartbeats 4000000 in
theorem rreq_any (w : World) (s g o p f l : Int) (a : Option Addr) (n c : Nat) (z : List Int) (B : Nat) (h : Rd .u8 B w (.slice a n c) z) (hl : z.length ≤ 100000) :
    Calls Tryd.prog 20 #[.agg #[.int .i64 s, .int .i64 g], .agg #[.int .i64 o, .int .i64 p, .int .i64 f, .int .i64 l, .slice a n c]] w fun e w' => ∃ v, e = .returned v ∧ Own .u8 w.heap.size w' v (rqB s g o p f l z) ∧ Grow w w' := by
  obtain ⟨i0, hi, hz0, hz1, hz2⟩ := info_parts Tryd.info5
  have HV : Hid (VarAt (((w.alloc (.cells #[.int .i64 s, .int .i64 g] 37)).alloc (.cells #[.int .i64 o, .int .i64 p, .int .i64 f, .int .i64 l, .slice a n c] 24)).alloc (.cells #[.int .i64 s, .int .i64 g, .int .i64 o, .int .i64 p, .int .i64 f, .int .i64 l] 3)) (w.heap.size + 1) [.int .i64 o, .int .i64 p, .int .i64 f, .int .i64 l, .slice a n c] ∧ (∀ j : Nat, j < 6 → (((w.alloc (.cells #[.int .i64 s, .int .i64 g] 37)).alloc (.cells #[.int .i64 o, .int .i64 p, .int .i64 f, .int .i64 l, .slice a n c] 24)).alloc (.cells #[.int .i64 s, .int .i64 g, .int .i64 o, .int .i64 p, .int .i64 f, .int .i64 l] 3)).cell? ⟨w.heap.size + 2, j, none⟩ = some (.int .i64 ([s, g, o, p, f, l].getD j 0))) ∧ Grow w (((w.alloc (.cells #[.int .i64 s, .int .i64 g] 37)).alloc (.cells #[.int .i64 o, .int .i64 p, .int .i64 f, .int .i64 l, .slice a n c] 24)).alloc (.cells #[.int .i64 s, .int .i64 g, .int .i64 o, .int .i64 p, .int .i64 f, .int .i64 l] 3))) := ⟨(VarAt.new2 w _ _ _).old _, six_cells _ _ s g o p f l _ (by simp), (((Grow.refl w).alloc _).alloc _).alloc _⟩
  have HR : Hid (Rd .u8 w.heap.size w (.slice a n c) z) := Rd.size h
  have HQ : Hid (rqB s g o p f l z = leAll (([s, g, o, p, f, l] : List Int).take 6) ++ (leI z.length ++ z)) := by
    show rqB s g o p f l z = _
    rw [leI_small _ (by omega) (by omega)]; rfl
  clear h
  generalize hls : ([s, g, o, p, f, l] : List Int) = ls at HV HQ
  have hln : ls.length = 6 := by rw [← hls]; rfl
  have HT : Hid (∀ j, j < 6 → leAll (ls.take (j + 1)) = leAll (ls.take j) ++ leI (ls.getD j 0)) := fun j hj => leAll_take_succ ls j (by omega)
  have HLN : Hid (∀ j, j ≤ 6 → (leAll (ls.take j)).length ≤ 48) := fun j hj => by rw [leAll_length, List.length_take]; omega
  clear hln hls
  go_enter Tryd.func20, Tryd.ntmps20
  go_wp2
  go_loopg [6, 7] 6 (fun k d ix wr => ∃ j : Nat, k = 6 - j ∧ j ≤ 6 ∧ ix = .int .i64 j ∧ Hid (Own .u8 (w.heap.size + 3) wr d (leAll (ls.take j)) ∧ VarAt wr (w.heap.size + 1) [.int .i64 o, .int .i64 p, .int .i64 f, .int .i64 l, .slice a n c] ∧ (∀ j : Nat, j < 6 → wr.cell? ⟨w.heap.size + 2, j, none⟩ = some (.int .i64 (ls.getD j 0))) ∧ Grow w wr ∧ w.heap.size + 3 ≤ wr.heap.size))
  case atStart => exact ⟨0, rfl, Nat.zero_le _, rfl, Own.nil _ _ _ _, HV.out.1, HV.out.2.1, HV.out.2.2, by simp⟩
  case round =>
    obtain ⟨j, hk, hj, rfl, HJ⟩ := hrel
    clear HV
    by_cases hlt : j < 6
    · have hlt' : (j : Int) < 6 := by omega
      have cj := HJ.out.2.2.1 j hlt
      have HK : Hid (j < 6 ∧ gk = 6 - j ∧ leAll (ls.take (j + 1)) = leAll (ls.take j) ++ leI (ls.getD j 0)) := ⟨hlt, hk, HT.out j hlt⟩
      have hll := HLN.out j hj
      clear hk hlt
      generalize ls.getD j 0 = x at cj HK
      go_wp2_with fail
      refine (rInt_any x _).mono ?_
      rintro e w1 ⟨v1, rfl, ho1, hb1⟩
      have hO := HJ.out.1.below hb1 (Nat.le_refl _)
      have hsrc := ho1.rd.src (P := Tryd.prog) Tryd.underlying22
      have hBz : w.heap.size + 3 ≤ w1.heap.size := Nat.le_trans HJ.out.2.2.2.2 hb1.size
      have hl8 := leI_length x
      have H1 : Hid (Grow wr w1) := hb1
      clear ho1 hb1 cj
      go_wp2_with (at_builtin; refine wpList_app rfl (.tmp 25) (.tmp 30) 22 22 rfl i0 (.int .u8 0) 1 Tryd.underlying22 hi hz0 hz1 hz2 rfl rfl rfl hO hsrc (by simp only [maxLen]; omega) (by omega) hBz ?_)
      intro v3 w3 ho3 hb3
      have g3 : UpdS (fun i => w.heap.size + 3 ≤ i) wr w3 := H1.out.s.trans (below_s hb3)
      have H3 : Hid (Own .u8 (w.heap.size + 3) w3 v3 (leAll (ls.take (j + 1))) ∧ VarAt w3 (w.heap.size + 1) [.int .i64 o, .int .i64 p, .int .i64 f, .int .i64 l, .slice a n c] ∧ (∀ j : Nat, j < 6 → w3.cell? ⟨w.heap.size + 2, j, none⟩ = some (.int .i64 (ls.getD j 0))) ∧ Grow w w3 ∧ w.heap.size + 3 ≤ w3.heap.size) :=
        ⟨by rw [HK.out.2.2]; exact ho3, HJ.out.2.1.upd g3 (by omega), fun m hm => by rw [g3.cell (p := ⟨w.heap.size + 2, m, none⟩) (World.block_lt_of_cell? _ _ (HJ.out.2.2.1 m hm)) (by show ¬ w.heap.size + 3 ≤ w.heap.size + 2; omega)]; exact HJ.out.2.2.1 m hm, UpdS.new HJ.out.2.2.2.1 g3 (fun i hi => by omega), Nat.le_trans hBz hb3.size⟩
      clear ho3 hb3 g3 hO hBz hsrc hl8 hll H1 HJ
      go_wp2
      go_roundg (6 - (j + 1))
      case measure => have := HK.out; omega
      case rel => exact ⟨j + 1, rfl, HK.out.1, by go_num, H3⟩
    · obtain rfl : j = 6 := by omega
      obtain ⟨c0, c1, c2, c3, c4⟩ := late5 HJ.out.2.1 (.inl (Grow.refl _))
      have hby := rBytes_any (.slice a n c) z _ wr (HR.out.below HJ.out.2.2.2.1) (by omega)
      have hll := HLN.out 6 (Nat.le_refl _)
      clear hlt hj hk
      go_wp2_with fail
      refine hby.mono ?_
      rintro e w1 ⟨v1, rfl, ho1, hb1⟩
      have hO := HJ.out.1.below hb1 (Nat.le_refl _)
      have hsrc := ho1.rd.src (P := Tryd.prog) Tryd.underlying22
      have hBz : w.heap.size + 3 ≤ w1.heap.size := Nat.le_trans HJ.out.2.2.2.2 hb1.size
      have hl8 : (leI z.length ++ z).length = 8 + z.length := by rw [List.length_append, leI_length]
      have H1 : Hid (Grow w w1) := HJ.out.2.2.2.1.trans hb1
      clear hby ho1 hb1 c0 c1 c2 c3 c4
      go_wp2_with (at_builtin; refine wpList_app rfl (.tmp 32) (.tmp 35) 22 22 rfl i0 (.int .u8 0) 1 Tryd.underlying22 hi hz0 hz1 hz2 rfl rfl rfl hO hsrc (by simp only [maxLen]; omega) (by omega) hBz ?_)
      intro v3 w3 ho3 hb3
      have HF : Hid (Own .u8 w.heap.size w3 v3 (rqB s g o p f l z) ∧ Grow w w3) := ⟨by rw [HQ.out]; exact ho3.base (by omega), UpdS.new H1.out (below_s hb3) (fun i hi => by omega)⟩
      clear ho3 hb3 hO hsrc hBz hl8 hll H1 HJ
      go_wp2
      go_ret
      exact ⟨_, rfl, HF.out.1, HF.out.2⟩
end Go.Proofs.YtdafamocnjfmjaaDoor
