/-
  The document's side: Mint over a table, and the walk of Revoke. Conditions: each theorem's own.
-/
import Derived.Test.YtoobohbghobfhaaCapI
import Derived.Test.YtoobohbghobfhaaEnds
namespace Go.Proofs.Ytoobohbghobfhaa
open Go.RowKit
set_option linter.unusedVariables false
set_option linter.unusedSimpArgs false

theorem rmint_any {p : Nat → Prop} (k n : Int) (v : Value) (S : List Sl) (c : Cp) (s : Int) (w : World) (h : RdL p w v (allS S)) (hO : TbOk S k n) :
    Calls Try.prog 20 #[.agg #[.int .i64 k, .int .i64 n, v], .agg #[.int .i64 c.s, .int .i64 c.g], .int .i64 s] w fun e w' => ∃ v', e = .returned (.tuple #[.agg #[.int .i64 k, .int .i64 (numM S n c s), v'], .agg #[.int .i64 (capM S k n c s).s, .int .i64 (capM S k n c s).g], .int .i64 (errM S n c s)]) ∧ RdL (fun i => p i ∨ w.heap.size ≤ i) w' v' (allS (setM S k n c s)) ∧ Grow w w' := by
  have hr := allS_rlt hO
  have err : ∀ E, errM S n c s = E → E ≠ 0 → (Calls Try.prog 20 #[.agg #[.int .i64 k, .int .i64 n, v], .agg #[.int .i64 c.s, .int .i64 c.g], .int .i64 s] w fun e w' => e = .returned (.tuple #[.agg #[.int .i64 k, .int .i64 n, v], .agg #[.int .i64 0, .int .i64 0], .int .i64 E]) ∧ Grow w w') → Calls Try.prog 20 #[.agg #[.int .i64 k, .int .i64 n, v], .agg #[.int .i64 c.s, .int .i64 c.g], .int .i64 s] w fun e w' => ∃ v', e = .returned (.tuple #[.agg #[.int .i64 k, .int .i64 (numM S n c s), v'], .agg #[.int .i64 (capM S k n c s).s, .int .i64 (capM S k n c s).g], .int .i64 (errM S n c s)]) ∧ RdL (fun i => p i ∨ w.heap.size ≤ i) w' v' (allS (setM S k n c s)) ∧ Grow w w' := by
    intro E he h0 hc
    unfold capM setM numM
    rw [he, if_neg h0, if_neg h0, if_neg h0]
    exact hc.mono fun e w' ⟨h1, h2⟩ => ⟨v, h1, RdS.mono (h.grow h2) (fun i _ hi => .inl hi), h2⟩
  by_cases h1 : chkS S c 8 = 0
  · have h1' : chkL (allS S) c 8 = 0 := by rw [hO.check]; exact h1
    by_cases h2 : 0 ≤ s ∧ s ≤ 15
    · obtain ⟨r, hsr⟩ := Int.eq_ofNat_of_zero_le h2.1
      have hr16 : r < 16 := by omega
      have ht : s.toNat = r := by omega
      by_cases h3 : chkS S c r = 0
      · have h3' : chkL (allS S) c r = 0 := by rw [hO.check]; exact h3
        by_cases h4 : n = 1048576 ∨ ¬ roomN S < 8
        · exact err 13 (errM_4 h1 h2 (by rw [ht]; exact h3) h4) (by omega) (rmint_4 k n v (allS S) c s w h hr r h1' hr16 hsr h3' (by rw [hO.free]; have := hO.n2; omega))
        · have e0 := errM_5 h1 h2 (by rw [ht]; exact h3) h4
          unfold capM setM numM
          rw [e0, if_pos rfl, if_pos rfl, if_pos rfl, ht]
          have hn2 := hO.n2
          have hk1 := hO.k1
          have hn1 := hO.n1
          have hg : goodB S c = true := by
            cases e : goodB S c
            · rw [chkS_bad 8 e] at h1; cases h1
            · rfl
          have hlen : (allS S).length ≤ 8 := by have := allS_len S; rw [hO.len] at this; exact this
          have hpos : 0 < (allS S).length := by
            rcases hO.find c with ⟨_, x, _⟩ | ⟨x, _⟩
            · omega
            · rw [hg] at x; cases x
          have hfl : freeL (allS S) ≤ (allS S).length := by
            have := freeF_le (allS S) 0
            unfold freeL; omega
          have hne : ¬ (k * 1048576 + n = 0) := by omega
          have hput := allS_put (S := S) (y := ⟨roomN S, k * 1048576 + n, r⟩) (by rw [hO.len]; omega) (by unfold Sl.emp; rw [decide_eq_false hne, Bool.and_false])
          have := rmint_5 k n v (allS S) c s w h hr r h1' hr16 hsr h3' hlen hpos hfl (by rw [hO.free]; omega) hk1 hO.k2 hn1 (by omega)
          rw [hO.free] at this
          rw [hput]
          exact this.mono fun e w' ⟨v', h1, h2, h3⟩ => ⟨v', h1, RdS.mono h2 (fun i _ hi => .inr hi), h3⟩
      · exact err _ (errM_3 h1 h2 (by rw [ht]; exact h3)) (by rw [ht]; exact h3) (by rw [ht]; exact rmint_3 k n v (allS S) c s w h hr _ r h1' hr16 hsr (hO.check c r) h3)
    · exact err 1 (errM_2 h1 h2) (by omega) (rmint_2 k n v (allS S) c s w h hr h1' h2)
  · exact err _ (errM_1 h1) h1 (rmint_1 k n v (allS S) c s w h hr _ (hO.check c 8) h1)

/-- behind the document's Revoke's beginning -/
def RdAt (w wr : World) (b1 b2 b3 b4 : Nat) (k n : Int) (v : Value) (c d : Cp) : Prop :=
  VarAt wr b1 [.int .i64 k, .int .i64 n, v] ∧ VarAt wr b2 [.int .i64 c.s, .int .i64 c.g] ∧ VarAt wr b3 [.int .i64 d.s, .int .i64 d.g] ∧ VarAt wr b4 [.int .i64 0, .int .i64 0, .slice none 0 0] ∧ Grow w wr ∧ b1 = w.heap.size ∧ b2 = w.heap.size + 1 ∧ b3 = w.heap.size + 2 ∧ b4 = w.heap.size + 3
theorem RdAt.grow {w wr w2 : World} {b1 b2 b3 b4 : Nat} {k n : Int} {v : Value} {c d : Cp} (h : RdAt w wr b1 b2 b3 b4 k n v c d) (g : Grow wr w2) : RdAt w w2 b1 b2 b3 b4 k n v c d :=
  ⟨h.1.grow g, h.2.1.grow g, h.2.2.1.grow g, h.2.2.2.1.grow g, h.2.2.2.2.1.trans g, h.2.2.2.2.2⟩
theorem RdAt.upd {w wr w2 : World} {b1 b2 b3 b4 : Nat} {k n : Int} {v : Value} {c d : Cp} {S : Nat → Prop} (h : RdAt w wr b1 b2 b3 b4 k n v c d) (g : UpdS S wr w2) (h1 : ∀ i, S i → w.heap.size + 4 ≤ i) : RdAt w w2 b1 b2 b3 b4 k n v c d := by
  obtain ⟨a1, a2, a3, a4, a5, e1, e2, e3, e4⟩ := h
  exact ⟨a1.upd g (fun x => by have := h1 _ x; omega), a2.upd g (fun x => by have := h1 _ x; omega), a3.upd g (fun x => by have := h1 _ x; omega), a4.upd g (fun x => by have := h1 _ x; omega), UpdS.new a5 g (fun i hi => by have := h1 _ hi; omega), e1, e2, e3, e4⟩
theorem RdAt.start (w : World) (k n : Int) (v : Value) (c d : Cp) : RdAt w ((((w.alloc (.cells #[.int .i64 k, .int .i64 n, v] 30)).alloc (.cells #[.int .i64 c.s, .int .i64 c.g] 33)).alloc (.cells #[.int .i64 d.s, .int .i64 d.g] 33)).alloc (.cells #[.int .i64 0, .int .i64 0, .slice none 0 0] 30)) w.heap.size (w.heap.size + 1) (w.heap.size + 2) (w.heap.size + 3) k n v c d := by
  refine ⟨(((VarAt.new w [.int .i64 k, .int .i64 n, v] _).old _).old _).old _, ((VarAt.new2 w _ [.int .i64 c.s, .int .i64 c.g] _).old _).old _, (VarAt.new3 w _ _ [.int .i64 d.s, .int .i64 d.g] _).old _, ?_, ((((Grow.refl w).alloc _).alloc _).alloc _).alloc _, rfl, rfl, rfl, rfl⟩
  have := VarAt.new3 (w.alloc (.cells #[.int .i64 k, .int .i64 n, v] 30)) (.cells #[.int .i64 c.s, .int .i64 c.g] 33) (.cells #[.int .i64 d.s, .int .i64 d.g] 33) [.int .i64 0, .int .i64 0, .slice none 0 0] 30
  rw [World.size_alloc] at this
  exact this
theorem RdAt.fin {w wr : World} {b1 b2 b3 b4 : Nat} {k n : Int} {v : Value} {c d : Cp} (h : RdAt w wr b1 b2 b3 b4 k n v c d) (k' n' : Int) (v' : Value) :
    VarAt (((wr.setCell ⟨b4, 0, none⟩ (.int .i64 k')).setCell ⟨b4, 1, none⟩ (.int .i64 n')).setCell ⟨b4, 2, none⟩ v') b4 [.int .i64 k', .int .i64 n', v'] ∧ Grow w (((wr.setCell ⟨b4, 0, none⟩ (.int .i64 k')).setCell ⟨b4, 1, none⟩ (.int .i64 n')).setCell ⟨b4, 2, none⟩ v') ∧ UpdS (fun i => i = b4) wr (((wr.setCell ⟨b4, 0, none⟩ (.int .i64 k')).setCell ⟨b4, 1, none⟩ (.int .i64 n')).setCell ⟨b4, 2, none⟩ v') := by
  obtain ⟨a1, a2, a3, a4, a5, e1, e2, e3, e4⟩ := h
  have u1 := upd_three' wr b4 (.int .i64 k') (.int .i64 n') v'
  exact ⟨a4.set3' _ _ _, UpdS.new a5 u1 (fun i hi => by omega), u1⟩

set_option maxHeartbeats 8000000 in
theorem rrevoke_1 {p : Nat → Prop} (k n : Int) (v : Value) (L : List Sl) (c d : Cp) (w : World) (h : RdL p w v L) (hr : ∀ x ∈ L, x.r < 16) (E : Int) (hE : chkL L c 8 = E) (h1 : E ≠ 0) :
    Calls Try.prog 14 #[.agg #[.int .i64 k, .int .i64 n, v], .agg #[.int .i64 c.s, .int .i64 c.g], .agg #[.int .i64 d.s, .int .i64 d.g]] w fun e w' => e = .returned (.tuple #[.agg #[.int .i64 k, .int .i64 n, v], .int .i64 E]) ∧ Grow w w' := by
  have HR := hid h
  have hll := RdS.len h
  unfold maxLen at hll
  obtain ⟨a, cc, rfl⟩ := RdS.shape h
  obtain ⟨W0, hW0⟩ : ∃ W0, W0 = ((((w.alloc (.cells #[.int .i64 k, .int .i64 n, .slice a L.length cc] 30)).alloc (.cells #[.int .i64 c.s, .int .i64 c.g] 33)).alloc (.cells #[.int .i64 d.s, .int .i64 d.g] 33)).alloc (.cells #[.int .i64 0, .int .i64 0, .slice none 0 0] 30)) := ⟨_, rfl⟩
  have HX := hid (RdAt.start w k n (.slice a L.length cc) c d)
  rw [← hW0] at HX
  have k1 := rcheck_any k n (.slice a L.length cc) L c 8 W0 (HR.out.grow HX.out.2.2.2.2.1) hr (by omega)
  have HK2 := hid (fun u (hu : Grow w u) => rfind_any k n (.slice a L.length cc) L d u (HR.out.grow hu))
  obtain ⟨b4, hb4⟩ : ∃ b4, b4 = w.heap.size + 3 := ⟨_, rfl⟩
  obtain ⟨b3, hb3⟩ : ∃ b3, b3 = w.heap.size + 2 := ⟨_, rfl⟩
  obtain ⟨b2, hb2⟩ : ∃ b2, b2 = w.heap.size + 1 := ⟨_, rfl⟩
  obtain ⟨b1, hb1⟩ : ∃ b1, b1 = w.heap.size := ⟨_, rfl⟩
  rw [← hb4, ← hb3, ← hb2, ← hb1] at HX
  rw [hE] at k1
  have e1 := bneT h1
  clear HK2 hE h1 h hr
  go_enter Try.func14, Try.ntmps14
  go_upto_region 1 with fail
  simp only [Nat.add_assoc, Nat.reduceAdd]
  rw [← hW0, ← hb4, ← hb3, ← hb2, ← hb1]
  clear hW0 hb4 hb3 hb2 hb1
  obtain ⟨⟨m0, m1, m2⟩, -⟩ := HX.out.1.three
  obtain ⟨⟨n0, n1⟩, -⟩ := HX.out.2.1.two
  obtain ⟨⟨r0, r1⟩, -⟩ := HX.out.2.2.1.two
  obtain ⟨⟨p0, p1, p2⟩, q0, q1, q2⟩ := HX.out.2.2.2.1.three
  go_wp2_with fail
  refine k1.mono ?_
  rintro e w2 ⟨rfl, gz⟩
  clear m0 m1 m2 n0 n1 p0 p1 p2 q0 q1 q2 r0 r1
  replace HX := hid (HX.out.grow gz)
  clear gz
  clear k1
  obtain ⟨⟨m0, m1, m2⟩, -⟩ := HX.out.1.three
  obtain ⟨⟨n0, n1⟩, -⟩ := HX.out.2.1.two
  obtain ⟨⟨r0, r1⟩, -⟩ := HX.out.2.2.1.two
  obtain ⟨⟨p0, p1, p2⟩, q0, q1, q2⟩ := HX.out.2.2.2.1.three
  go_wp2
  have hF := HX.out.fin k n (.slice a L.length cc)
  exact bodyPost_ret_by (results_cell_tmp rfl _ _ _ _ rfl (load_T b4 _ _ _ _ hF.1 rfl)) rfl ⟨rfl, hF.2.1⟩

set_option maxHeartbeats 8000000 in
theorem rrevoke_2 {p : Nat → Prop} (k n : Int) (v : Value) (L : List Sl) (c d : Cp) (w : World) (h : RdL p w v L) (hr : ∀ x ∈ L, x.r < 16) (hE : chkL L c 8 = 0) (hf : ¬ fidx d L < L.length) :
    Calls Try.prog 14 #[.agg #[.int .i64 k, .int .i64 n, v], .agg #[.int .i64 c.s, .int .i64 c.g], .agg #[.int .i64 d.s, .int .i64 d.g]] w fun e w' => e = .returned (.tuple #[.agg #[.int .i64 k, .int .i64 n, v], .int .i64 10]) ∧ Grow w w' := by
  have HR := hid h
  have hll := RdS.len h
  unfold maxLen at hll
  obtain ⟨a, cc, rfl⟩ := RdS.shape h
  obtain ⟨W0, hW0⟩ : ∃ W0, W0 = ((((w.alloc (.cells #[.int .i64 k, .int .i64 n, .slice a L.length cc] 30)).alloc (.cells #[.int .i64 c.s, .int .i64 c.g] 33)).alloc (.cells #[.int .i64 d.s, .int .i64 d.g] 33)).alloc (.cells #[.int .i64 0, .int .i64 0, .slice none 0 0] 30)) := ⟨_, rfl⟩
  have HX := hid (RdAt.start w k n (.slice a L.length cc) c d)
  rw [← hW0] at HX
  have k1 := rcheck_any k n (.slice a L.length cc) L c 8 W0 (HR.out.grow HX.out.2.2.2.2.1) hr (by omega)
  have HK2 := hid (fun u (hu : Grow w u) => rfind_any k n (.slice a L.length cc) L d u (HR.out.grow hu))
  obtain ⟨b4, hb4⟩ : ∃ b4, b4 = w.heap.size + 3 := ⟨_, rfl⟩
  obtain ⟨b3, hb3⟩ : ∃ b3, b3 = w.heap.size + 2 := ⟨_, rfl⟩
  obtain ⟨b2, hb2⟩ : ∃ b2, b2 = w.heap.size + 1 := ⟨_, rfl⟩
  obtain ⟨b1, hb1⟩ : ∃ b1, b1 = w.heap.size := ⟨_, rfl⟩
  rw [← hb4, ← hb3, ← hb2, ← hb1] at HX
  rw [hE] at k1
  have ef : findL L d = -1 := by unfold findL; rw [if_neg hf]
  rw [ef] at HK2
  clear hE ef hf h hr
  go_enter Try.func14, Try.ntmps14
  go_upto_region 1 with fail
  simp only [Nat.add_assoc, Nat.reduceAdd]
  rw [← hW0, ← hb4, ← hb3, ← hb2, ← hb1]
  clear hW0 hb4 hb3 hb2 hb1
  obtain ⟨⟨m0, m1, m2⟩, -⟩ := HX.out.1.three
  obtain ⟨⟨n0, n1⟩, -⟩ := HX.out.2.1.two
  obtain ⟨⟨r0, r1⟩, -⟩ := HX.out.2.2.1.two
  obtain ⟨⟨p0, p1, p2⟩, q0, q1, q2⟩ := HX.out.2.2.2.1.three
  go_wp2_with fail
  refine k1.mono ?_
  rintro e w2 ⟨rfl, gz⟩
  clear m0 m1 m2 n0 n1 p0 p1 p2 q0 q1 q2 r0 r1
  replace HX := hid (HX.out.grow gz)
  clear gz
  clear k1
  have k2 := HK2.out w2 HX.out.2.2.2.2.1
  obtain ⟨⟨m0, m1, m2⟩, -⟩ := HX.out.1.three
  obtain ⟨⟨n0, n1⟩, -⟩ := HX.out.2.1.two
  obtain ⟨⟨r0, r1⟩, -⟩ := HX.out.2.2.1.two
  obtain ⟨⟨p0, p1, p2⟩, q0, q1, q2⟩ := HX.out.2.2.2.1.three
  go_wp2_with fail
  refine k2.mono ?_
  rintro e w3 ⟨rfl, gz⟩
  clear m0 m1 m2 n0 n1 p0 p1 p2 q0 q1 q2 r0 r1
  replace HX := hid (HX.out.grow gz)
  clear gz
  clear k2 HK2
  obtain ⟨⟨m0, m1, m2⟩, -⟩ := HX.out.1.three
  obtain ⟨⟨n0, n1⟩, -⟩ := HX.out.2.1.two
  obtain ⟨⟨r0, r1⟩, -⟩ := HX.out.2.2.1.two
  obtain ⟨⟨p0, p1, p2⟩, q0, q1, q2⟩ := HX.out.2.2.2.1.three
  go_wp2
  have hF := HX.out.fin k n (.slice a L.length cc)
  exact bodyPost_ret_by (results_cell_tmp rfl _ _ _ _ rfl (load_T b4 _ _ _ _ hF.1 rfl)) rfl ⟨rfl, hF.2.1⟩

set_option maxRecDepth 8000 in
set_option maxHeartbeats 8000000 in
theorem rrevoke_3 {p : Nat → Prop} (k n : Int) (v : Value) (L : List Sl) (c d : Cp) (w : World) (h : RdL p w v L) (hr : ∀ x ∈ L, x.r < 16) (hE : chkL L c 8 = 0) (hf : fidx d L < L.length) (hL8 : L.length ≤ 8) :
    Calls Try.prog 14 #[.agg #[.int .i64 k, .int .i64 n, v], .agg #[.int .i64 c.s, .int .i64 c.g], .agg #[.int .i64 d.s, .int .i64 d.g]] w fun e w' => ∃ v', e = .returned (.tuple #[.agg #[.int .i64 k, .int .i64 n, v'], .int .i64 0]) ∧ RdL (fun i => w.heap.size ≤ i) w' v' (L.take (fidx d L) ++ L.drop (fidx d L + 1)) ∧ Grow w w' := by
  obtain ⟨i0, hi, hz0, hz1, hz2⟩ := info_parts infoS
  have HR := hid h
  have hll := RdS.len h
  unfold maxLen at hll
  obtain ⟨a, cc, rfl⟩ := RdS.shape h
  obtain ⟨W0, hW0⟩ : ∃ W0, W0 = ((((w.alloc (.cells #[.int .i64 k, .int .i64 n, .slice a L.length cc] 30)).alloc (.cells #[.int .i64 c.s, .int .i64 c.g] 33)).alloc (.cells #[.int .i64 d.s, .int .i64 d.g] 33)).alloc (.cells #[.int .i64 0, .int .i64 0, .slice none 0 0] 30)) := ⟨_, rfl⟩
  have HX := hid (RdAt.start w k n (.slice a L.length cc) c d)
  rw [← hW0] at HX
  have k1 := rcheck_any k n (.slice a L.length cc) L c 8 W0 (HR.out.grow HX.out.2.2.2.2.1) hr (by omega)
  have HK2 := hid (fun u (hu : Grow w u) => rfind_any k n (.slice a L.length cc) L d u (HR.out.grow hu))
  obtain ⟨b4, hb4⟩ : ∃ b4, b4 = w.heap.size + 3 := ⟨_, rfl⟩
  obtain ⟨b3, hb3⟩ : ∃ b3, b3 = w.heap.size + 2 := ⟨_, rfl⟩
  obtain ⟨b2, hb2⟩ : ∃ b2, b2 = w.heap.size + 1 := ⟨_, rfl⟩
  obtain ⟨b1, hb1⟩ : ∃ b1, b1 = w.heap.size := ⟨_, rfl⟩
  rw [← hb4, ← hb3, ← hb2, ← hb1] at HX
  rw [hE] at k1
  have ef : findL L d = (fidx d L : Int) := by unfold findL; rw [if_pos hf]
  rw [ef] at HK2
  have HLL : Hid (L.length ≤ 8 ∧ fidx d L < L.length) := ⟨hL8, hf⟩
  clear ef
  generalize fidx d L = q at HK2 hf HLL ⊢
  obtain ⟨q1, hq1⟩ : ∃ q1, q1 = q + 1 := ⟨_, rfl⟩
  have hwq : IntKind.i64.wrap ((q : Int) + 1) = (q1 : Int) := by rw [IntKind.wrap_i64]; omega
  have hq0 : ¬ (q : Int) < 0 := by omega
  rw [← hq1]
  have hadr : ∃ bL oL, a = some ⟨bL, oL, none⟩ := by
    obtain ⟨bL, oL, e, -⟩ := rdL_at HR.out hf
    exact ⟨bL, oL, e⟩
  obtain ⟨bL, oL, ha⟩ := hadr
  subst ha
  obtain ⟨VT, hvt, hrt⟩ := slice_to HR.out q (by omega)
  obtain ⟨VD, hvd, hrd⟩ := slice_from HR.out q1 (by omega)
  have HRT := hid hrt
  have HRD := hid hrd
  have hl1 : (L.take q).length ≤ 8 := by rw [List.length_take]; omega
  have hl3 : (L.drop q1).length ≤ 8 := by rw [List.length_drop]; omega
  have HL13 : Hid ((L.take q).length ≤ 8 ∧ (L.drop q1).length ≤ 8) := ⟨hl1, hl3⟩
  clear hrt hrd hL8 hE hf h hr hq1
  go_enter Try.func14, Try.ntmps14
  go_upto_region 1 with fail
  simp only [Nat.add_assoc, Nat.reduceAdd]
  rw [← hW0, ← hb4, ← hb3, ← hb2, ← hb1]
  clear hW0 hb4 hb3 hb2 hb1
  obtain ⟨⟨m0, m1, m2⟩, -⟩ := HX.out.1.three
  obtain ⟨⟨n0, n1⟩, -⟩ := HX.out.2.1.two
  obtain ⟨⟨r0, r1⟩, -⟩ := HX.out.2.2.1.two
  obtain ⟨⟨p0, p1, p2⟩, q0, q1, q2⟩ := HX.out.2.2.2.1.three
  go_wp2_with fail
  refine k1.mono ?_
  rintro e w2 ⟨rfl, gz⟩
  clear m0 m1 m2 n0 n1 p0 p1 p2 q0 q1 q2 r0 r1
  replace HX := hid (HX.out.grow gz)
  clear gz
  clear k1
  have k2 := HK2.out w2 HX.out.2.2.2.2.1
  obtain ⟨⟨m0, m1, m2⟩, -⟩ := HX.out.1.three
  obtain ⟨⟨n0, n1⟩, -⟩ := HX.out.2.1.two
  obtain ⟨⟨r0, r1⟩, -⟩ := HX.out.2.2.1.two
  obtain ⟨⟨p0, p1, p2⟩, q0, q1, q2⟩ := HX.out.2.2.2.1.three
  go_wp2_with fail
  refine k2.mono ?_
  rintro e w3 ⟨rfl, gz⟩
  clear m0 m1 m2 n0 n1 p0 p1 p2 q0 q1 q2 r0 r1
  replace HX := hid (HX.out.grow gz)
  clear gz
  clear k2 HK2
  obtain ⟨B, hB⟩ : ∃ B, B = w3.heap.size := ⟨_, rfl⟩
  have HS : Hid (RdAt w w3 b1 b2 b3 b4 k n (.slice (some ⟨bL, oL, none⟩) L.length cc) c d ∧ w.heap.size + 4 ≤ B ∧ B ≤ w3.heap.size) := ⟨HX.out, by have := HX.out.2.2.2.1.lt; have := HX.out.2.2.2.2.2; omega, by omega⟩
  clear hB HX
  obtain ⟨⟨m0, m1, m2⟩, -⟩ := HS.out.1.1.three
  go_wp2_with (at_builtin; refine wpList_appS (f := Sl.cs) (k := 3) (p := fun i => B ≤ i) rfl (.tmp 24) (.tmp 28) 28 28 rfl slk (by omega) i0 (.agg #[.int .i64 0, .int .i64 0, .int .i64 0]) 24 Try.underlying28 hi hz0 hz1 hz2 rfl rfl rfl (OwnS.nil _ _ _ _ _) (srcL (HRT.out.grow HS.out.1.2.2.2.2.1)) (by simp only [maxLen, List.length_nil]; omega) (by simp only [List.length_nil]; omega) ?_)
  intro v6 w6 ho6 hu6
  have HO : Hid (OwnS Sl.cs 3 (fun i => B ≤ i) w6 v6 (L.take q)) := ho6.mono (fun i _ hi => hi.elim (fun h => h) (fun h => by have := HS.out.2.2; omega))
  replace HS : Hid (RdAt w w6 b1 b2 b3 b4 k n (.slice (some ⟨bL, oL, none⟩) L.length cc) c d ∧ w.heap.size + 4 ≤ B ∧ B ≤ w6.heap.size) := ⟨HS.out.1.upd hu6 (fun i hi => by have := HS.out.2.1; omega), HS.out.2.1, Nat.le_trans HS.out.2.2 hu6.size⟩
  clear ho6 hu6 m0 m1 m2 hvt hl1 hl3
  obtain ⟨a6, c6, hv6⟩ := HO.out.shape
  subst hv6
  go_wp2
  refine wp_region_schedG (UpdS (fun i => i = b4 ∨ B ≤ i)) (UpdS.refl _) (fun _ _ _ => UpdS.trans) (by kernel_rfl) [(0, false), (1, false), (2, false), (3, false), (4, false), (5, false), (6, false), (7, false), (8, false), (9, false), (10, true), (11, false), (12, true), (13, false)] (by kernel_rfl) (by kernel_rfl) rfl (fun _ _ d _ _ h => by cases d <;> exact h) ?_
  simp only [inOrder, List.filterMap_cons, List.filterMap_nil, List.getElem?_toArray, List.getElem?_cons_zero, List.getElem?_cons_succ, Option.map_some]
  have HD : Hid (RdAt w w6.drew b1 b2 b3 b4 k n (.slice (some ⟨bL, oL, none⟩) L.length cc) c d ∧ w.heap.size + 4 ≤ B ∧ B ≤ w6.drew.heap.size) := ⟨HS.out.1.grow (Grow.refl _).drew, HS.out.2.1, HS.out.2.2⟩
  have HOD := hid (HO.out.grow (Grow.refl _).drew)
  clear HS HO
  generalize w6.drew = u6 at HD HOD ⊢
  have fz : ∀ w', UpdS (fun i => i = b4 ∨ B ≤ i) u6 w' → w'.cell? ⟨b1, 0, none⟩ = some (.int .i64 k) ∧ w'.cell? ⟨b1, 1, none⟩ = some (.int .i64 n) ∧ w'.cell? ⟨b1, 2, none⟩ = some (.slice (some ⟨bL, oL, none⟩) L.length cc) := fun w' hu => (HD.out.1.1.upd hu (by have := HD.out.1.2.2.2.2.2; have := HD.out.2.1; omega)).three.1
  repeat (first
    | (refine wpS_move rfl ?_; simp only [Act.eval, Act.put, Array.getD_eq_getD_getElem?, List.getElem?_toArray, List.getElem?_cons_zero, List.getElem?_cons_succ, Option.getD_some, List.setIfInBounds_toArray, List.set_cons_zero, List.set_cons_succ])
    | (refine wpS_assign rfl ?_; simp only [Act.eval, Act.put, Array.getD_eq_getD_getElem?, List.getElem?_toArray, List.getElem?_cons_zero, List.getElem?_cons_succ, Option.getD_some, List.setIfInBounds_toArray, List.set_cons_zero, List.set_cons_succ])
    | (refine wpS_read (v := ?_) rfl ?_ ?_; rotate_left; (focus (intro w' hG; obtain ⟨y0, y1, y2⟩ := fz w' hG; go_simp; try (with_reducible rfl))); simp only [Act.put, List.setIfInBounds_toArray, List.set_cons_zero, List.set_cons_succ])
    | (refine wpS_skip rfl ?_; simp only [Act.put, List.setIfInBounds_toArray, List.set_cons_zero, List.set_cons_succ]))
  obtain ⟨v8, w8, hrun, ho8, hu8⟩ := run_appS (P := Try.prog) slk (by omega) 28 28 28 i0 (.agg #[.int .i64 0, .int .i64 0, .int .i64 0]) 24 Try.underlying28 hi hz0 hz1 hz2 rfl HOD.out (srcL (HRD.out.grow HD.out.1.2.2.2.2.1)) (by simp only [maxLen]; have := HL13.out; omega) (by have := HL13.out; omega)
  refine wpS_act (by rfl) (exec_app rfl rfl rfl hrun) (hu8.mono (fun i hi => .inr hi)) ?_
  simp only [Act.put, List.setIfInBounds_toArray, List.set_cons_zero, List.set_cons_succ]
  have HD8 : Hid (RdAt w w8 b1 b2 b3 b4 k n (.slice (some ⟨bL, oL, none⟩) L.length cc) c d) := HD.out.1.upd hu8 (fun i hi => by have := HD.out.2.1; omega)
  have HO8 : Hid (OwnS Sl.cs 3 (fun i => B ≤ i) w8 v8 (L.take q ++ L.drop q1)) := ho8.mono (fun i _ hi => hi.elim (fun h => h) (fun h => by have := HD.out.2.2; omega))
  have HB4 : Hid (w.heap.size + 4 ≤ B) := HD.out.2.1
  clear ho8 hu8 hrun fz HD HOD
  obtain ⟨M, hM⟩ : ∃ M : List Sl, M = L.take q ++ L.drop q1 := ⟨_, rfl⟩
  have HMM : Hid (∀ (p : Nat → Prop) (w : World) (v : Value), RdL p w v M → RdL p w v (L.take q ++ L.drop q1)) := fun p w v h => by rw [← hM]; exact h
  rw [← hM] at HO8
  clear hM
  obtain ⟨a8, c8, hv8⟩ := HO8.out.shape
  subst hv8
  repeat (first
    | (refine wpS_move rfl ?_; simp only [Act.eval, Act.put, Array.getD_eq_getD_getElem?, List.getElem?_toArray, List.getElem?_cons_zero, List.getElem?_cons_succ, Option.getD_some, List.setIfInBounds_toArray, List.set_cons_zero, List.set_cons_succ])
    | (refine wpS_assign rfl ?_; simp only [Act.eval, Act.put, Array.getD_eq_getD_getElem?, List.getElem?_toArray, List.getElem?_cons_zero, List.getElem?_cons_succ, Option.getD_some, List.setIfInBounds_toArray, List.set_cons_zero, List.set_cons_succ])
    | (refine wpS_read (v := ?_) rfl ?_ ?_; rotate_left; (focus (intro w' hG; go_simp; try (with_reducible rfl))); simp only [Act.put, List.setIfInBounds_toArray, List.set_cons_zero, List.set_cons_succ])
    | (refine wpS_skip rfl ?_; simp only [Act.put, List.setIfInBounds_toArray, List.set_cons_zero, List.set_cons_succ]))
  have hF := HD8.out.fin k n (.slice a8 M.length c8)
  obtain ⟨⟨p0, p1, p2⟩, q0, q3, q2⟩ := HD8.out.2.2.2.1.three
  refine wpS_store (w' := ((w8.setCell ⟨b4, 0, none⟩ (.int .i64 k)).setCell ⟨b4, 1, none⟩ (.int .i64 n)).setCell ⟨b4, 2, none⟩ (.slice a8 M.length c8)) (by rfl) ?_ ?_ ?_
  · go_simp
  · exact hF.2.2.mono (fun i hi => .inl hi)
  simp only [Act.put, List.setIfInBounds_toArray, List.set_cons_zero, List.set_cons_succ]
  have hLv := HO8.out.upd hF.2.2 (fun i _ hi e => by have := HD8.out.2.2.2.2.2; have := HB4.out; omega)
  have HF : Hid (VarAt (((w8.setCell ⟨b4, 0, none⟩ (.int .i64 k)).setCell ⟨b4, 1, none⟩ (.int .i64 n)).setCell ⟨b4, 2, none⟩ (.slice a8 M.length c8)) b4 [.int .i64 k, .int .i64 n, .slice a8 M.length c8] ∧ Grow w (((w8.setCell ⟨b4, 0, none⟩ (.int .i64 k)).setCell ⟨b4, 1, none⟩ (.int .i64 n)).setCell ⟨b4, 2, none⟩ (.slice a8 M.length c8)) ∧ RdL (fun i => w.heap.size ≤ i) (((w8.setCell ⟨b4, 0, none⟩ (.int .i64 k)).setCell ⟨b4, 1, none⟩ (.int .i64 n)).setCell ⟨b4, 2, none⟩ (.slice a8 M.length c8)) (.slice a8 M.length c8) M) := ⟨hF.1, hF.2.1, RdS.mono hLv.rd (fun i _ hi => by have := HB4.out; omega)⟩
  clear hLv hF p0 p1 p2 q0 q3 q2 HD8 HO8
  generalize (((w8.setCell ⟨b4, 0, none⟩ (.int .i64 k)).setCell ⟨b4, 1, none⟩ (.int .i64 n)).setCell ⟨b4, 2, none⟩ (.slice a8 M.length c8)) = w9 at HF ⊢
  repeat (first
    | (refine wpS_move rfl ?_; simp only [Act.eval, Act.put, Array.getD_eq_getD_getElem?, List.getElem?_toArray, List.getElem?_cons_zero, List.getElem?_cons_succ, Option.getD_some, List.setIfInBounds_toArray, List.set_cons_zero, List.set_cons_succ])
    | (refine wpS_assign rfl ?_; simp only [Act.eval, Act.put, Array.getD_eq_getD_getElem?, List.getElem?_toArray, List.getElem?_cons_zero, List.getElem?_cons_succ, Option.getD_some, List.setIfInBounds_toArray, List.set_cons_zero, List.set_cons_succ])
    | (refine wpS_read (v := ?_) rfl ?_ ?_; rotate_left; (focus (intro w' hG; go_simp; try (with_reducible rfl))); simp only [Act.put, List.setIfInBounds_toArray, List.set_cons_zero, List.set_cons_succ])
    | (refine wpS_skip rfl ?_; simp only [Act.put, List.setIfInBounds_toArray, List.set_cons_zero, List.set_cons_succ]))
  refine wpS_nil ?_
  go_wp2
  exact bodyPost_ret_by (results_cell_tmp rfl _ _ _ _ rfl (load_T b4 _ _ _ _ HF.out.1 rfl)) rfl ⟨_, rfl, HMM.out _ _ _ HF.out.2.2, HF.out.2.1⟩

theorem rrevoke_any {p : Nat → Prop} (k n : Int) (v : Value) (S : List Sl) (c d : Cp) (w : World) (h : RdL p w v (allS S)) (hO : TbOk S k n) :
    Calls Try.prog 14 #[.agg #[.int .i64 k, .int .i64 n, v], .agg #[.int .i64 c.s, .int .i64 c.g], .agg #[.int .i64 d.s, .int .i64 d.g]] w fun e w' => ∃ v', e = .returned (.tuple #[.agg #[.int .i64 k, .int .i64 n, v'], .int .i64 (errR S c d)]) ∧ RdL (fun i => p i ∨ w.heap.size ≤ i) w' v' (allS (setR S c d)) ∧ Grow w w' := by
  have hr := allS_rlt hO
  by_cases h1 : chkS S c 8 = 0
  · have h1' : chkL (allS S) c 8 = 0 := by rw [hO.check]; exact h1
    rcases hO.find d with ⟨hg, hf, _⟩ | ⟨hg, hf⟩
    · have e : errR S c d = 0 := by unfold errR; rw [if_neg (fun x => x h1), hg]; rfl
      unfold setR
      rw [e, if_pos rfl, hO.cut hg]
      have hlen : (allS S).length ≤ 8 := by have := allS_len S; rw [hO.len] at this; exact this
      exact (rrevoke_3 k n v (allS S) c d w h hr h1' hf hlen).mono fun e w' ⟨v', h1, h2, h3⟩ => ⟨v', h1, RdS.mono h2 (fun i _ hi => .inr hi), h3⟩
    · have e : errR S c d = 10 := by unfold errR; rw [if_neg (fun x => x h1), hg]; rfl
      unfold setR
      rw [e, if_neg (by omega)]
      exact (rrevoke_2 k n v (allS S) c d w h hr h1' hf).mono fun e w' ⟨h1, h2⟩ => ⟨v, h1, RdS.mono (h.grow h2) (fun i _ hi => .inl hi), h2⟩
  · have e : errR S c d = chkS S c 8 := by unfold errR; rw [if_pos h1]
    unfold setR
    rw [e, if_neg h1]
    exact (rrevoke_1 k n v (allS S) c d w h hr _ (hO.check c 8) h1).mono fun e w' ⟨h1, h2⟩ => ⟨v, h1, RdS.mono (h.grow h2) (fun i _ hi => .inl hi), h2⟩
end Go.Proofs.Ytoobohbghobfhaa
