/-
  The document's side: the walk of Mint. Conditions: each theorem's own.
-/
import Derived.Test.YtoobohbghobfhaaCapH
namespace Go.Proofs.Ytoobohbghobfhaa
open Go.RowKit
set_option linter.unusedVariables false
set_option linter.unusedSimpArgs false

/-- behind the document's Mint's beginning -/
def MdAt (w wr : World) (b1 b2 b3 b4 : Nat) (k n : Int) (v : Value) (c : Cp) : Prop :=
  VarAt wr b1 [.int .i64 k, .int .i64 n, v] ∧ VarAt wr b2 [.int .i64 c.s, .int .i64 c.g] ∧ VarAt wr b3 [.int .i64 0, .int .i64 0, .slice none 0 0] ∧ VarAt wr b4 [.int .i64 0, .int .i64 0] ∧ Grow w wr ∧ b1 = w.heap.size ∧ b2 = w.heap.size + 1 ∧ b3 = w.heap.size + 2 ∧ b4 = w.heap.size + 3
theorem MdAt.grow {w wr w2 : World} {b1 b2 b3 b4 : Nat} {k n : Int} {v : Value} {c : Cp} (h : MdAt w wr b1 b2 b3 b4 k n v c) (g : Grow wr w2) : MdAt w w2 b1 b2 b3 b4 k n v c :=
  ⟨h.1.grow g, h.2.1.grow g, h.2.2.1.grow g, h.2.2.2.1.grow g, h.2.2.2.2.1.trans g, h.2.2.2.2.2⟩
theorem MdAt.upd {w wr w2 : World} {b1 b2 b3 b4 : Nat} {k n : Int} {v : Value} {c : Cp} {S : Nat → Prop} (h : MdAt w wr b1 b2 b3 b4 k n v c) (g : UpdS S wr w2) (h1 : ∀ i, S i → w.heap.size + 4 ≤ i) : MdAt w w2 b1 b2 b3 b4 k n v c := by
  obtain ⟨a1, a2, a3, a4, a5, e1, e2, e3, e4⟩ := h
  exact ⟨a1.upd g (fun x => by have := h1 _ x; omega), a2.upd g (fun x => by have := h1 _ x; omega), a3.upd g (fun x => by have := h1 _ x; omega), a4.upd g (fun x => by have := h1 _ x; omega), UpdS.new a5 g (fun i hi => by have := h1 _ hi; omega), e1, e2, e3, e4⟩
theorem MdAt.start (w : World) (k n : Int) (v : Value) (c : Cp) : MdAt w ((((w.alloc (.cells #[.int .i64 k, .int .i64 n, v] 30)).alloc (.cells #[.int .i64 c.s, .int .i64 c.g] 33)).alloc (.cells #[.int .i64 0, .int .i64 0, .slice none 0 0] 30)).alloc (.cells #[.int .i64 0, .int .i64 0] 33)) w.heap.size (w.heap.size + 1) (w.heap.size + 2) (w.heap.size + 3) k n v c := by
  refine ⟨(((VarAt.new w [.int .i64 k, .int .i64 n, v] _).old _).old _).old _, ((VarAt.new2 w _ [.int .i64 c.s, .int .i64 c.g] _).old _).old _, (VarAt.new3 w _ _ [.int .i64 0, .int .i64 0, .slice none 0 0] _).old _, ?_, ((((Grow.refl w).alloc _).alloc _).alloc _).alloc _, rfl, rfl, rfl, rfl⟩
  have := VarAt.new3 (w.alloc (.cells #[.int .i64 k, .int .i64 n, v] 30)) (.cells #[.int .i64 c.s, .int .i64 c.g] 33) (.cells #[.int .i64 0, .int .i64 0, .slice none 0 0] 30) [.int .i64 0, .int .i64 0] 33
  rw [World.size_alloc] at this
  exact this
/-- what is told, in its two cells -/
def endM (wr : World) (b3 b4 : Nat) (k n : Int) (v : Value) (s g : Int) : World := ((((wr.setCell ⟨b3, 0, none⟩ (.int .i64 k)).setCell ⟨b3, 1, none⟩ (.int .i64 n)).setCell ⟨b3, 2, none⟩ v).setCell ⟨b4, 0, none⟩ (.int .i64 s)).setCell ⟨b4, 1, none⟩ (.int .i64 g)
theorem MdAt.fin {w wr : World} {b1 b2 b3 b4 : Nat} {k n : Int} {v : Value} {c : Cp} (h : MdAt w wr b1 b2 b3 b4 k n v c) (k' n' : Int) (v' : Value) (s g : Int) :
    VarAt (endM wr b3 b4 k' n' v' s g) b3 [.int .i64 k', .int .i64 n', v'] ∧ VarAt (endM wr b3 b4 k' n' v' s g) b4 [.int .i64 s, .int .i64 g] ∧ Grow w (endM wr b3 b4 k' n' v' s g) ∧ UpdS (fun i => i = b3 ∨ i = b4) wr (endM wr b3 b4 k' n' v' s g) := by
  obtain ⟨a1, a2, a3, a4, a5, e1, e2, e3, e4⟩ := h
  have u1 := upd_three' wr b3 (.int .i64 k') (.int .i64 n') v'
  have u2 := upd_pair (((wr.setCell ⟨b3, 0, none⟩ (.int .i64 k')).setCell ⟨b3, 1, none⟩ (.int .i64 n')).setCell ⟨b3, 2, none⟩ v') b4 (.int .i64 s) (.int .i64 g)
  have ut : UpdS (fun i => i = b3 ∨ i = b4) wr (endM wr b3 b4 k' n' v' s g) := (u1.mono (fun i hi => .inl hi)).trans (u2.mono (fun i hi => .inr hi))
  exact ⟨(a3.set3' _ _ _).upd u2 (by omega), (a4.upd u1 (by omega)).set2 _ _, UpdS.new a5 ut (fun i hi => by omega), ut⟩

set_option maxHeartbeats 8000000 in
theorem rmint_1 {p : Nat → Prop} (k n : Int) (v : Value) (L : List Sl) (c : Cp) (s : Int) (w : World) (h : RdL p w v L) (hr : ∀ x ∈ L, x.r < 16) (E : Int) (hE : chkL L c 8 = E) (h1 : E ≠ 0) :
    Calls Try.prog 20 #[.agg #[.int .i64 k, .int .i64 n, v], .agg #[.int .i64 c.s, .int .i64 c.g], .int .i64 s] w fun e w' => e = .returned (.tuple #[.agg #[.int .i64 k, .int .i64 n, v], .agg #[.int .i64 0, .int .i64 0], .int .i64 E]) ∧ Grow w w' := by
  have HR := hid h
  have hll := RdS.len h
  unfold maxLen at hll
  obtain ⟨a, cc, rfl⟩ := RdS.shape h
  obtain ⟨W0, hW0⟩ : ∃ W0, W0 = ((((w.alloc (.cells #[.int .i64 k, .int .i64 n, .slice a L.length cc] 30)).alloc (.cells #[.int .i64 c.s, .int .i64 c.g] 33)).alloc (.cells #[.int .i64 0, .int .i64 0, .slice none 0 0] 30)).alloc (.cells #[.int .i64 0, .int .i64 0] 33)) := ⟨_, rfl⟩
  have HX := hid (MdAt.start w k n (.slice a L.length cc) c)
  rw [← hW0] at HX
  have HK := hid (fun need (hn : need < 16) u (hu : Grow w u) => rcheck_any k n (.slice a L.length cc) L c need u (HR.out.grow hu) hr hn)
  obtain ⟨b4, hb4⟩ : ∃ b4, b4 = w.heap.size + 3 := ⟨_, rfl⟩
  obtain ⟨b3, hb3⟩ : ∃ b3, b3 = w.heap.size + 2 := ⟨_, rfl⟩
  obtain ⟨b2, hb2⟩ : ∃ b2, b2 = w.heap.size + 1 := ⟨_, rfl⟩
  obtain ⟨b1, hb1⟩ : ∃ b1, b1 = w.heap.size := ⟨_, rfl⟩
  rw [← hb4, ← hb3, ← hb2, ← hb1] at HX
  have k1 := HK.out 8 (by omega) W0 HX.out.2.2.2.2.1
  rw [hE] at k1
  have e1 := bneT h1
  clear HK hE h1 h hr
  go_enter Try.func20, Try.ntmps20
  go_upto_region 1 with fail
  simp only [Nat.add_assoc, Nat.reduceAdd]
  rw [← hW0, ← hb4, ← hb3, ← hb2, ← hb1]
  clear hW0 hb4 hb3 hb2 hb1
  obtain ⟨⟨m0, m1, m2⟩, -⟩ := HX.out.1.three
  obtain ⟨⟨n0, n1⟩, -⟩ := HX.out.2.1.two
  obtain ⟨⟨p0, p1, p2⟩, q0, q1, q2⟩ := HX.out.2.2.1.three
  obtain ⟨⟨r0, r1⟩, t0, t1⟩ := HX.out.2.2.2.1.two
  have hb34 : b3 < b4 := by have := HX.out.2.2.2.2.2; omega
  go_wp2_with fail
  refine k1.mono ?_
  rintro e w2 ⟨rfl, gz⟩
  clear m0 m1 m2 n0 n1 p0 p1 p2 q0 q1 q2 r0 r1 t0 t1 hb34
  replace HX := hid (HX.out.grow gz)
  clear gz
  clear k1
  obtain ⟨⟨m0, m1, m2⟩, -⟩ := HX.out.1.three
  obtain ⟨⟨n0, n1⟩, -⟩ := HX.out.2.1.two
  obtain ⟨⟨p0, p1, p2⟩, q0, q1, q2⟩ := HX.out.2.2.1.three
  obtain ⟨⟨r0, r1⟩, t0, t1⟩ := HX.out.2.2.2.1.two
  have hb34 : b3 < b4 := by have := HX.out.2.2.2.2.2; omega
  go_wp2
  have hF := HX.out.fin k n (.slice a L.length cc) 0 0
  exact bodyPost_ret_by (results_cct rfl _ _ _ _ _ _ rfl rfl (load_T b3 _ _ _ _ hF.1 rfl) (load_C b4 _ _ _ hF.2.1)) rfl ⟨rfl, hF.2.2.1⟩

set_option maxHeartbeats 8000000 in
theorem rmint_2 {p : Nat → Prop} (k n : Int) (v : Value) (L : List Sl) (c : Cp) (s : Int) (w : World) (h : RdL p w v L) (hr : ∀ x ∈ L, x.r < 16) (hE : chkL L c 8 = 0) (hs : ¬ (0 ≤ s ∧ s ≤ 15)) :
    Calls Try.prog 20 #[.agg #[.int .i64 k, .int .i64 n, v], .agg #[.int .i64 c.s, .int .i64 c.g], .int .i64 s] w fun e w' => e = .returned (.tuple #[.agg #[.int .i64 k, .int .i64 n, v], .agg #[.int .i64 0, .int .i64 0], .int .i64 1]) ∧ Grow w w' := by
  by_cases hs0 : s < 0
  · skip
    have HR := hid h
    have hll := RdS.len h
    unfold maxLen at hll
    obtain ⟨a, cc, rfl⟩ := RdS.shape h
    obtain ⟨W0, hW0⟩ : ∃ W0, W0 = ((((w.alloc (.cells #[.int .i64 k, .int .i64 n, .slice a L.length cc] 30)).alloc (.cells #[.int .i64 c.s, .int .i64 c.g] 33)).alloc (.cells #[.int .i64 0, .int .i64 0, .slice none 0 0] 30)).alloc (.cells #[.int .i64 0, .int .i64 0] 33)) := ⟨_, rfl⟩
    have HX := hid (MdAt.start w k n (.slice a L.length cc) c)
    rw [← hW0] at HX
    have HK := hid (fun need (hn : need < 16) u (hu : Grow w u) => rcheck_any k n (.slice a L.length cc) L c need u (HR.out.grow hu) hr hn)
    obtain ⟨b4, hb4⟩ : ∃ b4, b4 = w.heap.size + 3 := ⟨_, rfl⟩
    obtain ⟨b3, hb3⟩ : ∃ b3, b3 = w.heap.size + 2 := ⟨_, rfl⟩
    obtain ⟨b2, hb2⟩ : ∃ b2, b2 = w.heap.size + 1 := ⟨_, rfl⟩
    obtain ⟨b1, hb1⟩ : ∃ b1, b1 = w.heap.size := ⟨_, rfl⟩
    rw [← hb4, ← hb3, ← hb2, ← hb1] at HX
    have k1 := HK.out 8 (by omega) W0 HX.out.2.2.2.2.1
    rw [hE] at k1
    clear HK hE h hr hs
    go_enter Try.func20, Try.ntmps20
    go_upto_region 1 with fail
    simp only [Nat.add_assoc, Nat.reduceAdd]
    rw [← hW0, ← hb4, ← hb3, ← hb2, ← hb1]
    clear hW0 hb4 hb3 hb2 hb1
    obtain ⟨⟨m0, m1, m2⟩, -⟩ := HX.out.1.three
    obtain ⟨⟨n0, n1⟩, -⟩ := HX.out.2.1.two
    obtain ⟨⟨p0, p1, p2⟩, q0, q1, q2⟩ := HX.out.2.2.1.three
    obtain ⟨⟨r0, r1⟩, t0, t1⟩ := HX.out.2.2.2.1.two
    have hb34 : b3 < b4 := by have := HX.out.2.2.2.2.2; omega
    go_wp2_with fail
    refine k1.mono ?_
    rintro e w2 ⟨rfl, gz⟩
    clear m0 m1 m2 n0 n1 p0 p1 p2 q0 q1 q2 r0 r1 t0 t1 hb34
    replace HX := hid (HX.out.grow gz)
    clear gz
    clear k1
    obtain ⟨⟨m0, m1, m2⟩, -⟩ := HX.out.1.three
    obtain ⟨⟨n0, n1⟩, -⟩ := HX.out.2.1.two
    obtain ⟨⟨p0, p1, p2⟩, q0, q1, q2⟩ := HX.out.2.2.1.three
    obtain ⟨⟨r0, r1⟩, t0, t1⟩ := HX.out.2.2.2.1.two
    have hb34 : b3 < b4 := by have := HX.out.2.2.2.2.2; omega
    go_wp2
    have hF := HX.out.fin k n (.slice a L.length cc) 0 0
    exact bodyPost_ret_by (results_cct rfl _ _ _ _ _ _ rfl rfl (load_T b3 _ _ _ _ hF.1 rfl) (load_C b4 _ _ _ hF.2.1)) rfl ⟨rfl, hF.2.2.1⟩
  · have hs1 : 15 < s := by omega
    have HR := hid h
    have hll := RdS.len h
    unfold maxLen at hll
    obtain ⟨a, cc, rfl⟩ := RdS.shape h
    obtain ⟨W0, hW0⟩ : ∃ W0, W0 = ((((w.alloc (.cells #[.int .i64 k, .int .i64 n, .slice a L.length cc] 30)).alloc (.cells #[.int .i64 c.s, .int .i64 c.g] 33)).alloc (.cells #[.int .i64 0, .int .i64 0, .slice none 0 0] 30)).alloc (.cells #[.int .i64 0, .int .i64 0] 33)) := ⟨_, rfl⟩
    have HX := hid (MdAt.start w k n (.slice a L.length cc) c)
    rw [← hW0] at HX
    have HK := hid (fun need (hn : need < 16) u (hu : Grow w u) => rcheck_any k n (.slice a L.length cc) L c need u (HR.out.grow hu) hr hn)
    obtain ⟨b4, hb4⟩ : ∃ b4, b4 = w.heap.size + 3 := ⟨_, rfl⟩
    obtain ⟨b3, hb3⟩ : ∃ b3, b3 = w.heap.size + 2 := ⟨_, rfl⟩
    obtain ⟨b2, hb2⟩ : ∃ b2, b2 = w.heap.size + 1 := ⟨_, rfl⟩
    obtain ⟨b1, hb1⟩ : ∃ b1, b1 = w.heap.size := ⟨_, rfl⟩
    rw [← hb4, ← hb3, ← hb2, ← hb1] at HX
    have k1 := HK.out 8 (by omega) W0 HX.out.2.2.2.2.1
    rw [hE] at k1
    clear HK hE h hr hs
    go_enter Try.func20, Try.ntmps20
    go_upto_region 1 with fail
    simp only [Nat.add_assoc, Nat.reduceAdd]
    rw [← hW0, ← hb4, ← hb3, ← hb2, ← hb1]
    clear hW0 hb4 hb3 hb2 hb1
    obtain ⟨⟨m0, m1, m2⟩, -⟩ := HX.out.1.three
    obtain ⟨⟨n0, n1⟩, -⟩ := HX.out.2.1.two
    obtain ⟨⟨p0, p1, p2⟩, q0, q1, q2⟩ := HX.out.2.2.1.three
    obtain ⟨⟨r0, r1⟩, t0, t1⟩ := HX.out.2.2.2.1.two
    have hb34 : b3 < b4 := by have := HX.out.2.2.2.2.2; omega
    go_wp2_with fail
    refine k1.mono ?_
    rintro e w2 ⟨rfl, gz⟩
    clear m0 m1 m2 n0 n1 p0 p1 p2 q0 q1 q2 r0 r1 t0 t1 hb34
    replace HX := hid (HX.out.grow gz)
    clear gz
    clear k1
    obtain ⟨⟨m0, m1, m2⟩, -⟩ := HX.out.1.three
    obtain ⟨⟨n0, n1⟩, -⟩ := HX.out.2.1.two
    obtain ⟨⟨p0, p1, p2⟩, q0, q1, q2⟩ := HX.out.2.2.1.three
    obtain ⟨⟨r0, r1⟩, t0, t1⟩ := HX.out.2.2.2.1.two
    have hb34 : b3 < b4 := by have := HX.out.2.2.2.2.2; omega
    go_wp2
    have hF := HX.out.fin k n (.slice a L.length cc) 0 0
    exact bodyPost_ret_by (results_cct rfl _ _ _ _ _ _ rfl rfl (load_T b3 _ _ _ _ hF.1 rfl) (load_C b4 _ _ _ hF.2.1)) rfl ⟨rfl, hF.2.2.1⟩

set_option maxHeartbeats 8000000 in
theorem rmint_3 {p : Nat → Prop} (k n : Int) (v : Value) (L : List Sl) (c : Cp) (s : Int) (w : World) (h : RdL p w v L) (hr : ∀ x ∈ L, x.r < 16) (E : Int) (r : Nat) (hE : chkL L c 8 = 0) (hr16 : r < 16) (hsr : s = r) (hF : chkL L c r = E) (h1 : E ≠ 0) :
    Calls Try.prog 20 #[.agg #[.int .i64 k, .int .i64 n, v], .agg #[.int .i64 c.s, .int .i64 c.g], .int .i64 s] w fun e w' => e = .returned (.tuple #[.agg #[.int .i64 k, .int .i64 n, v], .agg #[.int .i64 0, .int .i64 0], .int .i64 E]) ∧ Grow w w' := by
  subst hsr
  have s0 : ¬ (r : Int) < 0 := by omega
  have s1 : ¬ (15 : Int) < (r : Int) := by omega
  have HR := hid h
  have hll := RdS.len h
  unfold maxLen at hll
  obtain ⟨a, cc, rfl⟩ := RdS.shape h
  obtain ⟨W0, hW0⟩ : ∃ W0, W0 = ((((w.alloc (.cells #[.int .i64 k, .int .i64 n, .slice a L.length cc] 30)).alloc (.cells #[.int .i64 c.s, .int .i64 c.g] 33)).alloc (.cells #[.int .i64 0, .int .i64 0, .slice none 0 0] 30)).alloc (.cells #[.int .i64 0, .int .i64 0] 33)) := ⟨_, rfl⟩
  have HX := hid (MdAt.start w k n (.slice a L.length cc) c)
  rw [← hW0] at HX
  have HK := hid (fun need (hn : need < 16) u (hu : Grow w u) => rcheck_any k n (.slice a L.length cc) L c need u (HR.out.grow hu) hr hn)
  obtain ⟨b4, hb4⟩ : ∃ b4, b4 = w.heap.size + 3 := ⟨_, rfl⟩
  obtain ⟨b3, hb3⟩ : ∃ b3, b3 = w.heap.size + 2 := ⟨_, rfl⟩
  obtain ⟨b2, hb2⟩ : ∃ b2, b2 = w.heap.size + 1 := ⟨_, rfl⟩
  obtain ⟨b1, hb1⟩ : ∃ b1, b1 = w.heap.size := ⟨_, rfl⟩
  rw [← hb4, ← hb3, ← hb2, ← hb1] at HX
  have k1 := HK.out 8 (by omega) W0 HX.out.2.2.2.2.1
  rw [hE] at k1
  have K2 := hid (HK.out r hr16)
  rw [hF] at K2
  have e1 := bneT h1
  clear HK hE h hr hr16 hF h1
  go_enter Try.func20, Try.ntmps20
  go_upto_region 1 with fail
  simp only [Nat.add_assoc, Nat.reduceAdd]
  rw [← hW0, ← hb4, ← hb3, ← hb2, ← hb1]
  clear hW0 hb4 hb3 hb2 hb1
  obtain ⟨⟨m0, m1, m2⟩, -⟩ := HX.out.1.three
  obtain ⟨⟨n0, n1⟩, -⟩ := HX.out.2.1.two
  obtain ⟨⟨p0, p1, p2⟩, q0, q1, q2⟩ := HX.out.2.2.1.three
  obtain ⟨⟨r0, r1⟩, t0, t1⟩ := HX.out.2.2.2.1.two
  have hb34 : b3 < b4 := by have := HX.out.2.2.2.2.2; omega
  go_wp2_with fail
  refine k1.mono ?_
  rintro e w2 ⟨rfl, gz⟩
  clear m0 m1 m2 n0 n1 p0 p1 p2 q0 q1 q2 r0 r1 t0 t1 hb34
  replace HX := hid (HX.out.grow gz)
  clear gz
  clear k1
  have k2 := K2.out w2 HX.out.2.2.2.2.1
  obtain ⟨⟨m0, m1, m2⟩, -⟩ := HX.out.1.three
  obtain ⟨⟨n0, n1⟩, -⟩ := HX.out.2.1.two
  obtain ⟨⟨p0, p1, p2⟩, q0, q1, q2⟩ := HX.out.2.2.1.three
  obtain ⟨⟨r0, r1⟩, t0, t1⟩ := HX.out.2.2.2.1.two
  have hb34 : b3 < b4 := by have := HX.out.2.2.2.2.2; omega
  go_wp2_with fail
  refine k2.mono ?_
  rintro e w3 ⟨rfl, gz⟩
  clear m0 m1 m2 n0 n1 p0 p1 p2 q0 q1 q2 r0 r1 t0 t1 hb34
  replace HX := hid (HX.out.grow gz)
  clear gz
  clear k2 K2
  obtain ⟨⟨m0, m1, m2⟩, -⟩ := HX.out.1.three
  obtain ⟨⟨n0, n1⟩, -⟩ := HX.out.2.1.two
  obtain ⟨⟨p0, p1, p2⟩, q0, q1, q2⟩ := HX.out.2.2.1.three
  obtain ⟨⟨r0, r1⟩, t0, t1⟩ := HX.out.2.2.2.1.two
  have hb34 : b3 < b4 := by have := HX.out.2.2.2.2.2; omega
  go_wp2
  have hF := HX.out.fin k n (.slice a L.length cc) 0 0
  exact bodyPost_ret_by (results_cct rfl _ _ _ _ _ _ rfl rfl (load_T b3 _ _ _ _ hF.1 rfl) (load_C b4 _ _ _ hF.2.1)) rfl ⟨rfl, hF.2.2.1⟩

set_option maxHeartbeats 8000000 in
theorem rmint_4 {p : Nat → Prop} (k n : Int) (v : Value) (L : List Sl) (c : Cp) (s : Int) (w : World) (h : RdL p w v L) (hr : ∀ x ∈ L, x.r < 16) (r : Nat) (hE : chkL L c 8 = 0) (hr16 : r < 16) (hsr : s = r) (hF : chkL L c r = 0) (hfull : 7 < (freeL L : Int) ∨ 1048576 ≤ n) :
    Calls Try.prog 20 #[.agg #[.int .i64 k, .int .i64 n, v], .agg #[.int .i64 c.s, .int .i64 c.g], .int .i64 s] w fun e w' => e = .returned (.tuple #[.agg #[.int .i64 k, .int .i64 n, v], .agg #[.int .i64 0, .int .i64 0], .int .i64 13]) ∧ Grow w w' := by
  subst hsr
  have s0 : ¬ (r : Int) < 0 := by omega
  have s1 : ¬ (15 : Int) < (r : Int) := by omega
  by_cases h7 : 7 < (freeL L : Int)
  · skip
    have HR := hid h
    have hll := RdS.len h
    unfold maxLen at hll
    obtain ⟨a, cc, rfl⟩ := RdS.shape h
    obtain ⟨W0, hW0⟩ : ∃ W0, W0 = ((((w.alloc (.cells #[.int .i64 k, .int .i64 n, .slice a L.length cc] 30)).alloc (.cells #[.int .i64 c.s, .int .i64 c.g] 33)).alloc (.cells #[.int .i64 0, .int .i64 0, .slice none 0 0] 30)).alloc (.cells #[.int .i64 0, .int .i64 0] 33)) := ⟨_, rfl⟩
    have HX := hid (MdAt.start w k n (.slice a L.length cc) c)
    rw [← hW0] at HX
    have HK := hid (fun need (hn : need < 16) u (hu : Grow w u) => rcheck_any k n (.slice a L.length cc) L c need u (HR.out.grow hu) hr hn)
    obtain ⟨b4, hb4⟩ : ∃ b4, b4 = w.heap.size + 3 := ⟨_, rfl⟩
    obtain ⟨b3, hb3⟩ : ∃ b3, b3 = w.heap.size + 2 := ⟨_, rfl⟩
    obtain ⟨b2, hb2⟩ : ∃ b2, b2 = w.heap.size + 1 := ⟨_, rfl⟩
    obtain ⟨b1, hb1⟩ : ∃ b1, b1 = w.heap.size := ⟨_, rfl⟩
    rw [← hb4, ← hb3, ← hb2, ← hb1] at HX
    have k1 := HK.out 8 (by omega) W0 HX.out.2.2.2.2.1
    rw [hE] at k1
    have K2 := hid (HK.out r hr16)
    rw [hF] at K2
    have K3 := hid (fun u (hu : Grow w u) => rfree_any k n (.slice a L.length cc) L u (HR.out.grow hu))
    clear HK hE h hr hr16 hF hfull
    generalize freeL L = q at K3 h7
    go_enter Try.func20, Try.ntmps20
    go_upto_region 1 with fail
    simp only [Nat.add_assoc, Nat.reduceAdd]
    rw [← hW0, ← hb4, ← hb3, ← hb2, ← hb1]
    clear hW0 hb4 hb3 hb2 hb1
    obtain ⟨⟨m0, m1, m2⟩, -⟩ := HX.out.1.three
    obtain ⟨⟨n0, n1⟩, -⟩ := HX.out.2.1.two
    obtain ⟨⟨p0, p1, p2⟩, q0, q1, q2⟩ := HX.out.2.2.1.three
    obtain ⟨⟨r0, r1⟩, t0, t1⟩ := HX.out.2.2.2.1.two
    have hb34 : b3 < b4 := by have := HX.out.2.2.2.2.2; omega
    go_wp2_with fail
    refine k1.mono ?_
    rintro e w2 ⟨rfl, gz⟩
    clear m0 m1 m2 n0 n1 p0 p1 p2 q0 q1 q2 r0 r1 t0 t1 hb34
    replace HX := hid (HX.out.grow gz)
    clear gz
    clear k1
    have k2 := K2.out w2 HX.out.2.2.2.2.1
    obtain ⟨⟨m0, m1, m2⟩, -⟩ := HX.out.1.three
    obtain ⟨⟨n0, n1⟩, -⟩ := HX.out.2.1.two
    obtain ⟨⟨p0, p1, p2⟩, q0, q1, q2⟩ := HX.out.2.2.1.three
    obtain ⟨⟨r0, r1⟩, t0, t1⟩ := HX.out.2.2.2.1.two
    have hb34 : b3 < b4 := by have := HX.out.2.2.2.2.2; omega
    go_wp2_with fail
    refine k2.mono ?_
    rintro e w3 ⟨rfl, gz⟩
    clear m0 m1 m2 n0 n1 p0 p1 p2 q0 q1 q2 r0 r1 t0 t1 hb34
    replace HX := hid (HX.out.grow gz)
    clear gz
    clear k2 K2
    have k3 := K3.out w3 HX.out.2.2.2.2.1
    obtain ⟨⟨m0, m1, m2⟩, -⟩ := HX.out.1.three
    obtain ⟨⟨n0, n1⟩, -⟩ := HX.out.2.1.two
    obtain ⟨⟨p0, p1, p2⟩, q0, q1, q2⟩ := HX.out.2.2.1.three
    obtain ⟨⟨r0, r1⟩, t0, t1⟩ := HX.out.2.2.2.1.two
    have hb34 : b3 < b4 := by have := HX.out.2.2.2.2.2; omega
    go_wp2_with fail
    refine k3.mono ?_
    rintro e w4 ⟨rfl, gz⟩
    clear m0 m1 m2 n0 n1 p0 p1 p2 q0 q1 q2 r0 r1 t0 t1 hb34
    replace HX := hid (HX.out.grow gz)
    clear gz
    clear k3 K3
    obtain ⟨⟨m0, m1, m2⟩, -⟩ := HX.out.1.three
    obtain ⟨⟨n0, n1⟩, -⟩ := HX.out.2.1.two
    obtain ⟨⟨p0, p1, p2⟩, q0, q1, q2⟩ := HX.out.2.2.1.three
    obtain ⟨⟨r0, r1⟩, t0, t1⟩ := HX.out.2.2.2.1.two
    have hb34 : b3 < b4 := by have := HX.out.2.2.2.2.2; omega
    go_wp2
    have hF := HX.out.fin k n (.slice a L.length cc) 0 0
    exact bodyPost_ret_by (results_cct rfl _ _ _ _ _ _ rfl rfl (load_T b3 _ _ _ _ hF.1 rfl) (load_C b4 _ _ _ hF.2.1)) rfl ⟨rfl, hF.2.2.1⟩
  · have h8 : 1048576 ≤ n := by omega
    have HR := hid h
    have hll := RdS.len h
    unfold maxLen at hll
    obtain ⟨a, cc, rfl⟩ := RdS.shape h
    obtain ⟨W0, hW0⟩ : ∃ W0, W0 = ((((w.alloc (.cells #[.int .i64 k, .int .i64 n, .slice a L.length cc] 30)).alloc (.cells #[.int .i64 c.s, .int .i64 c.g] 33)).alloc (.cells #[.int .i64 0, .int .i64 0, .slice none 0 0] 30)).alloc (.cells #[.int .i64 0, .int .i64 0] 33)) := ⟨_, rfl⟩
    have HX := hid (MdAt.start w k n (.slice a L.length cc) c)
    rw [← hW0] at HX
    have HK := hid (fun need (hn : need < 16) u (hu : Grow w u) => rcheck_any k n (.slice a L.length cc) L c need u (HR.out.grow hu) hr hn)
    obtain ⟨b4, hb4⟩ : ∃ b4, b4 = w.heap.size + 3 := ⟨_, rfl⟩
    obtain ⟨b3, hb3⟩ : ∃ b3, b3 = w.heap.size + 2 := ⟨_, rfl⟩
    obtain ⟨b2, hb2⟩ : ∃ b2, b2 = w.heap.size + 1 := ⟨_, rfl⟩
    obtain ⟨b1, hb1⟩ : ∃ b1, b1 = w.heap.size := ⟨_, rfl⟩
    rw [← hb4, ← hb3, ← hb2, ← hb1] at HX
    have k1 := HK.out 8 (by omega) W0 HX.out.2.2.2.2.1
    rw [hE] at k1
    have K2 := hid (HK.out r hr16)
    rw [hF] at K2
    have K3 := hid (fun u (hu : Grow w u) => rfree_any k n (.slice a L.length cc) L u (HR.out.grow hu))
    clear HK hE h hr hr16 hF hfull
    generalize freeL L = q at K3 h7
    go_enter Try.func20, Try.ntmps20
    go_upto_region 1 with fail
    simp only [Nat.add_assoc, Nat.reduceAdd]
    rw [← hW0, ← hb4, ← hb3, ← hb2, ← hb1]
    clear hW0 hb4 hb3 hb2 hb1
    obtain ⟨⟨m0, m1, m2⟩, -⟩ := HX.out.1.three
    obtain ⟨⟨n0, n1⟩, -⟩ := HX.out.2.1.two
    obtain ⟨⟨p0, p1, p2⟩, q0, q1, q2⟩ := HX.out.2.2.1.three
    obtain ⟨⟨r0, r1⟩, t0, t1⟩ := HX.out.2.2.2.1.two
    have hb34 : b3 < b4 := by have := HX.out.2.2.2.2.2; omega
    go_wp2_with fail
    refine k1.mono ?_
    rintro e w2 ⟨rfl, gz⟩
    clear m0 m1 m2 n0 n1 p0 p1 p2 q0 q1 q2 r0 r1 t0 t1 hb34
    replace HX := hid (HX.out.grow gz)
    clear gz
    clear k1
    have k2 := K2.out w2 HX.out.2.2.2.2.1
    obtain ⟨⟨m0, m1, m2⟩, -⟩ := HX.out.1.three
    obtain ⟨⟨n0, n1⟩, -⟩ := HX.out.2.1.two
    obtain ⟨⟨p0, p1, p2⟩, q0, q1, q2⟩ := HX.out.2.2.1.three
    obtain ⟨⟨r0, r1⟩, t0, t1⟩ := HX.out.2.2.2.1.two
    have hb34 : b3 < b4 := by have := HX.out.2.2.2.2.2; omega
    go_wp2_with fail
    refine k2.mono ?_
    rintro e w3 ⟨rfl, gz⟩
    clear m0 m1 m2 n0 n1 p0 p1 p2 q0 q1 q2 r0 r1 t0 t1 hb34
    replace HX := hid (HX.out.grow gz)
    clear gz
    clear k2 K2
    have k3 := K3.out w3 HX.out.2.2.2.2.1
    obtain ⟨⟨m0, m1, m2⟩, -⟩ := HX.out.1.three
    obtain ⟨⟨n0, n1⟩, -⟩ := HX.out.2.1.two
    obtain ⟨⟨p0, p1, p2⟩, q0, q1, q2⟩ := HX.out.2.2.1.three
    obtain ⟨⟨r0, r1⟩, t0, t1⟩ := HX.out.2.2.2.1.two
    have hb34 : b3 < b4 := by have := HX.out.2.2.2.2.2; omega
    go_wp2_with fail
    refine k3.mono ?_
    rintro e w4 ⟨rfl, gz⟩
    clear m0 m1 m2 n0 n1 p0 p1 p2 q0 q1 q2 r0 r1 t0 t1 hb34
    replace HX := hid (HX.out.grow gz)
    clear gz
    clear k3 K3
    obtain ⟨⟨m0, m1, m2⟩, -⟩ := HX.out.1.three
    obtain ⟨⟨n0, n1⟩, -⟩ := HX.out.2.1.two
    obtain ⟨⟨p0, p1, p2⟩, q0, q1, q2⟩ := HX.out.2.2.1.three
    obtain ⟨⟨r0, r1⟩, t0, t1⟩ := HX.out.2.2.2.1.two
    have hb34 : b3 < b4 := by have := HX.out.2.2.2.2.2; omega
    go_wp2
    have hF := HX.out.fin k n (.slice a L.length cc) 0 0
    exact bodyPost_ret_by (results_cct rfl _ _ _ _ _ _ rfl rfl (load_T b3 _ _ _ _ hF.1 rfl) (load_C b4 _ _ _ hF.2.1)) rfl ⟨rfl, hF.2.2.1⟩

/-- while the document's list is laid anew -/
def MsAt (w wr : World) (b1 b2 b3 b4 b5 B : Nat) (k n : Int) (v : Value) (c : Cp) (q gg : Int) (r : Nat) (lv : Value) (M : List Sl) : Prop :=
  MdAt w wr b1 b2 b3 b4 k n v c ∧ VarAt wr b5 [.int .i64 q, .int .i64 gg, .int .i64 r] ∧ OwnS Sl.cs 3 (fun i => B ≤ i) wr lv M ∧ b5 < B ∧ w.heap.size + 4 ≤ b5 ∧ B ≤ wr.heap.size
theorem MsAt.turn {w wr w2 : World} {b1 b2 b3 b4 b5 B : Nat} {k n : Int} {v : Value} {c : Cp} {q gg : Int} {r : Nat} {lv lv' : Value} {M M' : List Sl} (h : MsAt w wr b1 b2 b3 b4 b5 B k n v c q gg r lv M) (ho : OwnS Sl.cs 3 (fun i => B ≤ i) w2 lv' M') (hu : UpdS (fun i => B ≤ i) wr w2) : MsAt w w2 b1 b2 b3 b4 b5 B k n v c q gg r lv' M' := by
  obtain ⟨h1, h2, h3, h4, h5, h6⟩ := h
  exact ⟨h1.upd hu (fun i hi => by omega), h2.upd hu (by omega), ho, h4, h5, Nat.le_trans h6 hu.size⟩
theorem MsAt.grow {w wr w2 : World} {b1 b2 b3 b4 b5 B : Nat} {k n : Int} {v : Value} {c : Cp} {q gg : Int} {r : Nat} {lv : Value} {M : List Sl} (h : MsAt w wr b1 b2 b3 b4 b5 B k n v c q gg r lv M) (g : Grow wr w2) : MsAt w w2 b1 b2 b3 b4 b5 B k n v c q gg r lv M :=
  ⟨h.1.grow g, h.2.1.grow g, h.2.2.1.grow g, h.2.2.2.1, h.2.2.2.2.1, Nat.le_trans h.2.2.2.2.2 g.size⟩

set_option maxRecDepth 8000 in
set_option maxHeartbeats 8000000 in
theorem rmint_5 {p : Nat → Prop} (k n : Int) (v : Value) (L : List Sl) (c : Cp) (s : Int) (w : World) (h : RdL p w v L) (hr : ∀ x ∈ L, x.r < 16) (r : Nat) (hE : chkL L c 8 = 0) (hr16 : r < 16) (hsr : s = r) (hF : chkL L c r = 0) (hL8 : L.length ≤ 8) (hL0 : 0 < L.length) (hfr : freeL L ≤ L.length) (hq7 : freeL L ≤ 7) (hk1 : 1 ≤ k) (hk2 : k ≤ 1073741824) (hn1 : 1 ≤ n) (hn2 : n < 1048576) :
    Calls Try.prog 20 #[.agg #[.int .i64 k, .int .i64 n, v], .agg #[.int .i64 c.s, .int .i64 c.g], .int .i64 s] w fun e w' => ∃ v', e = .returned (.tuple #[.agg #[.int .i64 k, .int .i64 (n + 1), v'], .agg #[.int .i64 (freeL L), .int .i64 (k * 1048576 + n)], .int .i64 0]) ∧ RdL (fun i => w.heap.size ≤ i) w' v' (L.take (freeL L) ++ ⟨freeL L, k * 1048576 + n, r⟩ :: L.drop (freeL L)) ∧ Grow w w' := by
  subst hsr
  have s0 : ¬ (r : Int) < 0 := by omega
  have s1 : ¬ (15 : Int) < (r : Int) := by omega
  have s2 : ¬ (7 : Int) < (freeL L : Int) := by omega
  have s3 : ¬ (1048576 : Int) ≤ n := by omega
  have hw1 : IntKind.i64.wrap (k * 1048576) = k * 1048576 := by rw [IntKind.wrap_i64]; omega
  obtain ⟨gg, hgg⟩ : ∃ gg, gg = k * 1048576 + n := ⟨_, rfl⟩
  have hw2 : IntKind.i64.wrap (k * 1048576 + n) = gg := by rw [IntKind.wrap_i64]; omega
  rw [← hgg]
  clear hgg
  have hw3 : IntKind.i64.wrap (n + 1) = n + 1 := by rw [IntKind.wrap_i64]; omega
  obtain ⟨i0, hi, hz0, hz1, hz2⟩ := info_parts infoS
  have HLL : Hid (L.length ≤ 8 ∧ 0 < L.length ∧ freeL L ≤ L.length) := ⟨hL8, hL0, hfr⟩
  have HR := hid h
  have hll := RdS.len h
  unfold maxLen at hll
  obtain ⟨a, cc, rfl⟩ := RdS.shape h
  obtain ⟨W0, hW0⟩ : ∃ W0, W0 = ((((w.alloc (.cells #[.int .i64 k, .int .i64 n, .slice a L.length cc] 30)).alloc (.cells #[.int .i64 c.s, .int .i64 c.g] 33)).alloc (.cells #[.int .i64 0, .int .i64 0, .slice none 0 0] 30)).alloc (.cells #[.int .i64 0, .int .i64 0] 33)) := ⟨_, rfl⟩
  have HX := hid (MdAt.start w k n (.slice a L.length cc) c)
  rw [← hW0] at HX
  have HK := hid (fun need (hn : need < 16) u (hu : Grow w u) => rcheck_any k n (.slice a L.length cc) L c need u (HR.out.grow hu) hr hn)
  obtain ⟨b4, hb4⟩ : ∃ b4, b4 = w.heap.size + 3 := ⟨_, rfl⟩
  obtain ⟨b3, hb3⟩ : ∃ b3, b3 = w.heap.size + 2 := ⟨_, rfl⟩
  obtain ⟨b2, hb2⟩ : ∃ b2, b2 = w.heap.size + 1 := ⟨_, rfl⟩
  obtain ⟨b1, hb1⟩ : ∃ b1, b1 = w.heap.size := ⟨_, rfl⟩
  rw [← hb4, ← hb3, ← hb2, ← hb1] at HX
  have k1 := HK.out 8 (by omega) W0 HX.out.2.2.2.2.1
  rw [hE] at k1
  have K2 := hid (HK.out r hr16)
  rw [hF] at K2
  have K3 := hid (fun u (hu : Grow w u) => rfree_any k n (.slice a L.length cc) L u (HR.out.grow hu))
  clear HK hE h hr hr16 hF hk1 hk2 hn1 hn2
  generalize freeL L = q at K3 s2 hfr hq7 HLL ⊢
  have HQ : Hid (q ≤ L.length) := hfr
  have hadr : ∃ bL oL, a = some ⟨bL, oL, none⟩ := by
    obtain ⟨bL, oL, e, -⟩ := rdL_at HR.out HLL.out.2.1
    exact ⟨bL, oL, e⟩
  obtain ⟨bL, oL, ha⟩ := hadr
  subst ha
  obtain ⟨VT, hvt, hrt⟩ := slice_to HR.out q HQ.out
  obtain ⟨VD, hvd, hrd⟩ := slice_from HR.out q HQ.out
  have HRT := hid hrt
  have HRD := hid hrd
  clear hrt hrd hL8 hL0 hfr hq7
  go_enter Try.func20, Try.ntmps20
  go_upto_region 1 with fail
  simp only [Nat.add_assoc, Nat.reduceAdd]
  rw [← hW0, ← hb4, ← hb3, ← hb2, ← hb1]
  clear hW0 hb4 hb3 hb2 hb1
  obtain ⟨⟨m0, m1, m2⟩, -⟩ := HX.out.1.three
  obtain ⟨⟨n0, n1⟩, -⟩ := HX.out.2.1.two
  obtain ⟨⟨p0, p1, p2⟩, q0, q1, q2⟩ := HX.out.2.2.1.three
  obtain ⟨⟨r0, r1⟩, t0, t1⟩ := HX.out.2.2.2.1.two
  have hb34 : b3 < b4 := by have := HX.out.2.2.2.2.2; omega
  go_wp2_with fail
  refine k1.mono ?_
  rintro e w2 ⟨rfl, gz⟩
  clear m0 m1 m2 n0 n1 p0 p1 p2 q0 q1 q2 r0 r1 t0 t1 hb34
  replace HX := hid (HX.out.grow gz)
  clear gz
  clear k1
  have k2 := K2.out w2 HX.out.2.2.2.2.1
  obtain ⟨⟨m0, m1, m2⟩, -⟩ := HX.out.1.three
  obtain ⟨⟨n0, n1⟩, -⟩ := HX.out.2.1.two
  obtain ⟨⟨p0, p1, p2⟩, q0, q1, q2⟩ := HX.out.2.2.1.three
  obtain ⟨⟨r0, r1⟩, t0, t1⟩ := HX.out.2.2.2.1.two
  have hb34 : b3 < b4 := by have := HX.out.2.2.2.2.2; omega
  go_wp2_with fail
  refine k2.mono ?_
  rintro e w3 ⟨rfl, gz⟩
  clear m0 m1 m2 n0 n1 p0 p1 p2 q0 q1 q2 r0 r1 t0 t1 hb34
  replace HX := hid (HX.out.grow gz)
  clear gz
  clear k2 K2
  have k3 := K3.out w3 HX.out.2.2.2.2.1
  obtain ⟨⟨m0, m1, m2⟩, -⟩ := HX.out.1.three
  obtain ⟨⟨n0, n1⟩, -⟩ := HX.out.2.1.two
  obtain ⟨⟨p0, p1, p2⟩, q0, q1, q2⟩ := HX.out.2.2.1.three
  obtain ⟨⟨r0, r1⟩, t0, t1⟩ := HX.out.2.2.2.1.two
  have hb34 : b3 < b4 := by have := HX.out.2.2.2.2.2; omega
  go_wp2_with fail
  refine k3.mono ?_
  rintro e w4 ⟨rfl, gz⟩
  clear m0 m1 m2 n0 n1 p0 p1 p2 q0 q1 q2 r0 r1 t0 t1 hb34
  replace HX := hid (HX.out.grow gz)
  clear gz
  clear k3 K3
  obtain ⟨⟨m0, m1, m2⟩, -⟩ := HX.out.1.three
  obtain ⟨⟨n0, n1⟩, -⟩ := HX.out.2.1.two
  obtain ⟨⟨p0, p1, p2⟩, q0, q1, q2⟩ := HX.out.2.2.1.three
  obtain ⟨⟨r0, r1⟩, t0, t1⟩ := HX.out.2.2.2.1.two
  have hb34 : b3 < b4 := by have := HX.out.2.2.2.2.2; omega
  obtain ⟨W5, hW5⟩ : ∃ W5, W5 = w4.alloc (.cells #[.int .i64 q, .int .i64 gg, .int .i64 r] 49) := ⟨_, rfl⟩
  obtain ⟨b5, hb5⟩ : ∃ b5, b5 = w4.heap.size := ⟨_, rfl⟩
  obtain ⟨B, hB⟩ : ∃ B, B = W5.heap.size := ⟨_, rfl⟩
  have HS : Hid (MsAt w W5 b1 b2 b3 b4 b5 B k n (.slice (some ⟨bL, oL, none⟩) L.length cc) c q gg r (.slice none 0 0) []) := by
    have hsz : W5.heap.size = w4.heap.size + 1 := by rw [hW5]; exact World.size_alloc _ _
    have h4l := HX.out.2.2.2.1.lt
    have hv : VarAt W5 b5 [.int .i64 q, .int .i64 gg, .int .i64 r] := by rw [hW5, hb5]; exact VarAt.new w4 [.int .i64 q, .int .i64 gg, .int .i64 r] _
    refine ⟨HX.out.grow (by rw [hW5]; exact (Grow.refl w4).alloc _), hv, OwnS.nil _ _ _ _ _, by omega, by have := HX.out.2.2.2.2.2; omega, by omega⟩
  go_upto_region 13 with fail
  clear m0 m1 m2 n0 n1 p0 p1 p2 q0 q1 q2 r0 r1 t0 t1 hb34
  clear HX hB
  rw [← hW5, ← hb5]
  clear hW5 hb5
  obtain ⟨⟨m0, m1, m2⟩, -⟩ := HS.out.1.1.three
  have hl1 : (L.take q).length ≤ 8 := by rw [List.length_take]; have := HLL.out.1; omega
  go_wp2_with (at_builtin; refine wpList_appS (f := Sl.cs) (k := 3) rfl (.tmp 59) (.tmp 63) 28 28 rfl slk (by omega) i0 (.agg #[.int .i64 0, .int .i64 0, .int .i64 0]) 24 Try.underlying28 hi hz0 hz1 hz2 rfl rfl rfl HS.out.2.2.1 (srcL (HRT.out.grow HS.out.1.2.2.2.2.1)) (by simp only [maxLen, List.length_nil]; omega) (by simp only [List.length_nil]; omega) ?_)
  intro v6 w6 ho6 hu6
  replace HS := hid (HS.out.turn (ho6.mono (fun i _ hi => hi.elim (fun h => h) (fun h => by have := HS.out.2.2.2.2.2; omega))) hu6)
  clear ho6 hu6 m0 m1 m2
  obtain ⟨⟨x0, x1, x2⟩, -⟩ := HS.out.2.1.three
  have ho := HS.out.2.2.1.grow ((Grow.refl w6).alloc (.cells #[.int .i64 q, .int .i64 gg, .int .i64 r] 49))
  have hs := srcL (rdL_new w6 q gg r r rfl)
  obtain ⟨a6, c6, hv6⟩ := ho.shape
  subst hv6
  go_wp2_with (at_builtin; refine wpList_appS (f := Sl.cs) (k := 3) rfl (.tmp 65) (.tmp 67) 28 28 rfl slk (by omega) i0 (.agg #[.int .i64 0, .int .i64 0, .int .i64 0]) 24 Try.underlying28 hi hz0 hz1 hz2 rfl rfl rfl ho hs (by simp only [maxLen, List.length_singleton]; omega) (by simp only [List.length_singleton]; omega) ?_)
  intro v7 w7 ho7 hu7
  have hsz7 : (w6.alloc (.cells #[.int .i64 q, .int .i64 gg, .int .i64 r] 49)).heap.size = w6.heap.size + 1 := World.size_alloc _ _
  replace HS := hid ((HS.out.grow ((Grow.refl w6).alloc (.cells #[.int .i64 q, .int .i64 gg, .int .i64 r] 49))).turn (ho7.mono (fun i _ hi => hi.elim (fun h => h) (fun h => by have := HS.out.2.2.2.2.2; omega))) hu7)
  clear ho7 hu7 hs ho hsz7 x0 x1 x2
  obtain ⟨⟨m0, m1, m2⟩, -⟩ := HS.out.1.1.three
  have hl2 : (L.take q ++ [(⟨q, gg, r⟩ : Sl)]).length ≤ 9 := by rw [List.length_append, List.length_singleton]; omega
  have hl3 : (L.drop q).length ≤ 8 := by rw [List.length_drop]; have := HLL.out.1; omega
  obtain ⟨a7, c7, hv7⟩ := HS.out.2.2.1.shape
  subst hv7
  go_wp2_with (at_builtin; refine wpList_appS (f := Sl.cs) (k := 3) rfl (.tmp 69) (.tmp 73) 28 28 rfl slk (by omega) i0 (.agg #[.int .i64 0, .int .i64 0, .int .i64 0]) 24 Try.underlying28 hi hz0 hz1 hz2 rfl rfl rfl HS.out.2.2.1 (srcL (HRD.out.grow HS.out.1.2.2.2.2.1)) (by simp only [maxLen]; omega) (by omega) ?_)
  intro v8 w8 ho8 hu8
  replace HS := hid (HS.out.turn (ho8.mono (fun i _ hi => hi.elim (fun h => h) (fun h => by have := HS.out.2.2.2.2.2; omega))) hu8)
  clear ho8 hu8 m0 m1 m2 hl1 hl2 hl3 hvt hvd
  obtain ⟨a8, c8, hv8⟩ := HS.out.2.2.1.shape
  subst hv8
  obtain ⟨M, hM⟩ : ∃ M : List Sl, M = L.take q ++ ⟨q, gg, r⟩ :: L.drop q := ⟨_, rfl⟩
  have HMM : Hid (∀ (p : Nat → Prop) (w : World) (v : Value), RdL p w v M → RdL p w v (L.take q ++ ⟨q, gg, r⟩ :: L.drop q)) := fun p w v h => by rw [← hM]; exact h
  rw [← hM] at HS ⊢
  clear hM
  have HD := hid (HS.out.grow (Grow.refl _).drew)
  obtain ⟨⟨m0, m1, m2⟩, -⟩ := HD.out.1.1.three
  obtain ⟨⟨x0, x1, x2⟩, -⟩ := HD.out.2.1.three
  have fz : ∀ w', UpdS (fun i => i = b3 ∨ i = b4) w8.drew w' → (w'.cell? ⟨b1, 0, none⟩ = some (.int .i64 k) ∧ w'.cell? ⟨b1, 1, none⟩ = some (.int .i64 n)) ∧ (w'.cell? ⟨b5, 0, none⟩ = some (.int .i64 q) ∧ w'.cell? ⟨b5, 1, none⟩ = some (.int .i64 gg)) := fun w' hu => by
    have hA := (HD.out.1.1.upd hu (by have := HD.out.1.2.2.2.2.2; omega)).three.1
    have hB := (HD.out.2.1.upd hu (by have := HD.out.1.2.2.2.2.2; have := HD.out.2.2.2.2.1; omega)).three.1
    exact ⟨⟨hA.1, hA.2.1⟩, hB.1, hB.2.1⟩
  clear m0 m1 m2 x0 x1 x2 HS
  go_wp2
  refine wp_region_schedG (UpdS (fun i => i = b3 ∨ i = b4)) (UpdS.refl _) (fun _ _ _ => UpdS.trans) (by kernel_rfl) [(0, false), (1, false), (2, false), (3, false), (4, false), (5, false), (6, false), (7, false), (8, false), (9, true), (10, true), (11, false)] (by kernel_rfl) (by kernel_rfl) rfl (fun _ _ d _ _ h => by cases d <;> exact h) ?_
  simp only [inOrder, List.filterMap_cons, List.filterMap_nil, List.getElem?_toArray, List.getElem?_cons_zero, List.getElem?_cons_succ, Option.map_some]
  generalize w8.drew = u8 at HD fz ⊢
  repeat (first
    | (refine wpS_move rfl ?_; simp only [Act.eval, Act.put, Array.getD_eq_getD_getElem?, List.getElem?_toArray, List.getElem?_cons_zero, List.getElem?_cons_succ, Option.getD_some, List.setIfInBounds_toArray, List.set_cons_zero, List.set_cons_succ])
    | (refine wpS_assign rfl ?_; simp only [Act.eval, Act.put, Array.getD_eq_getD_getElem?, List.getElem?_toArray, List.getElem?_cons_zero, List.getElem?_cons_succ, Option.getD_some, List.setIfInBounds_toArray, List.set_cons_zero, List.set_cons_succ])
    | (refine wpS_read (v := ?_) rfl ?_ ?_; rotate_left; (focus (intro w' hG; obtain ⟨⟨y0, y1⟩, y2, y3⟩ := fz w' hG; go_simp; try (with_reducible rfl))); simp only [Act.put, List.setIfInBounds_toArray, List.set_cons_zero, List.set_cons_succ])
    | (refine wpS_skip rfl ?_; simp only [Act.put, List.setIfInBounds_toArray, List.set_cons_zero, List.set_cons_succ]))
  have hF := HD.out.1.fin k (n + 1) (.slice a8 M.length c8) q gg
  have hb34 : b3 < b4 := by have := HD.out.1.2.2.2.2.2; omega
  obtain ⟨⟨p0, p1, p2⟩, q0, q1, q2⟩ := HD.out.1.2.2.1.three
  obtain ⟨⟨r0, r1⟩, t0, t1⟩ := HD.out.1.2.2.2.1.two
  refine wpS_store (w' := ((u8.setCell ⟨b3, 0, none⟩ (.int .i64 k)).setCell ⟨b3, 1, none⟩ (.int .i64 (n + 1))).setCell ⟨b3, 2, none⟩ (.slice a8 M.length c8)) (by rfl) ?_ ?_ ?_
  · go_simp
  · exact (upd_three' u8 b3 _ _ _).mono (fun i hi => .inl hi)
  simp only [Act.put, List.setIfInBounds_toArray, List.set_cons_zero, List.set_cons_succ]
  refine wpS_store (w' := endM u8 b3 b4 k (n + 1) (.slice a8 M.length c8) q gg) (by rfl) ?_ ?_ ?_
  · unfold endM; go_simp
  · exact (upd_pair _ b4 _ _).mono (fun i hi => .inr hi)
  simp only [Act.put, List.setIfInBounds_toArray, List.set_cons_zero, List.set_cons_succ]
  have hLv : OwnS Sl.cs 3 (fun i => B ≤ i) (endM u8 b3 b4 k (n + 1) (.slice a8 M.length c8) q gg) (.slice a8 M.length c8) M := HD.out.2.2.1.upd hF.2.2.2 (fun i _ hi e => by have := HD.out.1.2.2.2.2.2; have := HD.out.2.2.2.1; have := HD.out.2.2.2.2.1; omega)
  have HF : Hid (VarAt (endM u8 b3 b4 k (n + 1) (.slice a8 M.length c8) q gg) b3 [.int .i64 k, .int .i64 (n + 1), .slice a8 M.length c8] ∧ VarAt (endM u8 b3 b4 k (n + 1) (.slice a8 M.length c8) q gg) b4 [.int .i64 q, .int .i64 gg] ∧ Grow w (endM u8 b3 b4 k (n + 1) (.slice a8 M.length c8) q gg) ∧ RdL (fun i => w.heap.size ≤ i) (endM u8 b3 b4 k (n + 1) (.slice a8 M.length c8) q gg) (.slice a8 M.length c8) M) := ⟨hF.1, hF.2.1, hF.2.2.1, RdS.mono hLv.rd (fun i _ hi => by have := HD.out.2.2.2.1; have := HD.out.2.2.2.2.1; omega)⟩
  clear hLv hF p0 p1 p2 q0 q1 q2 r0 r1 t0 t1 fz HD hb34
  generalize endM u8 b3 b4 k (n + 1) (.slice a8 M.length c8) q gg = w9 at HF ⊢
  repeat (first
    | (refine wpS_move rfl ?_; simp only [Act.eval, Act.put, Array.getD_eq_getD_getElem?, List.getElem?_toArray, List.getElem?_cons_zero, List.getElem?_cons_succ, Option.getD_some, List.setIfInBounds_toArray, List.set_cons_zero, List.set_cons_succ])
    | (refine wpS_assign rfl ?_; simp only [Act.eval, Act.put, Array.getD_eq_getD_getElem?, List.getElem?_toArray, List.getElem?_cons_zero, List.getElem?_cons_succ, Option.getD_some, List.setIfInBounds_toArray, List.set_cons_zero, List.set_cons_succ])
    | (refine wpS_read (v := ?_) rfl ?_ ?_; rotate_left; (focus (intro w' hG; go_simp; try (with_reducible rfl))); simp only [Act.put, List.setIfInBounds_toArray, List.set_cons_zero, List.set_cons_succ])
    | (refine wpS_skip rfl ?_; simp only [Act.put, List.setIfInBounds_toArray, List.set_cons_zero, List.set_cons_succ]))
  refine wpS_nil ?_
  go_wp2
  exact bodyPost_ret_by (results_cct rfl _ _ _ _ _ _ rfl rfl (load_T b3 _ _ _ _ HF.out.1 rfl) (load_C b4 _ _ _ HF.out.2.1)) rfl ⟨_, rfl, HMM.out _ _ _ HF.out.2.2.2, HF.out.2.2.1⟩
end Go.Proofs.Ytoobohbghobfhaa
