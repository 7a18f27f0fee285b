/-
  The walks of Clone and the law's odd. Conditions: each theorem's own.
-/
import Derived.Test.YtaieepbfccdmiaaCfgFew
namespace Go.Proofs.Ytaieepbfccdmiaa
open Go.RowKit
set_option linter.unusedVariables false
set_option linter.unusedSimpArgs false

set_option maxHeartbeats 4000000 in
theorem clone_any {p : Nat → Prop} (fr dp se : Int) (v : Value) (ps : List Pt) (w : World) (h : RdP p w v ps) (hlen : ps.length ≤ 100000000) :
    Calls Try.prog 20 #[.agg #[.int .i64 fr, .int .i64 dp, .int .i64 se, v]] w fun e w' => ∃ v', e = .returned (.agg #[.int .i64 fr, .int .i64 dp, .int .i64 se, v']) ∧ OwnP (fun i => w.heap.size ≤ i) w' v' ps ∧ Grow w w' := by
  obtain ⟨i0, hinf, hz0, hz1, hz2⟩ := info_parts infoP
  have HI : Hid (VarAt ((w.alloc (.cells #[.int .i64 fr, .int .i64 dp, .int .i64 se, v] 24)).alloc (.cells #[.int .i64 (0 : Int), .int .i64 (0 : Int), .int .i64 (0 : Int), .slice none 0 0] 24)) w.heap.size [.int .i64 fr, .int .i64 dp, .int .i64 se, v] ∧ VarAt ((w.alloc (.cells #[.int .i64 fr, .int .i64 dp, .int .i64 se, v] 24)).alloc (.cells #[.int .i64 (0 : Int), .int .i64 (0 : Int), .int .i64 (0 : Int), .slice none 0 0] 24)) (w.heap.size + 1) [.int .i64 (0 : Int), .int .i64 (0 : Int), .int .i64 (0 : Int), .slice none 0 0] ∧ Grow w ((w.alloc (.cells #[.int .i64 fr, .int .i64 dp, .int .i64 se, v] 24)).alloc (.cells #[.int .i64 (0 : Int), .int .i64 (0 : Int), .int .i64 (0 : Int), .slice none 0 0] 24))) := two_new
  have HR : Hid (RdP p w v ps) := h
  obtain ⟨a, cp, rfl, h1, h2, -⟩ := h
  unfold maxLen at h2
  go_enter Try.func20, Try.ntmps20
  go_wp2_with (at_make; refine wpList_makeS (f := Pt.cs) (k := 3) rfl (.tmp 6) (.tmp 6) 22 rfl Pt.zero 35 i0 (.agg #[.int .i64 0, .int .i64 0, .int .i64 0]) Try.underlying22 hinf hz0 rfl 24 Pt.cs_length hz1 hz2 .i64 .i64 _ ps.length rfl rfl rfl hlen (by omega) ?_)
  intro v1 w1 ho1 hg1 hlt1
  have X : Hid (VarAt w1 w.heap.size [.int .i64 fr, .int .i64 dp, .int .i64 se, .slice a ps.length cp] ∧ VarAt w1 (w.heap.size + 1) [.int .i64 (0 : Int), .int .i64 (0 : Int), .int .i64 (0 : Int), .slice none 0 0] ∧ Grow w w1) := ⟨HI.out.1.grow hg1, HI.out.2.1.grow hg1, HI.out.2.2.trans hg1⟩
  have hs1 := HR.out.grow X.out.2.2
  obtain ⟨a1, c1, hv1⟩ := ho1.shape
  rw [List.length_replicate] at hv1
  subst hv1
  obtain ⟨w2, hrun, ho2, hu2⟩ := run_copyS (P := Try.prog) 22 22 3 35 i0 Pt.cs_length Try.underlying22 hinf hz1 ho1 hs1 (by simp) Pt.cs_one
  have HO : Hid (OwnP (fun i => i = w.heap.size + 1 + 1) w2 (.slice a1 ps.length c1) ps) := OwnS.mono ho2 (fun i _ h => by simpa using h)
  have HU : Hid (UpdS (fun i => i = w.heap.size + 1 + 1) w1 w2) := hu2.mono (fun i h => by simpa using h)
  clear ho1 hg1 hlt1 hs1 ho2 hu2
  have Y : Hid (VarAt w2 w.heap.size [.int .i64 fr, .int .i64 dp, .int .i64 se, .slice a ps.length cp] ∧ VarAt w2 (w.heap.size + 1) [.int .i64 (0 : Int), .int .i64 (0 : Int), .int .i64 (0 : Int), .slice none 0 0] ∧ Grow w w2) := ⟨X.out.1.upd HU.out (by omega), X.out.2.1.upd HU.out (by omega), UpdS.new X.out.2.2 HU.out (fun i hi => by omega)⟩
  obtain ⟨⟨k0, k1, k2, k3⟩, -⟩ := X.out.1.four
  obtain ⟨⟨m0, m1, m2, m3⟩, f0, f1, f2, f3⟩ := Y.out.1.four
  obtain ⟨⟨n0, n1, n2, n3⟩, g0, g1, g2, g3⟩ := Y.out.2.1.four
  go_wp2
  have hU := (upd_one w2 w.heap.size 3 (.slice a1 ps.length c1)).mono (S' := fun i => i = w.heap.size ∨ i = w.heap.size + 1) (fun i hi => .inl hi)
  have hU2 := hU.trans ((upd_four (w2.setCell ⟨w.heap.size, 3, none⟩ (.slice a1 ps.length c1)) (w.heap.size + 1) (.int .i64 fr) (.int .i64 dp) (.int .i64 se) (.slice a1 ps.length c1)).mono (S' := fun i => i = w.heap.size ∨ i = w.heap.size + 1) (fun i hi => .inr hi))
  refine bodyPost_ret_by (results_cell rfl _ _ _ (.agg #[.int .i64 fr, .int .i64 dp, .int .i64 se, .slice a1 ps.length c1]) rfl (load_G (w.heap.size + 1) fr dp se _ _ ((Y.out.2.1.upd (upd_one w2 w.heap.size 3 _) (by omega)).set4 _ _ _ _) rfl)) rfl ⟨_, rfl, ?_, UpdS.new Y.out.2.2 hU2 (fun i hi => by omega)⟩
  exact OwnS.mono (OwnS.upd HO.out hU2 (fun i _ hi => by omega)) (fun i _ hi => by omega)

set_option maxHeartbeats 8000000 in
theorem odd_any {p : Nat → Prop} (fr dp se : Int) (v : Value) (ps : List Pt) (which n : Int) (w : World) (h : RdP p w v ps) (hlen : ps.length ≤ 1000) (hwh : W64 which) :
    Calls Try.prog 11 #[.agg #[.int .i64 fr, .int .i64 dp, .int .i64 se, v], .int .i64 which, .int .i64 n] w fun e w' => ∃ fr' dp' se' v' ps', e = .returned (.agg #[.int .i64 fr', .int .i64 dp', .int .i64 se', v']) ∧ RdP (fun i => w.heap.size ≤ i) w' v' ps' ∧ ps'.length = ps.length ∧ Grow w w' := by
  obtain ⟨i0, hinf, hz0, hz1, hz2⟩ := info_parts infoP
  have HI : Hid (VarAt ((w.alloc (.cells #[.int .i64 fr, .int .i64 dp, .int .i64 se, v] 24)).alloc (.cells #[.int .i64 (0 : Int), .int .i64 (0 : Int), .int .i64 (0 : Int), .slice none 0 0] 24)) w.heap.size [.int .i64 fr, .int .i64 dp, .int .i64 se, v] ∧ VarAt ((w.alloc (.cells #[.int .i64 fr, .int .i64 dp, .int .i64 se, v] 24)).alloc (.cells #[.int .i64 (0 : Int), .int .i64 (0 : Int), .int .i64 (0 : Int), .slice none 0 0] 24)) (w.heap.size + 1) [.int .i64 (0 : Int), .int .i64 (0 : Int), .int .i64 (0 : Int), .slice none 0 0] ∧ Grow w ((w.alloc (.cells #[.int .i64 fr, .int .i64 dp, .int .i64 se, v] 24)).alloc (.cells #[.int .i64 (0 : Int), .int .i64 (0 : Int), .int .i64 (0 : Int), .slice none 0 0] 24))) := two_new
  have hsrc : Src Try.prog 3 22 v ps.length (ps.flatMap Pt.cs) ((w.alloc (.cells #[.int .i64 fr, .int .i64 dp, .int .i64 se, v] 24)).alloc (.cells #[.int .i64 (0 : Int), .int .i64 (0 : Int), .int .i64 (0 : Int), .slice none 0 0] 24)) := (h.grow HI.out.2.2).src Pt.cs_length Pt.cs_one Try.underlying22
  obtain ⟨a, cp, rfl, h1, h2, -⟩ := h
  unfold maxLen at h2
  have hmul : IntKind.i64.wrap (3 * (ps.length : Int)) = 3 * (ps.length : Int) := by rw [IntKind.wrap_i64]; omega
  have hadd : IntKind.i64.wrap (3 + 3 * (ps.length : Int)) = 3 + 3 * (ps.length : Int) := by rw [IntKind.wrap_i64]; omega
  have har := fun w' => around_any which (3 + 3 * (ps.length : Int)) w' (wf_of hwh) (by omega) (by omega)
  have hK := around_bd which (3 + 3 * (ps.length : Int)) (by omega)
  generalize around which (3 + 3 * (ps.length : Int)) = K at har hK
  go_enter Try.func11, Try.ntmps11
  go_wp2_with (at_builtin; refine wpList_appS (f := Pt.cs) (k := 3) (p := fun _ => False) rfl (.tmp 10) (.tmp 12) 22 22 rfl Pt.cs_length (by omega) i0 (.agg #[.int .i64 0, .int .i64 0, .int .i64 0]) 24 Try.underlying22 hinf hz0 hz1 hz2 rfl rfl rfl (OwnS.nil _ _ _ _ _) hsrc (by simp only [maxLen, List.length_nil]; omega) (by simp only [List.length_nil]; omega) ?_)
  intro v3 w3 ho3 hu3
  have Ho : Hid (OwnP (fun i => i = w.heap.size + 2) w3 v3 ps) := OwnS.mono ho3 (fun i _ hi' => by
    have e : i = w.heap.size + 1 + 1 := hi'
    omega)
  obtain ⟨a3, c3, rfl⟩ := ho3.shape
  have hu4 := UpdS.new (Grow.refl _) hu3 (fun i hi => hi.elim)
  have X : Hid (VarAt w3 w.heap.size [.int .i64 fr, .int .i64 dp, .int .i64 se, .slice a ps.length cp] ∧ VarAt w3 (w.heap.size + 1) [.int .i64 (0 : Int), .int .i64 (0 : Int), .int .i64 (0 : Int), .slice none 0 0] ∧ Grow w w3) := ⟨HI.out.1.grow hu4, HI.out.2.1.grow hu4, HI.out.2.2.trans hu4⟩
  clear ho3 hu3 hu4 hsrc HI hinf hz0 hz1 hz2
  obtain ⟨b1, hb1⟩ : ∃ b1, b1 = w.heap.size := ⟨_, rfl⟩
  obtain ⟨b2, hb2⟩ : ∃ b2, b2 = w.heap.size + 1 := ⟨_, rfl⟩
  obtain ⟨g, hg⟩ : ∃ g, g = w.heap.size + 2 := ⟨_, rfl⟩
  rw [← hg] at Ho
  rw [← hb2, ← hb1] at X
  have X2 : Hid (VarAt (w3.setCell ⟨b1, 3, none⟩ (.slice a3 ps.length c3)) b1 [.int .i64 fr, .int .i64 dp, .int .i64 se, .slice a3 ps.length c3] ∧ VarAt (w3.setCell ⟨b1, 3, none⟩ (.slice a3 ps.length c3)) b2 [.int .i64 (0 : Int), .int .i64 (0 : Int), .int .i64 (0 : Int), .slice none 0 0] ∧ OwnP (fun i => i = g) (w3.setCell ⟨b1, 3, none⟩ (.slice a3 ps.length c3)) (.slice a3 ps.length c3) ps ∧ Grow w (w3.setCell ⟨b1, 3, none⟩ (.slice a3 ps.length c3))) :=
    ⟨X.out.1.set 3 _, X.out.2.1.upd (upd_one w3 b1 3 _) (by omega), OwnS.upd Ho.out (upd_one w3 b1 3 _) (fun i _ hi => by omega), UpdS.new X.out.2.2 (upd_one w3 b1 3 _) (fun i hi => by omega)⟩
  rw [← hb2, ← hb1]
  have HB : Hid (b1 = w.heap.size ∧ b2 = w.heap.size + 1 ∧ g = w.heap.size + 2) := ⟨hb1, hb2, hg⟩
  clear hb1 hb2 hg Ho
  obtain ⟨⟨m0, m1, m2, m3⟩, f0, f1, f2, f3⟩ := X.out.1.four
  go_wp2_with fail
  clear m0 m1 m2 m3 f0 f1 f2 f3 X
  generalize w3.setCell ⟨b1, 3, none⟩ (.slice a3 ps.length c3) = w4 at X2 ⊢
  refine (har _).mono ?_
  rintro e w' ⟨rfl, rfl⟩
  clear har w3
  obtain ⟨⟨m0, m1, m2, m3⟩, f0, f1, f2, f3⟩ := X2.out.1.four
  by_cases e0 : K = 0
  · skip
    have hq0 : (K == 0) = true := by simp; omega
    have hq1 : (K == 1) = false := by simp; omega
    have hq2 : (K == 2) = false := by simp; omega
    have X3 : Hid (VarAt (w4.setCell ⟨b1, 0, none⟩ (.int .i64 n)) b1 [.int .i64 n, .int .i64 dp, .int .i64 se, .slice a3 ps.length c3] ∧ VarAt (w4.setCell ⟨b1, 0, none⟩ (.int .i64 n)) b2 [.int .i64 (0 : Int), .int .i64 (0 : Int), .int .i64 (0 : Int), .slice none 0 0] ∧ OwnP (fun i => i = g) (w4.setCell ⟨b1, 0, none⟩ (.int .i64 n)) (.slice a3 ps.length c3) ps ∧ Grow w (w4.setCell ⟨b1, 0, none⟩ (.int .i64 n))) :=
      ⟨X2.out.1.set 0 _, X2.out.2.1.upd (upd_one w4 b1 0 _) (by have := HB.out; omega), OwnS.upd X2.out.2.2.1 (upd_one w4 b1 0 _) (fun i _ hi => by have := HB.out; omega), UpdS.new X2.out.2.2.2 (upd_one w4 b1 0 _) (fun i hi => by have := HB.out; omega)⟩
    go_wp2
    clear m0 m1 m2 m3 f0 f1 f2 f3 X2
    generalize (w4.setCell ⟨b1, 0, none⟩ (.int .i64 n)) = w5 at X3 ⊢
    go_loopg [9] ps.length (fun m iv wr => ∃ (j : Nat) (qs : List Pt), m = ps.length - j ∧ j ≤ ps.length ∧ iv = .int .i64 j ∧ Hid (VarAt wr b1 [.int .i64 n, .int .i64 dp, .int .i64 se, .slice a3 ps.length c3] ∧ VarAt wr b2 [.int .i64 (0 : Int), .int .i64 (0 : Int), .int .i64 (0 : Int), .slice none 0 0] ∧ OwnP (fun i => i = g) wr (.slice a3 ps.length c3) qs ∧ qs.length = ps.length ∧ Grow w wr))
    case atStart => exact ⟨0, ps, by omega, by omega, rfl, X3.out.1, X3.out.2.1, X3.out.2.2.1, rfl, X3.out.2.2.2⟩
    case round =>
      clear X3
      obtain ⟨j, qs, hk, hj, rfl, Y⟩ := hrel
      by_cases hlt : j < ps.length
      · have hle : (j : Int) < (ps.length : Int) := by omega
        have HL : Hid (j < ps.length ∧ gk = ps.length - j) := ⟨hlt, hk⟩
        have hw1 : IntKind.i64.wrap ((j : Int) + 1) = (j : Int) + 1 := by rw [IntKind.wrap_i64]; omega
        have hw2 : IntKind.i64.wrap (3 * (j : Int)) = 3 * (j : Int) := by rw [IntKind.wrap_i64]; omega
        have hw3 : IntKind.i64.wrap (3 + 3 * (j : Int)) = 3 + 3 * (j : Int) := by rw [IntKind.wrap_i64]; omega
        have hw4 : IntKind.i64.wrap (4 + 3 * (j : Int)) = 4 + 3 * (j : Int) := by rw [IntKind.wrap_i64]; omega
        have hw5 : IntKind.i64.wrap (5 + 3 * (j : Int)) = 5 + 3 * (j : Int) := by rw [IntKind.wrap_i64]; omega
        have hp0 : (K == 3 + 3 * (j : Int)) = false := by simp; omega
        have hp1 : (K == 4 + 3 * (j : Int)) = false := by simp; omega
        have hp2 : (K == 5 + 3 * (j : Int)) = false := by simp; omega
        clear hk hj hlt
        go_wp2
        go_roundg (ps.length - (j + 1))
        case measure => have := HL.out; omega
        case rel => exact ⟨j + 1, qs, rfl, HL.out.1, by go_num, Y⟩
      · have hle : ¬ (j : Int) < (ps.length : Int) := by omega
        obtain ⟨⟨m0, m1, m2, m3⟩, -⟩ := Y.out.1.four
        obtain ⟨⟨n0, n1, n2, n3⟩, g0, g1, g2, g3⟩ := Y.out.2.1.four
        go_wp2
        refine bodyPost_ret_by (results_cell rfl _ _ _ (.agg #[.int .i64 n, .int .i64 dp, .int .i64 se, .slice a3 ps.length c3]) rfl (load_G b2 n dp se _ _ (Y.out.2.1.set4 _ _ _ _) rfl)) rfl ⟨_, _, _, _, rfl, qs, ?_, Y.out.2.2.2.1, UpdS.new Y.out.2.2.2.2 (upd_four wr b2 _ _ _ _) (fun i hi => by have := HB.out; omega)⟩
        exact RdS.mono (RdS.upd Y.out.2.2.1.rd (upd_four wr b2 _ _ _ _) (fun i _ hi => by have := HB.out; omega)) (fun i _ hi => by have := HB.out; omega)
  · by_cases e1 : K = 1
    · skip
      have hq0 : (K == 0) = false := by simp; omega
      have hq1 : (K == 1) = true := by simp; omega
      have hq2 : (K == 2) = false := by simp; omega
      have X3 : Hid (VarAt (w4.setCell ⟨b1, 1, none⟩ (.int .i64 n)) b1 [.int .i64 fr, .int .i64 n, .int .i64 se, .slice a3 ps.length c3] ∧ VarAt (w4.setCell ⟨b1, 1, none⟩ (.int .i64 n)) b2 [.int .i64 (0 : Int), .int .i64 (0 : Int), .int .i64 (0 : Int), .slice none 0 0] ∧ OwnP (fun i => i = g) (w4.setCell ⟨b1, 1, none⟩ (.int .i64 n)) (.slice a3 ps.length c3) ps ∧ Grow w (w4.setCell ⟨b1, 1, none⟩ (.int .i64 n))) :=
        ⟨X2.out.1.set 1 _, X2.out.2.1.upd (upd_one w4 b1 1 _) (by have := HB.out; omega), OwnS.upd X2.out.2.2.1 (upd_one w4 b1 1 _) (fun i _ hi => by have := HB.out; omega), UpdS.new X2.out.2.2.2 (upd_one w4 b1 1 _) (fun i hi => by have := HB.out; omega)⟩
      go_wp2
      clear m0 m1 m2 m3 f0 f1 f2 f3 X2
      generalize (w4.setCell ⟨b1, 1, none⟩ (.int .i64 n)) = w5 at X3 ⊢
      go_loopg [9] ps.length (fun m iv wr => ∃ (j : Nat) (qs : List Pt), m = ps.length - j ∧ j ≤ ps.length ∧ iv = .int .i64 j ∧ Hid (VarAt wr b1 [.int .i64 fr, .int .i64 n, .int .i64 se, .slice a3 ps.length c3] ∧ VarAt wr b2 [.int .i64 (0 : Int), .int .i64 (0 : Int), .int .i64 (0 : Int), .slice none 0 0] ∧ OwnP (fun i => i = g) wr (.slice a3 ps.length c3) qs ∧ qs.length = ps.length ∧ Grow w wr))
      case atStart => exact ⟨0, ps, by omega, by omega, rfl, X3.out.1, X3.out.2.1, X3.out.2.2.1, rfl, X3.out.2.2.2⟩
      case round =>
        clear X3
        obtain ⟨j, qs, hk, hj, rfl, Y⟩ := hrel
        by_cases hlt : j < ps.length
        · have hle : (j : Int) < (ps.length : Int) := by omega
          have HL : Hid (j < ps.length ∧ gk = ps.length - j) := ⟨hlt, hk⟩
          have hw1 : IntKind.i64.wrap ((j : Int) + 1) = (j : Int) + 1 := by rw [IntKind.wrap_i64]; omega
          have hw2 : IntKind.i64.wrap (3 * (j : Int)) = 3 * (j : Int) := by rw [IntKind.wrap_i64]; omega
          have hw3 : IntKind.i64.wrap (3 + 3 * (j : Int)) = 3 + 3 * (j : Int) := by rw [IntKind.wrap_i64]; omega
          have hw4 : IntKind.i64.wrap (4 + 3 * (j : Int)) = 4 + 3 * (j : Int) := by rw [IntKind.wrap_i64]; omega
          have hw5 : IntKind.i64.wrap (5 + 3 * (j : Int)) = 5 + 3 * (j : Int) := by rw [IntKind.wrap_i64]; omega
          have hp0 : (K == 3 + 3 * (j : Int)) = false := by simp; omega
          have hp1 : (K == 4 + 3 * (j : Int)) = false := by simp; omega
          have hp2 : (K == 5 + 3 * (j : Int)) = false := by simp; omega
          clear hk hj hlt
          go_wp2
          go_roundg (ps.length - (j + 1))
          case measure => have := HL.out; omega
          case rel => exact ⟨j + 1, qs, rfl, HL.out.1, by go_num, Y⟩
        · have hle : ¬ (j : Int) < (ps.length : Int) := by omega
          obtain ⟨⟨m0, m1, m2, m3⟩, -⟩ := Y.out.1.four
          obtain ⟨⟨n0, n1, n2, n3⟩, g0, g1, g2, g3⟩ := Y.out.2.1.four
          go_wp2
          refine bodyPost_ret_by (results_cell rfl _ _ _ (.agg #[.int .i64 fr, .int .i64 n, .int .i64 se, .slice a3 ps.length c3]) rfl (load_G b2 fr n se _ _ (Y.out.2.1.set4 _ _ _ _) rfl)) rfl ⟨_, _, _, _, rfl, qs, ?_, Y.out.2.2.2.1, UpdS.new Y.out.2.2.2.2 (upd_four wr b2 _ _ _ _) (fun i hi => by have := HB.out; omega)⟩
          exact RdS.mono (RdS.upd Y.out.2.2.1.rd (upd_four wr b2 _ _ _ _) (fun i _ hi => by have := HB.out; omega)) (fun i _ hi => by have := HB.out; omega)
    · by_cases e2 : K = 2
      · skip
        have hq0 : (K == 0) = false := by simp; omega
        have hq1 : (K == 1) = false := by simp; omega
        have hq2 : (K == 2) = true := by simp; omega
        have X3 : Hid (VarAt (w4.setCell ⟨b1, 2, none⟩ (.int .i64 n)) b1 [.int .i64 fr, .int .i64 dp, .int .i64 n, .slice a3 ps.length c3] ∧ VarAt (w4.setCell ⟨b1, 2, none⟩ (.int .i64 n)) b2 [.int .i64 (0 : Int), .int .i64 (0 : Int), .int .i64 (0 : Int), .slice none 0 0] ∧ OwnP (fun i => i = g) (w4.setCell ⟨b1, 2, none⟩ (.int .i64 n)) (.slice a3 ps.length c3) ps ∧ Grow w (w4.setCell ⟨b1, 2, none⟩ (.int .i64 n))) :=
          ⟨X2.out.1.set 2 _, X2.out.2.1.upd (upd_one w4 b1 2 _) (by have := HB.out; omega), OwnS.upd X2.out.2.2.1 (upd_one w4 b1 2 _) (fun i _ hi => by have := HB.out; omega), UpdS.new X2.out.2.2.2 (upd_one w4 b1 2 _) (fun i hi => by have := HB.out; omega)⟩
        go_wp2
        clear m0 m1 m2 m3 f0 f1 f2 f3 X2
        generalize (w4.setCell ⟨b1, 2, none⟩ (.int .i64 n)) = w5 at X3 ⊢
        go_loopg [9] ps.length (fun m iv wr => ∃ (j : Nat) (qs : List Pt), m = ps.length - j ∧ j ≤ ps.length ∧ iv = .int .i64 j ∧ Hid (VarAt wr b1 [.int .i64 fr, .int .i64 dp, .int .i64 n, .slice a3 ps.length c3] ∧ VarAt wr b2 [.int .i64 (0 : Int), .int .i64 (0 : Int), .int .i64 (0 : Int), .slice none 0 0] ∧ OwnP (fun i => i = g) wr (.slice a3 ps.length c3) qs ∧ qs.length = ps.length ∧ Grow w wr))
        case atStart => exact ⟨0, ps, by omega, by omega, rfl, X3.out.1, X3.out.2.1, X3.out.2.2.1, rfl, X3.out.2.2.2⟩
        case round =>
          clear X3
          obtain ⟨j, qs, hk, hj, rfl, Y⟩ := hrel
          by_cases hlt : j < ps.length
          · have hle : (j : Int) < (ps.length : Int) := by omega
            have HL : Hid (j < ps.length ∧ gk = ps.length - j) := ⟨hlt, hk⟩
            have hw1 : IntKind.i64.wrap ((j : Int) + 1) = (j : Int) + 1 := by rw [IntKind.wrap_i64]; omega
            have hw2 : IntKind.i64.wrap (3 * (j : Int)) = 3 * (j : Int) := by rw [IntKind.wrap_i64]; omega
            have hw3 : IntKind.i64.wrap (3 + 3 * (j : Int)) = 3 + 3 * (j : Int) := by rw [IntKind.wrap_i64]; omega
            have hw4 : IntKind.i64.wrap (4 + 3 * (j : Int)) = 4 + 3 * (j : Int) := by rw [IntKind.wrap_i64]; omega
            have hw5 : IntKind.i64.wrap (5 + 3 * (j : Int)) = 5 + 3 * (j : Int) := by rw [IntKind.wrap_i64]; omega
            have hp0 : (K == 3 + 3 * (j : Int)) = false := by simp; omega
            have hp1 : (K == 4 + 3 * (j : Int)) = false := by simp; omega
            have hp2 : (K == 5 + 3 * (j : Int)) = false := by simp; omega
            clear hk hj hlt
            go_wp2
            go_roundg (ps.length - (j + 1))
            case measure => have := HL.out; omega
            case rel => exact ⟨j + 1, qs, rfl, HL.out.1, by go_num, Y⟩
          · have hle : ¬ (j : Int) < (ps.length : Int) := by omega
            obtain ⟨⟨m0, m1, m2, m3⟩, -⟩ := Y.out.1.four
            obtain ⟨⟨n0, n1, n2, n3⟩, g0, g1, g2, g3⟩ := Y.out.2.1.four
            go_wp2
            refine bodyPost_ret_by (results_cell rfl _ _ _ (.agg #[.int .i64 fr, .int .i64 dp, .int .i64 n, .slice a3 ps.length c3]) rfl (load_G b2 fr dp n _ _ (Y.out.2.1.set4 _ _ _ _) rfl)) rfl ⟨_, _, _, _, rfl, qs, ?_, Y.out.2.2.2.1, UpdS.new Y.out.2.2.2.2 (upd_four wr b2 _ _ _ _) (fun i hi => by have := HB.out; omega)⟩
            exact RdS.mono (RdS.upd Y.out.2.2.1.rd (upd_four wr b2 _ _ _ _) (fun i _ hi => by have := HB.out; omega)) (fun i _ hi => by have := HB.out; omega)
      · skip
        have hq0 : (K == 0) = false := by simp; omega
        have hq1 : (K == 1) = false := by simp; omega
        have hq2 : (K == 2) = false := by simp; omega
        have X3 := X2
        go_wp2
        clear m0 m1 m2 m3 f0 f1 f2 f3 X2

        go_loopg [9] ps.length (fun m iv wr => ∃ (j : Nat) (qs : List Pt), m = ps.length - j ∧ j ≤ ps.length ∧ iv = .int .i64 j ∧ Hid (VarAt wr b1 [.int .i64 fr, .int .i64 dp, .int .i64 se, .slice a3 ps.length c3] ∧ VarAt wr b2 [.int .i64 (0 : Int), .int .i64 (0 : Int), .int .i64 (0 : Int), .slice none 0 0] ∧ OwnP (fun i => i = g) wr (.slice a3 ps.length c3) qs ∧ qs.length = ps.length ∧ Grow w wr))
        case atStart => exact ⟨0, ps, by omega, by omega, rfl, X3.out.1, X3.out.2.1, X3.out.2.2.1, rfl, X3.out.2.2.2⟩
        case round =>
          clear X3
          obtain ⟨j, qs, hk, hj, rfl, Y⟩ := hrel
          by_cases hlt : j < ps.length
          · have hle : (j : Int) < (ps.length : Int) := by omega
            have HL : Hid (j < ps.length ∧ gk = ps.length - j) := ⟨hlt, hk⟩
            have hw1 : IntKind.i64.wrap ((j : Int) + 1) = (j : Int) + 1 := by rw [IntKind.wrap_i64]; omega
            have hw2 : IntKind.i64.wrap (3 * (j : Int)) = 3 * (j : Int) := by rw [IntKind.wrap_i64]; omega
            have hw3 : IntKind.i64.wrap (3 + 3 * (j : Int)) = 3 + 3 * (j : Int) := by rw [IntKind.wrap_i64]; omega
            have hw4 : IntKind.i64.wrap (4 + 3 * (j : Int)) = 4 + 3 * (j : Int) := by rw [IntKind.wrap_i64]; omega
            have hw5 : IntKind.i64.wrap (5 + 3 * (j : Int)) = 5 + 3 * (j : Int) := by rw [IntKind.wrap_i64]; omega
            by_cases t0 : K = 3 + 3 * (j : Int)
            · skip
              have hp0 : (K == 3 + 3 * (j : Int)) = true := by simp; omega
              have hp1 : (K == 4 + 3 * (j : Int)) = false := by simp; omega
              have hp2 : (K == 5 + 3 * (j : Int)) = false := by simp; omega
              obtain ⟨gg, oo, cc, he, hgg, hglt, _, _, hcell, hfro, hset⟩ := OwnS.row Y.out.2.2.1 Pt.cs_length Pt.zero (i := j) (by have := Y.out.2.2.2.1; omega)
              have hgg' : gg = g := hgg
              rw [hgg'] at he hcell hfro hset
              injection he with ea en ec
              subst ea
              have k0 := hcell 0 (by omega)
              have k1 : wr.frozen? ⟨g, oo + j * 3, none⟩ = false := hfro 0 (by omega)
              have hs := hset 0 ⟨n, (qs.getD j Pt.zero).b, (qs.getD j Pt.zero).g⟩ (.int .i64 n) (by omega) rfl
              have Y2 : Hid (VarAt (wr.setCell ⟨g, oo + j * 3, none⟩ (.int .i64 n)) b1 [.int .i64 fr, .int .i64 dp, .int .i64 se, .slice (some ⟨g, oo, none⟩) ps.length c3] ∧ VarAt (wr.setCell ⟨g, oo + j * 3, none⟩ (.int .i64 n)) b2 [.int .i64 (0 : Int), .int .i64 (0 : Int), .int .i64 (0 : Int), .slice none 0 0] ∧ OwnP (fun i => i = g) (wr.setCell ⟨g, oo + j * 3, none⟩ (.int .i64 n)) (.slice (some ⟨g, oo, none⟩) ps.length c3) (qs.set j ⟨n, (qs.getD j Pt.zero).b, (qs.getD j Pt.zero).g⟩) ∧ (qs.set j ⟨n, (qs.getD j Pt.zero).b, (qs.getD j Pt.zero).g⟩).length = ps.length ∧ Grow w (wr.setCell ⟨g, oo + j * 3, none⟩ (.int .i64 n))) :=
                ⟨Y.out.1.upd (upd_one wr g _ _) (by have := HB.out; omega), Y.out.2.1.upd (upd_one wr g _ _) (by have := HB.out; omega), hs, by rw [List.length_set]; exact Y.out.2.2.2.1, UpdS.new Y.out.2.2.2.2 (upd_one wr g _ _) (fun i hi => by have := HB.out; omega)⟩
              have k0' : wr.cell? ⟨g, oo + j * 3, none⟩ = some (.int .i64 (qs.getD j Pt.zero).q) := k0
              generalize qs.set j ⟨n, (qs.getD j Pt.zero).b, (qs.getD j Pt.zero).g⟩ = qs' at Y2
              generalize (qs.getD j Pt.zero).q = z at k0'
              clear hk hj hlt hgg hgg' hcell hfro hset hs k0 Y en ec
              go_wp2
              go_roundg (ps.length - (j + 1))
              case measure => have := HL.out; omega
              case rel => exact ⟨j + 1, qs', rfl, HL.out.1, by go_num, Y2⟩
            · by_cases t1 : K = 4 + 3 * (j : Int)
              · skip
                have hp0 : (K == 3 + 3 * (j : Int)) = false := by simp; omega
                have hp1 : (K == 4 + 3 * (j : Int)) = true := by simp; omega
                have hp2 : (K == 5 + 3 * (j : Int)) = false := by simp; omega
                obtain ⟨gg, oo, cc, he, hgg, hglt, _, _, hcell, hfro, hset⟩ := OwnS.row Y.out.2.2.1 Pt.cs_length Pt.zero (i := j) (by have := Y.out.2.2.2.1; omega)
                have hgg' : gg = g := hgg
                rw [hgg'] at he hcell hfro hset
                injection he with ea en ec
                subst ea
                have k0 := hcell 1 (by omega)
                have k1 : wr.frozen? ⟨g, oo + j * 3 + 1, none⟩ = false := hfro 1 (by omega)
                have hs := hset 1 ⟨(qs.getD j Pt.zero).q, n, (qs.getD j Pt.zero).g⟩ (.int .i64 n) (by omega) rfl
                have Y2 : Hid (VarAt (wr.setCell ⟨g, oo + j * 3 + 1, none⟩ (.int .i64 n)) b1 [.int .i64 fr, .int .i64 dp, .int .i64 se, .slice (some ⟨g, oo, none⟩) ps.length c3] ∧ VarAt (wr.setCell ⟨g, oo + j * 3 + 1, none⟩ (.int .i64 n)) b2 [.int .i64 (0 : Int), .int .i64 (0 : Int), .int .i64 (0 : Int), .slice none 0 0] ∧ OwnP (fun i => i = g) (wr.setCell ⟨g, oo + j * 3 + 1, none⟩ (.int .i64 n)) (.slice (some ⟨g, oo, none⟩) ps.length c3) (qs.set j ⟨(qs.getD j Pt.zero).q, n, (qs.getD j Pt.zero).g⟩) ∧ (qs.set j ⟨(qs.getD j Pt.zero).q, n, (qs.getD j Pt.zero).g⟩).length = ps.length ∧ Grow w (wr.setCell ⟨g, oo + j * 3 + 1, none⟩ (.int .i64 n))) :=
                  ⟨Y.out.1.upd (upd_one wr g _ _) (by have := HB.out; omega), Y.out.2.1.upd (upd_one wr g _ _) (by have := HB.out; omega), hs, by rw [List.length_set]; exact Y.out.2.2.2.1, UpdS.new Y.out.2.2.2.2 (upd_one wr g _ _) (fun i hi => by have := HB.out; omega)⟩
                have k0' : wr.cell? ⟨g, oo + j * 3 + 1, none⟩ = some (.int .i64 (qs.getD j Pt.zero).b) := k0
                generalize qs.set j ⟨(qs.getD j Pt.zero).q, n, (qs.getD j Pt.zero).g⟩ = qs' at Y2
                generalize (qs.getD j Pt.zero).b = z at k0'
                clear hk hj hlt hgg hgg' hcell hfro hset hs k0 Y en ec
                go_wp2
                go_roundg (ps.length - (j + 1))
                case measure => have := HL.out; omega
                case rel => exact ⟨j + 1, qs', rfl, HL.out.1, by go_num, Y2⟩
              · by_cases t2 : K = 5 + 3 * (j : Int)
                · skip
                  have hp0 : (K == 3 + 3 * (j : Int)) = false := by simp; omega
                  have hp1 : (K == 4 + 3 * (j : Int)) = false := by simp; omega
                  have hp2 : (K == 5 + 3 * (j : Int)) = true := by simp; omega
                  obtain ⟨gg, oo, cc, he, hgg, hglt, _, _, hcell, hfro, hset⟩ := OwnS.row Y.out.2.2.1 Pt.cs_length Pt.zero (i := j) (by have := Y.out.2.2.2.1; omega)
                  have hgg' : gg = g := hgg
                  rw [hgg'] at he hcell hfro hset
                  injection he with ea en ec
                  subst ea
                  have k0 := hcell 2 (by omega)
                  have k1 : wr.frozen? ⟨g, oo + j * 3 + 2, none⟩ = false := hfro 2 (by omega)
                  have hs := hset 2 ⟨(qs.getD j Pt.zero).q, (qs.getD j Pt.zero).b, n⟩ (.int .i64 n) (by omega) rfl
                  have Y2 : Hid (VarAt (wr.setCell ⟨g, oo + j * 3 + 2, none⟩ (.int .i64 n)) b1 [.int .i64 fr, .int .i64 dp, .int .i64 se, .slice (some ⟨g, oo, none⟩) ps.length c3] ∧ VarAt (wr.setCell ⟨g, oo + j * 3 + 2, none⟩ (.int .i64 n)) b2 [.int .i64 (0 : Int), .int .i64 (0 : Int), .int .i64 (0 : Int), .slice none 0 0] ∧ OwnP (fun i => i = g) (wr.setCell ⟨g, oo + j * 3 + 2, none⟩ (.int .i64 n)) (.slice (some ⟨g, oo, none⟩) ps.length c3) (qs.set j ⟨(qs.getD j Pt.zero).q, (qs.getD j Pt.zero).b, n⟩) ∧ (qs.set j ⟨(qs.getD j Pt.zero).q, (qs.getD j Pt.zero).b, n⟩).length = ps.length ∧ Grow w (wr.setCell ⟨g, oo + j * 3 + 2, none⟩ (.int .i64 n))) :=
                    ⟨Y.out.1.upd (upd_one wr g _ _) (by have := HB.out; omega), Y.out.2.1.upd (upd_one wr g _ _) (by have := HB.out; omega), hs, by rw [List.length_set]; exact Y.out.2.2.2.1, UpdS.new Y.out.2.2.2.2 (upd_one wr g _ _) (fun i hi => by have := HB.out; omega)⟩
                  have k0' : wr.cell? ⟨g, oo + j * 3 + 2, none⟩ = some (.int .i64 (qs.getD j Pt.zero).g) := k0
                  generalize qs.set j ⟨(qs.getD j Pt.zero).q, (qs.getD j Pt.zero).b, n⟩ = qs' at Y2
                  generalize (qs.getD j Pt.zero).g = z at k0'
                  clear hk hj hlt hgg hgg' hcell hfro hset hs k0 Y en ec
                  go_wp2
                  go_roundg (ps.length - (j + 1))
                  case measure => have := HL.out; omega
                  case rel => exact ⟨j + 1, qs', rfl, HL.out.1, by go_num, Y2⟩
                · skip
                  have hp0 : (K == 3 + 3 * (j : Int)) = false := by simp; omega
                  have hp1 : (K == 4 + 3 * (j : Int)) = false := by simp; omega
                  have hp2 : (K == 5 + 3 * (j : Int)) = false := by simp; omega
                  clear hk hj hlt
                  go_wp2
                  go_roundg (ps.length - (j + 1))
                  case measure => have := HL.out; omega
                  case rel => exact ⟨j + 1, qs, rfl, HL.out.1, by go_num, Y⟩
          · have hle : ¬ (j : Int) < (ps.length : Int) := by omega
            obtain ⟨⟨m0, m1, m2, m3⟩, -⟩ := Y.out.1.four
            obtain ⟨⟨n0, n1, n2, n3⟩, g0, g1, g2, g3⟩ := Y.out.2.1.four
            go_wp2
            refine bodyPost_ret_by (results_cell rfl _ _ _ (.agg #[.int .i64 fr, .int .i64 dp, .int .i64 se, .slice a3 ps.length c3]) rfl (load_G b2 fr dp se _ _ (Y.out.2.1.set4 _ _ _ _) rfl)) rfl ⟨_, _, _, _, rfl, qs, ?_, Y.out.2.2.2.1, UpdS.new Y.out.2.2.2.2 (upd_four wr b2 _ _ _ _) (fun i hi => by have := HB.out; omega)⟩
            exact RdS.mono (RdS.upd Y.out.2.2.1.rd (upd_four wr b2 _ _ _ _) (fun i _ hi => by have := HB.out; omega)) (fun i _ hi => by have := HB.out; omega)
end Go.Proofs.Ytaieepbfccdmiaa
