/-
  The walks of Owner and of the document's Owner. Conditions: each theorem's own.
-/
import Derived.Test.YtfjfbcgjocpmoaaExtSec
namespace Go.Proofs.Ytfjfbcgjocpmoaa
open Go.RowKit
set_option linter.unusedVariables false
set_option linter.unusedSimpArgs false

theorem results_tmp4 {P : Program} {fn : Func} {t u v x : Tmp} (h : fn.results = #[.tmp t, .tmp u, .tmp v, .tmp x]) (tmps : Array Value) (w : World) :
    (results fn tmps).run P w = .ok (.tuple #[tmps.getD t undef, tmps.getD u undef, tmps.getD v undef, tmps.getD x undef]) w := by
  simp [results, h]
theorem ret_own {x y z : Int} {t : Bool} {o : Ow} (h : o = ⟨x, y, z, t⟩) : Ending.returned (.tuple #[.int .i64 x, .int .i64 y, .int .i64 z, .bool t]) = .returned (.tuple #[.int .i64 o.t, .int .i64 o.g, .int .i64 o.k, .bool o.is]) := by rw [h]
theorem ret_ow {x y z : Int} {t : Bool} {o : Ow} (h : o = ⟨x, y, z, t⟩) : Ending.returned (.agg #[.int .i64 x, .int .i64 y, .int .i64 z, .bool t]) = .returned (.agg #[.int .i64 o.t, .int .i64 o.g, .int .i64 o.k, .bool o.is]) := by rw [h]

set_option maxHeartbeats 4000000 in
theorem owner_any {p : Nat → Prop} (fr dp se s : Int) (v : Value) (ps : List Pt) (w : World) (h : RdP p w v ps) (hb : InB ps) :
    Calls Try.prog 14 #[.agg #[.int .i64 fr, .int .i64 dp, .int .i64 se, v], .int .i64 s] w fun e w' => e = .returned (.tuple #[.int .i64 (ownS ps s).t, .int .i64 (ownS ps s).g, .int .i64 (ownS ps s).k, .bool (ownS ps s).is]) ∧ Grow w w' := by
  have HI : Hid (VarAt (w.alloc (.cells #[.int .i64 fr, .int .i64 dp, .int .i64 se, v] 24)) w.heap.size [.int .i64 fr, .int .i64 dp, .int .i64 se, v] ∧ Grow w (w.alloc (.cells #[.int .i64 fr, .int .i64 dp, .int .i64 se, v] 24))) := ⟨VarAt.new w [.int .i64 fr, .int .i64 dp, .int .i64 se, v] _, (Grow.refl w).alloc _⟩
  have HR : Hid (RdP p w v ps ∧ InB ps) := ⟨h, hb⟩
  obtain ⟨a, cp, rfl, h1, h2, -⟩ := h
  unfold maxLen at h2
  have hlen : ps.length ≤ 9223372036854775807 := by omega
  clear h1 h2 hb
  go_enter Try.func14, Try.ntmps14
  go_wp2
  generalize w.alloc (.cells #[.int .i64 fr, .int .i64 dp, .int .i64 se, .slice a ps.length cp] 24) = w1 at HI ⊢
  generalize w.heap.size = b1 at HI ⊢
  go_loopg [15] ps.length (fun m iv wr => ∃ (j : Nat), m = ps.length - j ∧ j ≤ ps.length ∧ iv = .int .i64 j ∧ Hid (VarAt wr b1 [.int .i64 fr, .int .i64 dp, .int .i64 se, .slice a ps.length cp] ∧ Grow w wr ∧ ∀ i, i < j → hasB (ps.getD i Pt.zero) s = false))
  case atStart => exact ⟨0, by omega, by omega, rfl, HI.out.1, HI.out.2, fun i hi => by omega⟩
  case round =>
    clear HI
    obtain ⟨j, hk, hj, rfl, X⟩ := hrel
    obtain ⟨⟨m0, m1, m2, m3⟩, -⟩ := X.out.1.four
    by_cases hlt : j < ps.length
    · have hle : (j : Int) < (ps.length : Int) := by omega
      have HL : Hid (j < ps.length ∧ gk = ps.length - j) := ⟨hlt, hk⟩
      have hd := HR.out.2 j hlt
      have hra := range_yes fr dp se j _ ps wr (RdS.grow HR.out.1 X.out.2.1) hlt hd
      obtain ⟨d, hdd⟩ : ∃ d, d = ps.getD j Pt.zero := ⟨_, rfl⟩
      rw [← hdd] at hd hra
      have HD : Hid (d = ps.getD j Pt.zero) := hdd
      clear hdd
      obtain ⟨d1, d2, d3, d4⟩ := hd
      have hw1 : IntKind.i64.wrap ((j : Int) + 1) = (j : Int) + 1 := by rw [IntKind.wrap_i64]; omega
      clear hk hj hlt
      by_cases hh : d.b ≤ s ∧ s < d.b + 2 * d.g
      · have hwi := fun w' => within_yes (w := w') hh.1 hh.2
        have HO : Hid (ownS ps s = ⟨j, (s - d.b) / 2, (s - d.b) % 2, true⟩) := by
          rw [HD.out]
          refine own_hit HL.out.1 ?_ X.out.2.2
          rw [← HD.out]
          simp only [hasB, Bool.and_eq_true, decide_eq_true_eq]; exact hh
        have hw2 : IntKind.i64.wrap (s - d.b) = s - d.b := by rw [IntKind.wrap_i64]; omega
        have hq : (s - d.b).tdiv 2 = (s - d.b) / 2 := Int.tdiv_eq_ediv_of_nonneg (by omega)
        have hm : (s - d.b).tmod 2 = (s - d.b) % 2 := Int.tmod_eq_emod_of_nonneg (by omega)
        have hw3 : IntKind.i64.wrap ((s - d.b) / 2) = (s - d.b) / 2 := by rw [IntKind.wrap_i64]; omega
        have hw4 : IntKind.i64.wrap ((s - d.b) % 2) = (s - d.b) % 2 := by rw [IntKind.wrap_i64]; omega
        clear hh d1 d2 d3 d4
        go_wp2_with fail
        refine hra.mono ?_
        rintro e w2 ⟨rfl, g2⟩
        go_wp2_with fail
        refine (hwi _).mono ?_
        rintro e w3 ⟨rfl, rfl⟩
        go_wp2
        refine bodyPost_ret (results_tmp4 rfl _ _) rfl ?_
        exact ⟨ret_own HO.out, X.out.2.1.trans g2⟩
      · have hwi := fun w' => within_no (w := w') hh
        have HN : Hid (hasB d s = false) := by
          have : Hid (hasB d s = false) := by
            show hasB d s = false
            simp only [hasB, Bool.and_eq_false_iff, decide_eq_false_iff_not]; omega
          exact this
        clear hh d1 d2 d3 d4
        go_wp2_with fail
        refine hra.mono ?_
        rintro e w2 ⟨rfl, g2⟩
        go_wp2_with fail
        refine (hwi _).mono ?_
        rintro e w3 ⟨rfl, rfl⟩
        go_wp2
        go_roundg (ps.length - (j + 1))
        case measure => have := HL.out; omega
        case rel =>
          refine ⟨j + 1, rfl, HL.out.1, by go_num, X.out.1.grow g2, X.out.2.1.trans g2, fun i hi => ?_⟩
          by_cases e : i = j
          · rw [e, ← HD.out]; exact HN.out
          · exact X.out.2.2 i (by omega)
    · have hle : ¬ (j : Int) < (ps.length : Int) := by omega
      obtain rfl : j = ps.length := by omega
      have HO : Hid (ownS ps s = ⟨0, 0, 0, false⟩) := own_none X.out.2.2
      have HW : Hid (Grow w wr) := X.out.2.1
      clear X hk hj hlt
      go_wp2
      refine bodyPost_ret (results_tmp4 rfl _ _) rfl ?_
      exact ⟨ret_own HO.out, HW.out⟩

theorem ow_two {w : World} {fr dp se : Int} {v : Value} : VarAt ((w.alloc (.cells #[.int .i64 fr, .int .i64 dp, .int .i64 se, v] 24)).alloc (.cells #[.int .i64 (0 : Int), .int .i64 (0 : Int), .int .i64 (0 : Int), .bool false] 39)) w.heap.size [.int .i64 fr, .int .i64 dp, .int .i64 se, v] ∧ VarAt ((w.alloc (.cells #[.int .i64 fr, .int .i64 dp, .int .i64 se, v] 24)).alloc (.cells #[.int .i64 (0 : Int), .int .i64 (0 : Int), .int .i64 (0 : Int), .bool false] 39)) (w.heap.size + 1) [.int .i64 (0 : Int), .int .i64 (0 : Int), .int .i64 (0 : Int), .bool false] ∧ Grow w ((w.alloc (.cells #[.int .i64 fr, .int .i64 dp, .int .i64 se, v] 24)).alloc (.cells #[.int .i64 (0 : Int), .int .i64 (0 : Int), .int .i64 (0 : Int), .bool false] 39)) :=
  ⟨(VarAt.new w [.int .i64 fr, .int .i64 dp, .int .i64 se, v] _).old _, VarAt.new2 w _ [.int .i64 (0 : Int), .int .i64 (0 : Int), .int .i64 (0 : Int), .bool false] _, ((Grow.refl w).alloc _).alloc _⟩

set_option maxHeartbeats 8000000 in
theorem rowner_any {p : Nat → Prop} (fr dp se s : Int) (v : Value) (ps : List Pt) (w : World) (h : RdP p w v ps) (hb : InB ps) :
    Calls Try.prog 15 #[.agg #[.int .i64 fr, .int .i64 dp, .int .i64 se, v], .int .i64 s] w fun e w' => e = .returned (.agg #[.int .i64 (ownS ps s).t, .int .i64 (ownS ps s).g, .int .i64 (ownS ps s).k, .bool (ownS ps s).is]) ∧ Grow w w' := by
  have HI : Hid (VarAt ((w.alloc (.cells #[.int .i64 fr, .int .i64 dp, .int .i64 se, v] 24)).alloc (.cells #[.int .i64 (0 : Int), .int .i64 (0 : Int), .int .i64 (0 : Int), .bool false] 39)) w.heap.size [.int .i64 fr, .int .i64 dp, .int .i64 se, v] ∧ VarAt ((w.alloc (.cells #[.int .i64 fr, .int .i64 dp, .int .i64 se, v] 24)).alloc (.cells #[.int .i64 (0 : Int), .int .i64 (0 : Int), .int .i64 (0 : Int), .bool false] 39)) (w.heap.size + 1) [.int .i64 (0 : Int), .int .i64 (0 : Int), .int .i64 (0 : Int), .bool false] ∧ Grow w ((w.alloc (.cells #[.int .i64 fr, .int .i64 dp, .int .i64 se, v] 24)).alloc (.cells #[.int .i64 (0 : Int), .int .i64 (0 : Int), .int .i64 (0 : Int), .bool false] 39))) := ow_two
  have HR : Hid (RdP p w v ps ∧ InB ps) := ⟨h, hb⟩
  obtain ⟨a, cp, rfl, h1, h2, -⟩ := h
  unfold maxLen at h2
  have hlen : ps.length ≤ 9223372036854775807 := by omega
  clear h1 h2 hb
  obtain ⟨b2, hb2⟩ : ∃ b2, b2 = w.heap.size + 1 := ⟨_, rfl⟩
  have HE : Hid (b2 = w.heap.size + 1) := hb2
  go_enter Try.func15, Try.ntmps15
  go_wp2
  rw [← hb2] at HI ⊢
  clear hb2
  generalize ((w.alloc (.cells #[.int .i64 fr, .int .i64 dp, .int .i64 se, .slice a ps.length cp] 24)).alloc (.cells #[.int .i64 (0 : Int), .int .i64 (0 : Int), .int .i64 (0 : Int), .bool false] 39)) = w1 at HI ⊢
  obtain ⟨b1, hb1⟩ : ∃ b1, b1 = w.heap.size := ⟨_, rfl⟩
  rw [← hb1] at HI ⊢
  clear hb1
  go_loopg [5] ps.length (fun m iv wr => ∃ (j : Nat), m = ps.length - j ∧ j ≤ ps.length ∧ iv = .int .i64 j ∧ Hid (VarAt wr b1 [.int .i64 fr, .int .i64 dp, .int .i64 se, .slice a ps.length cp] ∧ VarAt wr b2 [.int .i64 (0 : Int), .int .i64 (0 : Int), .int .i64 (0 : Int), .bool false] ∧ Grow w wr ∧ ∀ i, i < j → hasB (ps.getD i Pt.zero) s = false))
  case atStart => exact ⟨0, by omega, by omega, rfl, HI.out.1, HI.out.2.1, HI.out.2.2, fun i hi => by omega⟩
  case round =>
    clear HI
    obtain ⟨j, hk, hj, rfl, X⟩ := hrel
    obtain ⟨⟨m0, m1, m2, m3⟩, -⟩ := X.out.1.four
    by_cases hlt : j < ps.length
    · have hle : (j : Int) < (ps.length : Int) := by omega
      have HL : Hid (j < ps.length ∧ gk = ps.length - j) := ⟨hlt, hk⟩
      obtain ⟨bb, oo, rfl, _, _, hin⟩ := rdP_at HR.out.1 hlt
      have hd := HR.out.2 j hlt
      have hsc := fun w' (g : Grow w w') (q k : Int) (hq : 0 ≤ q ∧ q < (ps.getD j Pt.zero).g ∧ 0 ≤ k ∧ k < 2) => (by
        have := rsec_any fr dp se j q k _ ps w' (RdS.grow HR.out.1 g) HR.out.2
        rw [secS_ok hlt hq] at this
        exact this : Calls Try.prog 11 #[.agg #[.int .i64 fr, .int .i64 dp, .int .i64 se, .slice (some ⟨bb, oo, none⟩) ps.length cp], .int .i64 j, .int .i64 q, .int .i64 k] w' fun e w'' => e = .returned (.tuple #[.int .i64 ((ps.getD j Pt.zero).b + 2 * q + k), .int .i64 0]) ∧ Grow w' w'')
      obtain ⟨d, hdd⟩ : ∃ d, d = ps.getD j Pt.zero := ⟨_, rfl⟩
      rw [← hdd] at hd hsc hin
      have HD : Hid (d = ps.getD j Pt.zero) := hdd
      clear hdd
      obtain ⟨d1, d2, d3, d4⟩ := hd
      obtain ⟨G, hG⟩ : ∃ G : Nat, d.g = G := ⟨d.g.toNat, by omega⟩
      have hw1 : IntKind.i64.wrap ((j : Int) + 1) = (j : Int) + 1 := by rw [IntKind.wrap_i64]; omega
      have HP : Hid (PIn w bb (oo + j * 3) d ∧ d.g = G) := ⟨hin, hG⟩
      have hGG : G ≤ 1000 := by omega
      clear hk hj hlt hin hG d1 d2
      go_wp2
      clear m0 m1 m2 m3
      go_loopg [6] G (fun m iv wr => ∃ (q : Nat), m = G - q ∧ q ≤ G ∧ iv = .int .i64 q ∧ Hid (VarAt wr b1 [.int .i64 fr, .int .i64 dp, .int .i64 se, .slice (some ⟨bb, oo, none⟩) ps.length cp] ∧ VarAt wr b2 [.int .i64 (0 : Int), .int .i64 (0 : Int), .int .i64 (0 : Int), .bool false] ∧ Grow w wr ∧ ¬ (d.b ≤ s ∧ s < d.b + 2 * q)))
      case atStart => exact ⟨0, by omega, by omega, rfl, X.out.1, X.out.2.1, X.out.2.2.1, by omega⟩
      case round =>
        obtain ⟨q, hk, hj, rfl, Y⟩ := hrel
        obtain ⟨⟨m0, m1, m2, m3⟩, -⟩ := Y.out.1.four
        obtain ⟨k0, k1, k2⟩ := HP.out.1.grow Y.out.2.2.1
        rw [HP.out.2] at k2
        by_cases hqt : q < G
        · have hle2 : (q : Int) < (G : Int) := by omega
          have HQ : Hid (q < G ∧ gk = G - q) := ⟨hqt, hk⟩
          have hw2 : IntKind.i64.wrap ((q : Int) + 1) = (q : Int) + 1 := by rw [IntKind.wrap_i64]; omega
          have hs0 := fun w' (g : Grow w w') => hsc w' g q 0 ⟨by omega, by rw [HP.out.2]; omega, by omega, by omega⟩
          have hs1 := fun w' (g : Grow w w') => hsc w' g q 1 ⟨by omega, by rw [HP.out.2]; omega, by omega, by omega⟩
          rw [Int.add_zero] at hs0
          clear hk hj hqt
          go_wp2
          clear m0 m1 m2 m3 k0 k1 k2
          go_loopg [7] 2 (fun m iv wr => (m = 2 ∧ iv = .int .i64 0 ∧ Hid (VarAt wr b1 [.int .i64 fr, .int .i64 dp, .int .i64 se, .slice (some ⟨bb, oo, none⟩) ps.length cp] ∧ VarAt wr b2 [.int .i64 (0 : Int), .int .i64 (0 : Int), .int .i64 (0 : Int), .bool false] ∧ Grow w wr ∧ ¬ (d.b ≤ s ∧ s < d.b + 2 * q))) ∨ (m = 1 ∧ iv = .int .i64 1 ∧ Hid (VarAt wr b1 [.int .i64 fr, .int .i64 dp, .int .i64 se, .slice (some ⟨bb, oo, none⟩) ps.length cp] ∧ VarAt wr b2 [.int .i64 (0 : Int), .int .i64 (0 : Int), .int .i64 (0 : Int), .bool false] ∧ Grow w wr ∧ ¬ (d.b ≤ s ∧ s < d.b + 2 * q + 1))) ∨ (m = 0 ∧ iv = .int .i64 2 ∧ Hid (VarAt wr b1 [.int .i64 fr, .int .i64 dp, .int .i64 se, .slice (some ⟨bb, oo, none⟩) ps.length cp] ∧ VarAt wr b2 [.int .i64 (0 : Int), .int .i64 (0 : Int), .int .i64 (0 : Int), .bool false] ∧ Grow w wr ∧ ¬ (d.b ≤ s ∧ s < d.b + 2 * q + 2))))
          case atStart => exact .inl ⟨rfl, rfl, Y.out.1, Y.out.2.1, Y.out.2.2.1, Y.out.2.2.2⟩
          case round =>
            rcases hrel with ⟨hk, rfl, Z⟩ | ⟨hk, rfl, Z⟩ | ⟨hk, rfl, Z⟩
            · have HK : Hid (gk = 2) := hk
              clear hk
              obtain ⟨⟨m0, m1, m2, m3⟩, -⟩ := Z.out.1.four
              have hcall := hs0 wr Z.out.2.2.1
              by_cases he : d.b + 2 * (q : Int) = s
              · have HE2 : Hid (d.b + 2 * (q : Int) = s) := he
                have hbe : (d.b + 2 * (q : Int) == s) = true := by rw [beq_iff_eq]; exact he
                have HO : Hid (ownS ps s = ⟨j, q, 0, true⟩) := by
                  have hh : hasB (ps.getD j Pt.zero) s = true := by
                    rw [← HD.out]
                    simp only [hasB, Bool.and_eq_true, decide_eq_true_eq]
                    have h1 := HP.out.2
                    have h2 := HQ.out.1
                    omega
                  have e1 : (s - d.b) / 2 = q := by omega
                  have e2 : (s - d.b) % 2 = 0 := by omega
                  show ownS ps s = _
                  rw [own_hit HL.out.1 hh X.out.2.2.2, ← HD.out, e1, e2]
                clear he
                go_wp2_with fail
                refine hcall.mono ?_
                rintro e w2 ⟨rfl, g2⟩
                have W : Hid (VarAt w2 b2 [.int .i64 (0 : Int), .int .i64 (0 : Int), .int .i64 (0 : Int), .bool false] ∧ Grow w w2) := ⟨Z.out.2.1.grow g2, Z.out.2.2.1.trans g2⟩
                clear g2 hcall m0 m1 m2 m3
                obtain ⟨⟨n0, n1, n2, n3⟩, f0, f1, f2, f3⟩ := W.out.1.four
                go_wp2
                have hU := upd_four w2 b2 (.int .i64 j) (.int .i64 q) (.int .i64 0) (.bool true)
                exact bodyPost_ret_by (results_cell rfl _ _ _ (.agg #[.int .i64 j, .int .i64 q, .int .i64 0, .bool true]) rfl (load_O b2 _ _ _ _ _ (W.out.1.set4 _ _ _ _))) rfl ⟨ret_ow HO.out, UpdS.new W.out.2 hU (fun i hi => by have := HE.out; omega)⟩
              · have hbe : (d.b + 2 * (q : Int) == s) = false := by rw [beq_eq_false_iff_ne]; exact he
                have HN : Hid (¬ (d.b ≤ s ∧ s < d.b + 2 * q + 1)) := by
                  have hz := Z.out.2.2.2
                  show ¬ (d.b ≤ s ∧ s < d.b + 2 * q + 1)
                  omega
                clear he
                go_wp2_with fail
                refine hcall.mono ?_
                rintro e w2 ⟨rfl, g2⟩
                have W : Hid (VarAt w2 b1 [.int .i64 fr, .int .i64 dp, .int .i64 se, .slice (some ⟨bb, oo, none⟩) ps.length cp] ∧ VarAt w2 b2 [.int .i64 (0 : Int), .int .i64 (0 : Int), .int .i64 (0 : Int), .bool false] ∧ Grow w w2) := ⟨Z.out.1.grow g2, Z.out.2.1.grow g2, Z.out.2.2.1.trans g2⟩
                clear g2 hcall m0 m1 m2 m3
                go_wp2
                go_roundg 1
                case measure => have := HK.out; omega
                case rel => exact .inr (.inl ⟨rfl, rfl, W.out.1, W.out.2.1, W.out.2.2, HN.out⟩)
            · have HK : Hid (gk = 1) := hk
              clear hk
              obtain ⟨⟨m0, m1, m2, m3⟩, -⟩ := Z.out.1.four
              have hcall := hs1 wr Z.out.2.2.1
              by_cases he : d.b + 2 * (q : Int) + 1 = s
              · have HE2 : Hid (d.b + 2 * (q : Int) + 1 = s) := he
                have hbe : (d.b + 2 * (q : Int) + 1 == s) = true := by rw [beq_iff_eq]; exact he
                have HO : Hid (ownS ps s = ⟨j, q, 1, true⟩) := by
                  have hh : hasB (ps.getD j Pt.zero) s = true := by
                    rw [← HD.out]
                    simp only [hasB, Bool.and_eq_true, decide_eq_true_eq]
                    have h1 := HP.out.2
                    have h2 := HQ.out.1
                    omega
                  have e1 : (s - d.b) / 2 = q := by omega
                  have e2 : (s - d.b) % 2 = 1 := by omega
                  show ownS ps s = _
                  rw [own_hit HL.out.1 hh X.out.2.2.2, ← HD.out, e1, e2]
                clear he
                go_wp2_with fail
                refine hcall.mono ?_
                rintro e w2 ⟨rfl, g2⟩
                have W : Hid (VarAt w2 b2 [.int .i64 (0 : Int), .int .i64 (0 : Int), .int .i64 (0 : Int), .bool false] ∧ Grow w w2) := ⟨Z.out.2.1.grow g2, Z.out.2.2.1.trans g2⟩
                clear g2 hcall m0 m1 m2 m3
                obtain ⟨⟨n0, n1, n2, n3⟩, f0, f1, f2, f3⟩ := W.out.1.four
                go_wp2
                have hU := upd_four w2 b2 (.int .i64 j) (.int .i64 q) (.int .i64 1) (.bool true)
                exact bodyPost_ret_by (results_cell rfl _ _ _ (.agg #[.int .i64 j, .int .i64 q, .int .i64 1, .bool true]) rfl (load_O b2 _ _ _ _ _ (W.out.1.set4 _ _ _ _))) rfl ⟨ret_ow HO.out, UpdS.new W.out.2 hU (fun i hi => by have := HE.out; omega)⟩
              · have hbe : (d.b + 2 * (q : Int) + 1 == s) = false := by rw [beq_eq_false_iff_ne]; exact he
                have HN : Hid (¬ (d.b ≤ s ∧ s < d.b + 2 * q + 2)) := by
                  have hz := Z.out.2.2.2
                  show ¬ (d.b ≤ s ∧ s < d.b + 2 * q + 2)
                  omega
                clear he
                go_wp2_with fail
                refine hcall.mono ?_
                rintro e w2 ⟨rfl, g2⟩
                have W : Hid (VarAt w2 b1 [.int .i64 fr, .int .i64 dp, .int .i64 se, .slice (some ⟨bb, oo, none⟩) ps.length cp] ∧ VarAt w2 b2 [.int .i64 (0 : Int), .int .i64 (0 : Int), .int .i64 (0 : Int), .bool false] ∧ Grow w w2) := ⟨Z.out.1.grow g2, Z.out.2.1.grow g2, Z.out.2.2.1.trans g2⟩
                clear g2 hcall m0 m1 m2 m3
                go_wp2
                go_roundg 0
                case measure => have := HK.out; omega
                case rel => exact .inr (.inr ⟨rfl, rfl, W.out.1, W.out.2.1, W.out.2.2, HN.out⟩)
            · clear hk
              go_wp2
              go_roundg (G - (q + 1))
              case measure => have := HQ.out; omega
              case rel => exact ⟨q + 1, rfl, HQ.out.1, by go_num, Z.out.1, Z.out.2.1, Z.out.2.2.1, by have := Z.out.2.2.2; omega⟩
        · have hle2 : ¬ (q : Int) < (G : Int) := by omega
          obtain rfl : q = G := by omega
          clear hk hj hqt
          go_wp2
          go_roundg (ps.length - (j + 1))
          case measure => have := HL.out; omega
          case rel =>
            refine ⟨j + 1, rfl, HL.out.1, by go_num, Y.out.1, Y.out.2.1, Y.out.2.2.1, fun i hi => ?_⟩
            by_cases e : i = j
            · rw [e, ← HD.out]
              have h1 := Y.out.2.2.2
              have h2 := HP.out.2
              simp only [hasB, Bool.and_eq_false_iff, decide_eq_false_iff_not]; omega
            · exact X.out.2.2.2 i (by omega)
    · have hle : ¬ (j : Int) < (ps.length : Int) := by omega
      obtain rfl : j = ps.length := by omega
      have HO : Hid (ownS ps s = ⟨0, 0, 0, false⟩) := own_none X.out.2.2.2
      obtain ⟨⟨n0, n1, n2, n3⟩, f0, f1, f2, f3⟩ := X.out.2.1.four
      clear hk hj hlt
      go_wp2
      have hU := upd_four wr b2 (.int .i64 0) (.int .i64 0) (.int .i64 0) (.bool false)
      exact bodyPost_ret_by (results_cell rfl _ _ _ (.agg #[.int .i64 0, .int .i64 0, .int .i64 0, .bool false]) rfl (load_O b2 _ _ _ _ _ (X.out.2.1.set4 _ _ _ _))) rfl ⟨ret_ow HO.out, UpdS.new X.out.2.2.1 hU (fun i hi => by have := HE.out; omega)⟩
end Go.Proofs.Ytfjfbcgjocpmoaa
