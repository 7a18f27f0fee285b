/-
  The walk of the law ExtentRanges. Conditions: the theorem's own.
-/
import Derived.Test.YtfjfbcgjocpmoaaExtOwn
namespace Go.Proofs.Ytfjfbcgjocpmoaa
open Go.RowKit
set_option linter.unusedVariables false
set_option linter.unusedSimpArgs false

set_option maxRecDepth 8000 in
set_option maxHeartbeats 8000000 in
theorem extentRanges_walk {p : Nat → Prop} (fr dp se : Int) (v : Value) (ps : List Pt) (tn : Int) (w : World) (h : RdP p w v ps) (hok : ∀ x ∈ ps, x.Ok) (hdp : W64 dp) (hse : W64 se) :
    Calls Try.prog 5 #[.agg #[.int .i64 fr, .int .i64 dp, .int .i64 se, v], .int .i64 tn] w fun e w' => e = .returned (.bool true) ∧ Below w.heap.size w w' := by
  have HG : Hid (Grow w (w.alloc (.cells #[.int .i64 fr, .int .i64 dp, .int .i64 se, v] 24))) := (Grow.refl w).alloc _
  have hgood := fun w' (g : Grow w w') => good_any fr dp se v ps w' (RdS.grow h g) hok hdp hse
  obtain ⟨a, cp, rfl, h1, h2, -⟩ := h
  clear hok hdp hse
  go_enter Try.func5, Try.ntmps5
  go_wp2_with fail
  refine (hgood _ HG.out).mono ?_
  rintro e w2 ⟨fr', dp', se', v', ps', rfl, hG, hR, g2⟩
  obtain ⟨N, rfl⟩ : ∃ N : Nat, se' = N := ⟨se'.toNat, by have := hG.bounds; omega⟩
  have HR : Hid (GoodC fr' dp' N ps' ∧ RdP (fun i => (w.alloc (.cells #[.int .i64 fr, .int .i64 dp, .int .i64 se, .slice a ps.length cp] 24)).heap.size ≤ i) w2 v' ps' ∧ Grow w w2) := ⟨hG, hR, HG.out.trans g2⟩
  have hN : 2 ≤ N ∧ N ≤ 42 := by have := hG.bounds; omega
  have hL : 1 ≤ ps'.length ∧ ps'.length ≤ 4 := by have := hG.bounds; omega
  obtain ⟨a', c', rfl, _, _, -⟩ := hR
  clear hG g2 hgood HG
  have X0 : Hid (VarAt (w2.alloc (.cells #[.int .i64 fr', .int .i64 dp', .int .i64 (N : Int), .slice a' ps'.length c'] 24)) w2.heap.size [.int .i64 fr', .int .i64 dp', .int .i64 (N : Int), .slice a' ps'.length c'] ∧ Grow w2 (w2.alloc (.cells #[.int .i64 fr', .int .i64 dp', .int .i64 (N : Int), .slice a' ps'.length c'] 24))) := ⟨VarAt.new w2 [.int .i64 fr', .int .i64 dp', .int .i64 (N : Int), .slice a' ps'.length c'] _, (Grow.refl w2).alloc _⟩
  go_wp2
  generalize w2.alloc (.cells #[.int .i64 fr', .int .i64 dp', .int .i64 (N : Int), .slice a' ps'.length c'] 24) = w3 at X0 ⊢
  generalize w2.heap.size = b3 at X0 ⊢
  have HV : Hid (RdP (fun i => (w.alloc (.cells #[.int .i64 fr, .int .i64 dp, .int .i64 se, .slice a ps.length cp] 24)).heap.size ≤ i) w3 (.slice a' ps'.length c') ps' ∧ GoodC fr' dp' N ps' ∧ InB ps' ∧ Grow w w3 ∧ VarAt w3 b3 [.int .i64 fr', .int .i64 dp', .int .i64 (N : Int), .slice a' ps'.length c']) := ⟨RdS.grow HR.out.2.1 X0.out.2, HR.out.1, HR.out.1.inb, HR.out.2.2.trans X0.out.2, X0.out.1⟩
  clear X0 HR
  go_loopg [6] (ps'.length + 1) (fun m tv wr => ∃ (t : Nat), m = ps'.length + 1 - t ∧ t ≤ ps'.length + 1 ∧ tv = .int .i64 t ∧ Hid (VarAt wr b3 [.int .i64 fr', .int .i64 dp', .int .i64 (N : Int), .slice a' ps'.length c'] ∧ Grow w3 wr))
  case atStart => exact ⟨0, by omega, by omega, rfl, HV.out.2.2.2.2, Grow.refl _⟩
  case round =>
    obtain ⟨t, hk, hj, rfl, Y⟩ := hrel
    obtain ⟨⟨m0, m1, m2, m3⟩, -⟩ := Y.out.1.four
    by_cases hst : t ≤ ps'.length
    · have hle : (t : Int) ≤ (ps'.length : Int) := by omega
      have HK : Hid (t ≤ ps'.length ∧ gk = ps'.length + 1 - t) := ⟨hst, hk⟩
      have hw1 : IntKind.i64.wrap ((t : Int) + 1) = (t : Int) + 1 := by rw [IntKind.wrap_i64]; omega
      by_cases hin : t < ps'.length
      · have hne : ((t : Int) == (ps'.length : Int)) = false := by rw [beq_eq_false_iff_ne]; omega
        have hne2 : ¬ (t : Int) = (ps'.length : Int) := by omega
        have hi := hin
        obtain ⟨d, hdd⟩ : ∃ d, d = ps'.getD t Pt.zero := ⟨_, rfl⟩
        clear hst hin
        have HI : Hid (t < ps'.length ∧ d = ps'.getD t Pt.zero) := ⟨hi, hdd⟩
        have hra := range_yes fr' dp' N t _ ps' wr (RdS.grow HV.out.1 Y.out.2) hi (HV.out.2.2.1 t hi)
        rw [← hdd] at hra
        have hi0 : (0 : Int) ≤ (t : Int) := by omega
        have hil : (t : Int) < (ps'.length : Int) := by omega
        clear hk hj hdd hi
        go_wp2_with fail
        refine hra.mono ?_
        rintro e w4 ⟨rfl, g4⟩
        have W : Hid (VarAt w4 b3 [.int .i64 fr', .int .i64 dp', .int .i64 (N : Int), .slice a' ps'.length c'] ∧ Grow w3 w4) := ⟨Y.out.1.grow g4, Y.out.2.trans g4⟩
        clear g4 hra m0 m1 m2 m3
        obtain ⟨⟨m0, m1, m2, m3⟩, -⟩ := W.out.1.four
        go_wp2
        clear m0 m1 m2 m3
        go_loopg [11] N (fun m sv wr => ∃ (s : Nat), m = N - s ∧ s ≤ N ∧ sv = .int .i64 s ∧ Hid (VarAt wr b3 [.int .i64 fr', .int .i64 dp', .int .i64 (N : Int), .slice a' ps'.length c'] ∧ Grow w3 wr))
        case atStart => exact ⟨0, by omega, by omega, rfl, W.out.1, W.out.2⟩
        case round =>
          obtain ⟨s, hk, hj, rfl, Z⟩ := hrel
          obtain ⟨⟨m0, m1, m2, m3⟩, -⟩ := Z.out.1.four
          by_cases hst : s < N
          · have hsl : (s : Int) < (N : Int) := by omega
            have HS : Hid (s < N ∧ gk = N - s) := ⟨hst, hk⟩
            have hw2 : IntKind.i64.wrap ((s : Int) + 1) = (s : Int) + 1 := by rw [IntKind.wrap_i64]; omega
            have hrw := rowner_any fr' dp' N s _ ps' wr (RdS.grow HV.out.1 Z.out.2) HV.out.2.2.1
            have heq := HV.out.2.1.own_eq s HI.out.1
            rw [← HI.out.2] at heq
            generalize ownS ps' (s : Int) = o at hrw heq
            obtain ⟨ot, og, ok, ois⟩ := o
            simp only [hasB] at heq
            clear hk hj hst
            by_cases hge : d.b ≤ (s : Int)
            · by_cases hlt2 : (s : Int) < d.b + 2 * d.g
              · cases ois with
                | false => simp [hge, hlt2] at heq
                | true =>
                  have hte : (ot == ((t : Nat) : Int)) = true := by simpa [hge, hlt2] using heq.symm
                  have hte2 : decide (ot = ((t : Nat) : Int)) = true := by simpa using hte
                  clear heq
                  go_wp2_with fail
                  refine hrw.mono ?_
                  rintro e w5 ⟨rfl, g5⟩
                  have W5 : Hid (VarAt (w5.alloc (.cells #[.int .i64 ot, .int .i64 og, .int .i64 ok, .bool true] 39)) b3 [.int .i64 fr', .int .i64 dp', .int .i64 (N : Int), .slice a' ps'.length c'] ∧ Grow w3 (w5.alloc (.cells #[.int .i64 ot, .int .i64 og, .int .i64 ok, .bool true] 39))) := ⟨(Z.out.1.grow g5).old _, (Z.out.2.trans g5).alloc _⟩
                  clear g5 hrw m0 m1 m2 m3
                  go_wp2
                  go_roundg (N - (s + 1))
                  case measure => have := HS.out; omega
                  case rel => exact ⟨s + 1, rfl, HS.out.1, by go_num, W5.out.1, W5.out.2⟩
              · cases ois with
                | false =>
                  clear heq
                  have hlt3 : decide ((s : Int) < d.b + 2 * d.g) = false := by simpa using hlt2
                  go_wp2_with fail
                  refine hrw.mono ?_
                  rintro e w5 ⟨rfl, g5⟩
                  have W5 : Hid (VarAt (w5.alloc (.cells #[.int .i64 ot, .int .i64 og, .int .i64 ok, .bool false] 39)) b3 [.int .i64 fr', .int .i64 dp', .int .i64 (N : Int), .slice a' ps'.length c'] ∧ Grow w3 (w5.alloc (.cells #[.int .i64 ot, .int .i64 og, .int .i64 ok, .bool false] 39))) := ⟨(Z.out.1.grow g5).old _, (Z.out.2.trans g5).alloc _⟩
                  clear g5 hrw m0 m1 m2 m3
                  go_wp2
                  go_roundg (N - (s + 1))
                  case measure => have := HS.out; omega
                  case rel => exact ⟨s + 1, rfl, HS.out.1, by go_num, W5.out.1, W5.out.2⟩
                | true =>
                  have hte : (ot == ((t : Nat) : Int)) = false := by simpa [hge, hlt2] using heq.symm
                  have hte2 : decide (ot = ((t : Nat) : Int)) = false := by simpa using hte
                  clear heq
                  have hlt3 : decide ((s : Int) < d.b + 2 * d.g) = false := by simpa using hlt2
                  go_wp2_with fail
                  refine hrw.mono ?_
                  rintro e w5 ⟨rfl, g5⟩
                  have W5 : Hid (VarAt (w5.alloc (.cells #[.int .i64 ot, .int .i64 og, .int .i64 ok, .bool true] 39)) b3 [.int .i64 fr', .int .i64 dp', .int .i64 (N : Int), .slice a' ps'.length c'] ∧ Grow w3 (w5.alloc (.cells #[.int .i64 ot, .int .i64 og, .int .i64 ok, .bool true] 39))) := ⟨(Z.out.1.grow g5).old _, (Z.out.2.trans g5).alloc _⟩
                  clear g5 hrw m0 m1 m2 m3
                  go_wp2
                  go_roundg (N - (s + 1))
                  case measure => have := HS.out; omega
                  case rel => exact ⟨s + 1, rfl, HS.out.1, by go_num, W5.out.1, W5.out.2⟩
            · cases ois with
              | false =>
                clear heq
                have hge2 : decide (d.b ≤ (s : Int)) = false := by simpa using hge
                go_wp2_with fail
                refine hrw.mono ?_
                rintro e w5 ⟨rfl, g5⟩
                have W5 : Hid (VarAt (w5.alloc (.cells #[.int .i64 ot, .int .i64 og, .int .i64 ok, .bool false] 39)) b3 [.int .i64 fr', .int .i64 dp', .int .i64 (N : Int), .slice a' ps'.length c'] ∧ Grow w3 (w5.alloc (.cells #[.int .i64 ot, .int .i64 og, .int .i64 ok, .bool false] 39))) := ⟨(Z.out.1.grow g5).old _, (Z.out.2.trans g5).alloc _⟩
                clear g5 hrw m0 m1 m2 m3
                go_wp2
                go_roundg (N - (s + 1))
                case measure => have := HS.out; omega
                case rel => exact ⟨s + 1, rfl, HS.out.1, by go_num, W5.out.1, W5.out.2⟩
              | true =>
                have hte : (ot == ((t : Nat) : Int)) = false := by simpa [hge] using heq.symm
                have hte2 : decide (ot = ((t : Nat) : Int)) = false := by simpa using hte
                clear heq
                have hge2 : decide (d.b ≤ (s : Int)) = false := by simpa using hge
                go_wp2_with fail
                refine hrw.mono ?_
                rintro e w5 ⟨rfl, g5⟩
                have W5 : Hid (VarAt (w5.alloc (.cells #[.int .i64 ot, .int .i64 og, .int .i64 ok, .bool true] 39)) b3 [.int .i64 fr', .int .i64 dp', .int .i64 (N : Int), .slice a' ps'.length c'] ∧ Grow w3 (w5.alloc (.cells #[.int .i64 ot, .int .i64 og, .int .i64 ok, .bool true] 39))) := ⟨(Z.out.1.grow g5).old _, (Z.out.2.trans g5).alloc _⟩
                clear g5 hrw m0 m1 m2 m3
                go_wp2
                go_roundg (N - (s + 1))
                case measure => have := HS.out; omega
                case rel => exact ⟨s + 1, rfl, HS.out.1, by go_num, W5.out.1, W5.out.2⟩
          · have hsl : ¬ (s : Int) < (N : Int) := by omega
            clear hk hj hst
            go_wp2
            go_roundg (ps'.length + 1 - (t + 1))
            case measure => have := HK.out; omega
            case rel => exact ⟨t + 1, by have := HK.out; omega, by have := HK.out; omega, by go_num, Z.out.1, Z.out.2⟩
      · obtain rfl : t = ps'.length := by omega
        by_cases hta : 0 ≤ tn ∧ tn < (ps'.length : Int)
        · obtain ⟨i, rfl⟩ : ∃ i : Nat, tn = i := ⟨tn.toNat, by omega⟩
          have hi : i < ps'.length := by omega
          obtain ⟨d, hdd⟩ : ∃ d, d = ps'.getD i Pt.zero := ⟨_, rfl⟩
          clear hst hin hta
          have HI : Hid (i < ps'.length ∧ d = ps'.getD i Pt.zero) := ⟨hi, hdd⟩
          have hra := range_yes fr' dp' N i _ ps' wr (RdS.grow HV.out.1 Y.out.2) hi (HV.out.2.2.1 i hi)
          rw [← hdd] at hra
          have hi0 : (0 : Int) ≤ (i : Int) := by omega
          have hil : (i : Int) < (ps'.length : Int) := by omega
          clear hk hj hdd hi
          go_wp2_with fail
          refine hra.mono ?_
          rintro e w4 ⟨rfl, g4⟩
          have W : Hid (VarAt w4 b3 [.int .i64 fr', .int .i64 dp', .int .i64 (N : Int), .slice a' ps'.length c'] ∧ Grow w3 w4) := ⟨Y.out.1.grow g4, Y.out.2.trans g4⟩
          clear g4 hra m0 m1 m2 m3
          obtain ⟨⟨m0, m1, m2, m3⟩, -⟩ := W.out.1.four
          go_wp2
          clear m0 m1 m2 m3
          go_loopg [11] N (fun m sv wr => ∃ (s : Nat), m = N - s ∧ s ≤ N ∧ sv = .int .i64 s ∧ Hid (VarAt wr b3 [.int .i64 fr', .int .i64 dp', .int .i64 (N : Int), .slice a' ps'.length c'] ∧ Grow w3 wr))
          case atStart => exact ⟨0, by omega, by omega, rfl, W.out.1, W.out.2⟩
          case round =>
            obtain ⟨s, hk, hj, rfl, Z⟩ := hrel
            obtain ⟨⟨m0, m1, m2, m3⟩, -⟩ := Z.out.1.four
            by_cases hst : s < N
            · have hsl : (s : Int) < (N : Int) := by omega
              have HS : Hid (s < N ∧ gk = N - s) := ⟨hst, hk⟩
              have hw2 : IntKind.i64.wrap ((s : Int) + 1) = (s : Int) + 1 := by rw [IntKind.wrap_i64]; omega
              have hrw := rowner_any fr' dp' N s _ ps' wr (RdS.grow HV.out.1 Z.out.2) HV.out.2.2.1
              have heq := HV.out.2.1.own_eq s HI.out.1
              rw [← HI.out.2] at heq
              generalize ownS ps' (s : Int) = o at hrw heq
              obtain ⟨ot, og, ok, ois⟩ := o
              simp only [hasB] at heq
              clear hk hj hst
              by_cases hge : d.b ≤ (s : Int)
              · by_cases hlt2 : (s : Int) < d.b + 2 * d.g
                · cases ois with
                  | false => simp [hge, hlt2] at heq
                  | true =>
                    have hte : (ot == ((i : Nat) : Int)) = true := by simpa [hge, hlt2] using heq.symm
                    have hte2 : decide (ot = ((i : Nat) : Int)) = true := by simpa using hte
                    clear heq
                    go_wp2_with fail
                    refine hrw.mono ?_
                    rintro e w5 ⟨rfl, g5⟩
                    have W5 : Hid (VarAt (w5.alloc (.cells #[.int .i64 ot, .int .i64 og, .int .i64 ok, .bool true] 39)) b3 [.int .i64 fr', .int .i64 dp', .int .i64 (N : Int), .slice a' ps'.length c'] ∧ Grow w3 (w5.alloc (.cells #[.int .i64 ot, .int .i64 og, .int .i64 ok, .bool true] 39))) := ⟨(Z.out.1.grow g5).old _, (Z.out.2.trans g5).alloc _⟩
                    clear g5 hrw m0 m1 m2 m3
                    go_wp2
                    go_roundg (N - (s + 1))
                    case measure => have := HS.out; omega
                    case rel => exact ⟨s + 1, rfl, HS.out.1, by go_num, W5.out.1, W5.out.2⟩
                · cases ois with
                  | false =>
                    clear heq
                    have hlt3 : decide ((s : Int) < d.b + 2 * d.g) = false := by simpa using hlt2
                    go_wp2_with fail
                    refine hrw.mono ?_
                    rintro e w5 ⟨rfl, g5⟩
                    have W5 : Hid (VarAt (w5.alloc (.cells #[.int .i64 ot, .int .i64 og, .int .i64 ok, .bool false] 39)) b3 [.int .i64 fr', .int .i64 dp', .int .i64 (N : Int), .slice a' ps'.length c'] ∧ Grow w3 (w5.alloc (.cells #[.int .i64 ot, .int .i64 og, .int .i64 ok, .bool false] 39))) := ⟨(Z.out.1.grow g5).old _, (Z.out.2.trans g5).alloc _⟩
                    clear g5 hrw m0 m1 m2 m3
                    go_wp2
                    go_roundg (N - (s + 1))
                    case measure => have := HS.out; omega
                    case rel => exact ⟨s + 1, rfl, HS.out.1, by go_num, W5.out.1, W5.out.2⟩
                  | true =>
                    have hte : (ot == ((i : Nat) : Int)) = false := by simpa [hge, hlt2] using heq.symm
                    have hte2 : decide (ot = ((i : Nat) : Int)) = false := by simpa using hte
                    clear heq
                    have hlt3 : decide ((s : Int) < d.b + 2 * d.g) = false := by simpa using hlt2
                    go_wp2_with fail
                    refine hrw.mono ?_
                    rintro e w5 ⟨rfl, g5⟩
                    have W5 : Hid (VarAt (w5.alloc (.cells #[.int .i64 ot, .int .i64 og, .int .i64 ok, .bool true] 39)) b3 [.int .i64 fr', .int .i64 dp', .int .i64 (N : Int), .slice a' ps'.length c'] ∧ Grow w3 (w5.alloc (.cells #[.int .i64 ot, .int .i64 og, .int .i64 ok, .bool true] 39))) := ⟨(Z.out.1.grow g5).old _, (Z.out.2.trans g5).alloc _⟩
                    clear g5 hrw m0 m1 m2 m3
                    go_wp2
                    go_roundg (N - (s + 1))
                    case measure => have := HS.out; omega
                    case rel => exact ⟨s + 1, rfl, HS.out.1, by go_num, W5.out.1, W5.out.2⟩
              · cases ois with
                | false =>
                  clear heq
                  have hge2 : decide (d.b ≤ (s : Int)) = false := by simpa using hge
                  go_wp2_with fail
                  refine hrw.mono ?_
                  rintro e w5 ⟨rfl, g5⟩
                  have W5 : Hid (VarAt (w5.alloc (.cells #[.int .i64 ot, .int .i64 og, .int .i64 ok, .bool false] 39)) b3 [.int .i64 fr', .int .i64 dp', .int .i64 (N : Int), .slice a' ps'.length c'] ∧ Grow w3 (w5.alloc (.cells #[.int .i64 ot, .int .i64 og, .int .i64 ok, .bool false] 39))) := ⟨(Z.out.1.grow g5).old _, (Z.out.2.trans g5).alloc _⟩
                  clear g5 hrw m0 m1 m2 m3
                  go_wp2
                  go_roundg (N - (s + 1))
                  case measure => have := HS.out; omega
                  case rel => exact ⟨s + 1, rfl, HS.out.1, by go_num, W5.out.1, W5.out.2⟩
                | true =>
                  have hte : (ot == ((i : Nat) : Int)) = false := by simpa [hge] using heq.symm
                  have hte2 : decide (ot = ((i : Nat) : Int)) = false := by simpa using hte
                  clear heq
                  have hge2 : decide (d.b ≤ (s : Int)) = false := by simpa using hge
                  go_wp2_with fail
                  refine hrw.mono ?_
                  rintro e w5 ⟨rfl, g5⟩
                  have W5 : Hid (VarAt (w5.alloc (.cells #[.int .i64 ot, .int .i64 og, .int .i64 ok, .bool true] 39)) b3 [.int .i64 fr', .int .i64 dp', .int .i64 (N : Int), .slice a' ps'.length c'] ∧ Grow w3 (w5.alloc (.cells #[.int .i64 ot, .int .i64 og, .int .i64 ok, .bool true] 39))) := ⟨(Z.out.1.grow g5).old _, (Z.out.2.trans g5).alloc _⟩
                  clear g5 hrw m0 m1 m2 m3
                  go_wp2
                  go_roundg (N - (s + 1))
                  case measure => have := HS.out; omega
                  case rel => exact ⟨s + 1, rfl, HS.out.1, by go_num, W5.out.1, W5.out.2⟩
            · have hsl : ¬ (s : Int) < (N : Int) := by omega
              clear hk hj hst
              go_wp2
              go_roundg (ps'.length + 1 - (ps'.length + 1))
              case measure => have := HK.out; omega
              case rel => exact ⟨ps'.length + 1, by have := HK.out; omega, by have := HK.out; omega, by go_num, Z.out.1, Z.out.2⟩
        · have hra := range_no fr' dp' N tn _ ps' wr (RdS.grow HV.out.1 Y.out.2) hta
          by_cases h0 : 0 ≤ tn
          · have hnl : ¬ tn < (ps'.length : Int) := by omega
            have hnl2 : decide (tn < (ps'.length : Int)) = false := by simpa using hnl
            clear hk hj hst hin hta
            go_wp2_with fail
            refine hra.mono ?_
            rintro e w4 ⟨rfl, g4⟩
            have W : Hid (VarAt w4 b3 [.int .i64 fr', .int .i64 dp', .int .i64 (N : Int), .slice a' ps'.length c'] ∧ Grow w3 w4) := ⟨Y.out.1.grow g4, Y.out.2.trans g4⟩
            clear g4 hra m0 m1 m2 m3
            obtain ⟨⟨m0, m1, m2, m3⟩, -⟩ := W.out.1.four
            go_wp2
            clear m0 m1 m2 m3
            go_loopg [11] N (fun m sv wr => ∃ (s : Nat), m = N - s ∧ s ≤ N ∧ sv = .int .i64 s ∧ Hid (VarAt wr b3 [.int .i64 fr', .int .i64 dp', .int .i64 (N : Int), .slice a' ps'.length c'] ∧ Grow w3 wr))
            case atStart => exact ⟨0, by omega, by omega, rfl, W.out.1, W.out.2⟩
            case round =>
              obtain ⟨s, hk, hj, rfl, Z⟩ := hrel
              obtain ⟨⟨m0, m1, m2, m3⟩, -⟩ := Z.out.1.four
              by_cases hst : s < N
              · have hsl : (s : Int) < (N : Int) := by omega
                have HS : Hid (s < N ∧ gk = N - s) := ⟨hst, hk⟩
                have hw2 : IntKind.i64.wrap ((s : Int) + 1) = (s : Int) + 1 := by rw [IntKind.wrap_i64]; omega
                have hrw := rowner_any fr' dp' N s _ ps' wr (RdS.grow HV.out.1 Z.out.2) HV.out.2.2.1
                generalize ownS ps' (s : Int) = o at hrw
                obtain ⟨ot, og, ok, ois⟩ := o
                clear hk hj hst
                go_wp2_with fail
                refine hrw.mono ?_
                rintro e w5 ⟨rfl, g5⟩
                have W5 : Hid (VarAt (w5.alloc (.cells #[.int .i64 ot, .int .i64 og, .int .i64 ok, .bool ois] 39)) b3 [.int .i64 fr', .int .i64 dp', .int .i64 (N : Int), .slice a' ps'.length c'] ∧ Grow w3 (w5.alloc (.cells #[.int .i64 ot, .int .i64 og, .int .i64 ok, .bool ois] 39))) := ⟨(Z.out.1.grow g5).old _, (Z.out.2.trans g5).alloc _⟩
                clear g5 hrw m0 m1 m2 m3
                go_wp2
                go_roundg (N - (s + 1))
                case measure => have := HS.out; omega
                case rel => exact ⟨s + 1, rfl, HS.out.1, by go_num, W5.out.1, W5.out.2⟩
              · have hsl : ¬ (s : Int) < (N : Int) := by omega
                clear hk hj hst
                go_wp2
                go_roundg (ps'.length + 1 - (ps'.length + 1))
                case measure => have := HK.out; omega
                case rel => exact ⟨ps'.length + 1, by have := HK.out; omega, by have := HK.out; omega, by go_num, Z.out.1, Z.out.2⟩
          · clear hk hj hst hin hta
            go_wp2_with fail
            refine hra.mono ?_
            rintro e w4 ⟨rfl, g4⟩
            have W : Hid (VarAt w4 b3 [.int .i64 fr', .int .i64 dp', .int .i64 (N : Int), .slice a' ps'.length c'] ∧ Grow w3 w4) := ⟨Y.out.1.grow g4, Y.out.2.trans g4⟩
            clear g4 hra m0 m1 m2 m3
            obtain ⟨⟨m0, m1, m2, m3⟩, -⟩ := W.out.1.four
            go_wp2
            clear m0 m1 m2 m3
            go_loopg [11] N (fun m sv wr => ∃ (s : Nat), m = N - s ∧ s ≤ N ∧ sv = .int .i64 s ∧ Hid (VarAt wr b3 [.int .i64 fr', .int .i64 dp', .int .i64 (N : Int), .slice a' ps'.length c'] ∧ Grow w3 wr))
            case atStart => exact ⟨0, by omega, by omega, rfl, W.out.1, W.out.2⟩
            case round =>
              obtain ⟨s, hk, hj, rfl, Z⟩ := hrel
              obtain ⟨⟨m0, m1, m2, m3⟩, -⟩ := Z.out.1.four
              by_cases hst : s < N
              · have hsl : (s : Int) < (N : Int) := by omega
                have HS : Hid (s < N ∧ gk = N - s) := ⟨hst, hk⟩
                have hw2 : IntKind.i64.wrap ((s : Int) + 1) = (s : Int) + 1 := by rw [IntKind.wrap_i64]; omega
                have hrw := rowner_any fr' dp' N s _ ps' wr (RdS.grow HV.out.1 Z.out.2) HV.out.2.2.1
                generalize ownS ps' (s : Int) = o at hrw
                obtain ⟨ot, og, ok, ois⟩ := o
                clear hk hj hst
                go_wp2_with fail
                refine hrw.mono ?_
                rintro e w5 ⟨rfl, g5⟩
                have W5 : Hid (VarAt (w5.alloc (.cells #[.int .i64 ot, .int .i64 og, .int .i64 ok, .bool ois] 39)) b3 [.int .i64 fr', .int .i64 dp', .int .i64 (N : Int), .slice a' ps'.length c'] ∧ Grow w3 (w5.alloc (.cells #[.int .i64 ot, .int .i64 og, .int .i64 ok, .bool ois] 39))) := ⟨(Z.out.1.grow g5).old _, (Z.out.2.trans g5).alloc _⟩
                clear g5 hrw m0 m1 m2 m3
                go_wp2
                go_roundg (N - (s + 1))
                case measure => have := HS.out; omega
                case rel => exact ⟨s + 1, rfl, HS.out.1, by go_num, W5.out.1, W5.out.2⟩
              · have hsl : ¬ (s : Int) < (N : Int) := by omega
                clear hk hj hst
                go_wp2
                go_roundg (ps'.length + 1 - (ps'.length + 1))
                case measure => have := HK.out; omega
                case rel => exact ⟨ps'.length + 1, by have := HK.out; omega, by have := HK.out; omega, by go_num, Z.out.1, Z.out.2⟩
    · have hle : ¬ (t : Int) ≤ (ps'.length : Int) := by omega
      have hlv := lives_any wr
      clear hk hj hst
      go_wp2_with fail
      refine hlv.mono ?_
      rintro e w4 ⟨rfl, g4⟩
      go_wp2
      go_ret
      exact ⟨rfl, (HV.out.2.2.2.1.trans Y.out.2).trans g4⟩
end Go.Proofs.Ytfjfbcgjocpmoaa
