/-
  The walk of the law ExtentOwners. Conditions: the theorem's own.
-/
import Derived.Test.YtfjfbcgjocpmoaaExtOwn
namespace Go.Proofs.Ytfjfbcgjocpmoaa
open Go.RowKit
set_option linter.unusedVariables false
set_option linter.unusedSimpArgs false

set_option maxHeartbeats 8000000 in
theorem extentOwners_walk {p : Nat → Prop} (fr dp se : Int) (v : Value) (ps : List Pt) (n : Int) (w : World) (h : RdP p w v ps) (hok : ∀ x ∈ ps, x.Ok) (hdp : W64 dp) (hse : W64 se) :
    Calls Try.prog 4 #[.agg #[.int .i64 fr, .int .i64 dp, .int .i64 se, v], .int .i64 n] w fun e w' => e = .returned (.bool true) ∧ Below w.heap.size w w' := by
  have HG : Hid (Grow w (w.alloc (.cells #[.int .i64 fr, .int .i64 dp, .int .i64 se, v] 24))) := (Grow.refl w).alloc _
  have hgood := fun w' (g : Grow w w') => good_any fr dp se v ps w' (RdS.grow h g) hok hdp hse
  obtain ⟨a, cp, rfl, h1, h2, -⟩ := h
  clear hok hdp hse
  go_enter Try.func4, Try.ntmps4
  go_wp2_with fail
  refine (hgood _ HG.out).mono ?_
  rintro e w2 ⟨fr', dp', se', v', ps', rfl, hG, hR, g2⟩
  obtain ⟨N, rfl⟩ : ∃ N : Nat, se' = N := ⟨se'.toNat, by have := hG.bounds; omega⟩
  have HR : Hid (GoodC fr' dp' N ps' ∧ RdP (fun i => (w.alloc (.cells #[.int .i64 fr, .int .i64 dp, .int .i64 se, .slice a ps.length cp] 24)).heap.size ≤ i) w2 v' ps' ∧ Grow w w2) := ⟨hG, hR, HG.out.trans g2⟩
  have hN : 2 ≤ N ∧ N ≤ 42 := by have := hG.bounds; omega
  have hL : 1 ≤ ps'.length ∧ ps'.length ≤ 4 := by have := hG.bounds; omega
  obtain ⟨a', c', rfl, _, _, -⟩ := hR
  clear hG g2 hgood HG
  have X0 : Hid (VarAt (w2.alloc (.cells #[.int .i64 fr', .int .i64 dp', .int .i64 (N : Int), .slice a' ps'.length c'] 24)) w2.heap.size [.int .i64 fr', .int .i64 dp', .int .i64 (N : Int), .slice a' ps'.length c'] ∧ Grow w2 (w2.alloc (.cells #[.int .i64 fr', .int .i64 dp', .int .i64 (N : Int), .slice a' ps'.length c'] 24))) := ⟨VarAt.new w2 [.int .i64 fr', .int .i64 dp', .int .i64 (N : Int), .slice a' ps'.length c'] _, (Grow.refl w2).alloc _⟩
  go_wp2
  generalize w2.alloc (.cells #[.int .i64 fr', .int .i64 dp', .int .i64 (N : Int), .slice a' ps'.length c'] 24) = w3 at X0 ⊢
  generalize w2.heap.size = b3 at X0 ⊢
  have HV : Hid (RdP (fun i => (w.alloc (.cells #[.int .i64 fr, .int .i64 dp, .int .i64 se, .slice a ps.length cp] 24)).heap.size ≤ i) w3 (.slice a' ps'.length c') ps' ∧ GoodC fr' dp' N ps' ∧ InB ps' ∧ Grow w w3 ∧ VarAt w3 b3 [.int .i64 fr', .int .i64 dp', .int .i64 (N : Int), .slice a' ps'.length c']) := ⟨RdS.grow HR.out.2.1 X0.out.2, HR.out.1, HR.out.1.inb, HR.out.2.2.trans X0.out.2, X0.out.1⟩
  clear X0 HR
  go_loopg [6] (N + 3) (fun m sv wr => ∃ (s : Int), (m : Int) = N + 2 - s ∧ -1 ≤ s ∧ s ≤ N + 2 ∧ sv = .int .i64 s ∧ Hid (VarAt wr b3 [.int .i64 fr', .int .i64 dp', .int .i64 (N : Int), .slice a' ps'.length c'] ∧ Grow w3 wr))
  case atStart => exact ⟨-1, by omega, by omega, by omega, rfl, HV.out.2.2.2.2, Grow.refl _⟩
  case round =>
    obtain ⟨s, hk, hs0, hs1, rfl, Y⟩ := hrel
    obtain ⟨⟨m0, m1, m2, m3⟩, -⟩ := Y.out.1.four
    have hwN : IntKind.i64.wrap ((N : Int) + 1) = (N : Int) + 1 := by rw [IntKind.wrap_i64]; omega
    by_cases hst : s ≤ (N : Int) + 1
    · have HK : Hid (s ≤ (N : Int) + 1 ∧ (gk : Int) = N + 2 - s ∧ -1 ≤ s) := ⟨hst, hk, hs0⟩
      have hw1 : IntKind.i64.wrap (s + 1) = s + 1 := by rw [IntKind.wrap_i64]; omega
      by_cases hin : (N : Int) < s
      · have how := owner_any fr' dp' N n _ ps' wr (RdS.grow HV.out.1 Y.out.2) HV.out.2.2.1
        have hrw := fun w' (g : Grow w3 w') => rowner_any fr' dp' N n _ ps' w' (RdS.grow HV.out.1 g) HV.out.2.2.1
        generalize ownS ps' n = o at how hrw
        obtain ⟨ot, og, ok, ois⟩ := o
        clear hk hs0 hs1
        go_wp2_with fail
        refine how.mono ?_
        rintro e w4 ⟨rfl, g4⟩
        have W : Hid (VarAt w4 b3 [.int .i64 fr', .int .i64 dp', .int .i64 (N : Int), .slice a' ps'.length c'] ∧ Grow w3 w4) := ⟨Y.out.1.grow g4, Y.out.2.trans g4⟩
        clear g4 how m0 m1 m2 m3
        obtain ⟨⟨m0, m1, m2, m3⟩, -⟩ := W.out.1.four
        go_wp2_with fail
        refine (hrw _ W.out.2).mono ?_
        rintro e w5 ⟨rfl, g5⟩
        have W5 : Hid (VarAt (w5.alloc (.cells #[.int .i64 ot, .int .i64 og, .int .i64 ok, .bool ois] 39)) b3 [.int .i64 fr', .int .i64 dp', .int .i64 (N : Int), .slice a' ps'.length c'] ∧ Grow w3 (w5.alloc (.cells #[.int .i64 ot, .int .i64 og, .int .i64 ok, .bool ois] 39))) := ⟨(W.out.1.grow g5).old _, (W.out.2.trans g5).alloc _⟩
        clear g5 hrw m0 m1 m2 m3
        go_wp2
        go_roundg (N + 2 - (s + 1)).toNat
        case measure => have := HK.out; omega
        case rel => exact ⟨s + 1, by have := HK.out; omega, by have := HK.out; omega, by have := HK.out; omega, by go_num, W5.out.1, W5.out.2⟩
      · have how := owner_any fr' dp' N s _ ps' wr (RdS.grow HV.out.1 Y.out.2) HV.out.2.2.1
        have hrw := fun w' (g : Grow w3 w') => rowner_any fr' dp' N s _ ps' w' (RdS.grow HV.out.1 g) HV.out.2.2.1
        generalize ownS ps' s = o at how hrw
        obtain ⟨ot, og, ok, ois⟩ := o
        clear hk hs0 hs1
        go_wp2_with fail
        refine how.mono ?_
        rintro e w4 ⟨rfl, g4⟩
        have W : Hid (VarAt w4 b3 [.int .i64 fr', .int .i64 dp', .int .i64 (N : Int), .slice a' ps'.length c'] ∧ Grow w3 w4) := ⟨Y.out.1.grow g4, Y.out.2.trans g4⟩
        clear g4 how m0 m1 m2 m3
        obtain ⟨⟨m0, m1, m2, m3⟩, -⟩ := W.out.1.four
        go_wp2_with fail
        refine (hrw _ W.out.2).mono ?_
        rintro e w5 ⟨rfl, g5⟩
        have W5 : Hid (VarAt (w5.alloc (.cells #[.int .i64 ot, .int .i64 og, .int .i64 ok, .bool ois] 39)) b3 [.int .i64 fr', .int .i64 dp', .int .i64 (N : Int), .slice a' ps'.length c'] ∧ Grow w3 (w5.alloc (.cells #[.int .i64 ot, .int .i64 og, .int .i64 ok, .bool ois] 39))) := ⟨(W.out.1.grow g5).old _, (W.out.2.trans g5).alloc _⟩
        clear g5 hrw m0 m1 m2 m3
        go_wp2
        go_roundg (N + 2 - (s + 1)).toNat
        case measure => have := HK.out; omega
        case rel => exact ⟨s + 1, by have := HK.out; omega, by have := HK.out; omega, by have := HK.out; omega, by go_num, W5.out.1, W5.out.2⟩
    · have hlv := lives_any wr
      clear hk hs0 hs1
      go_wp2_with fail
      refine hlv.mono ?_
      rintro e w4 ⟨rfl, g4⟩
      go_wp2
      go_ret
      exact ⟨rfl, (HV.out.2.2.2.1.trans Y.out.2).trans g4⟩
end Go.Proofs.Ytfjfbcgjocpmoaa
