/-
  The walk of the law's example of stage 8. Conditions: none.
-/
import Derived.Test.YtlhkjmhdhpgjkaaCelJoin
import Derived.Test.YtlhkjmhdhpgjkaaCelGet
namespace Go.Proofs.Ytlhkjmhdhpgjkaa
open Go.RowKit
set_option linter.unusedVariables false
set_option linter.unusedSimpArgs false

/-- two slices in a row: their cells -/
theorem two_cells {q : Nat → Prop} {w : World} {av : Option Addr} {cv : Nat} {s0 s1 : Option Addr × Nat × Nat} (h : RdV slF sl0 q w (.slice av 2 cv) [s0, s1]) :
    ∃ b o, av = some ⟨b, o, none⟩ ∧ 2 ≤ cv ∧ w.cell? ⟨b, o, none⟩ = some (slF s0) ∧ w.cell? ⟨b, o + 1, none⟩ = some (slF s1) ∧ q b := by
  have hc := h.caps
  obtain ⟨b, o, rfl, hq, hcell⟩ := h.addr (by simp)
  exact ⟨b, o, rfl, by omega, hcell 0 (by simp), hcell 1 (by simp), hq⟩

set_option maxHeartbeats 4000000 in
theorem lives8_any (w : World) : Calls Try.prog 15 #[] w fun e w' => e = .returned (.bool true) ∧ Grow w w' := by
  obtain ⟨i0, hi, hz0, hz1, hz2⟩ := info_parts Try.info5
  go_enter Try.func15, Try.ntmps15
  go_wp2_with (at_make; refine wpList_makeV rfl (.const (.int .i64 32)) (.const (.int .i64 32)) 22 rfl (Value.int .u8) 0 5 i0 Try.underlying22 hi hz0 rfl 1 hz1 hz2 .i64 .i64 32 32 rfl rfl rfl (by omega) (by omega) ?_)
  intro v1 w1 ho1 hg1 hlt1
  obtain ⟨a1, c1, hv1⟩ := ho1.shape
  have hv2 : v1 = .slice a1 32 c1 := hv1
  subst hv2
  have hp : Calls Try.prog 22 #[.slice a1 32 c1, .int .i64 15, .slice (some ⟨w1.heap.size, 0, none⟩) 2 2] (w1.alloc (.cells #[.int .u8 7, .int .u8 8] 5)) fun e w' => ∃ v', e = .returned (.tuple #[v', .int .i64 0]) ∧ Own .u8 (w1.alloc (.cells #[.int .u8 7, .int .u8 8] 5)).heap.size w' v' (midL (List.replicate 32 0) 15 [7, 8]) ∧ Grow (w1.alloc (.cells #[.int .u8 7, .int .u8 8] 5)) w' :=
    put_yes a1 (some ⟨w1.heap.size, 0, none⟩) c1 2 2 (List.replicate 32 0) [7, 8] 15 _ _ _ (ho1.rd.grow ((Grow.refl w1).alloc _)).i (own_row .u8 [7, 8] 5 w1 0 (Nat.zero_le _) (by simp)).rd (by omega)
  have HG : Hid (Grow w (w1.alloc (.cells #[.int .u8 7, .int .u8 8] 5))) := hg1.alloc _
  have H1 : Hid ((midL (List.replicate 32 (0 : Int)) 15 [7, 8]).length = 32) := rfl
  have H2 : Hid (((midL (List.replicate 32 (0 : Int)) 15 [7, 8]).take 16).drop 15 = [7]) := rfl
  have H3 : Hid (((midL (List.replicate 32 (0 : Int)) 15 [7, 8]).drop 16).take 1 = [8]) := rfl
  generalize midL (List.replicate 32 (0 : Int)) 15 [7, 8] = M at hp H1 H2 H3
  clear ho1 hg1 hlt1 hv1
  go_wp2_with fail
  refine hp.mono ?_
  rintro e w2 ⟨v2, rfl, ho2, hb2⟩
  obtain ⟨a2, c2, hv2⟩ := ho2.shape
  rw [H1.out] at hv2
  subst hv2
  have hs := split_yes a2 c2 M _ w2 ho2.rd
  have HG2 : Hid (Grow w w2) := HG.out.trans hb2
  clear HG hp hb2 ho2
  have HL : Hid ((M.take 16).length = 16 ∧ (M.drop 16).length = 16) := ⟨by have := H1.out; rw [List.length_take]; omega, by have := H1.out; rw [List.length_drop]; omega⟩
  generalize M.take 16 = z0 at hs H2 HL
  generalize M.drop 16 = z1 at hs H3 HL
  go_wp2_with fail
  refine hs.mono ?_
  rintro e w3 ⟨av, cv, a0, c0, a1, c1, rfl, hR, hO0, hO1, hb3⟩
  obtain ⟨b, o, rfl, hcv, k0, k1, -⟩ := two_cells hR.rd
  have k0' : w3.cell? ⟨b, o, none⟩ = some (.slice a0 16 c0) := k0
  have k1' : w3.cell? ⟨b, o + 1, none⟩ = some (.slice a1 16 c1) := k1
  obtain ⟨-, -, -, b0, o0, rfl, -, -⟩ := hO0.rd.addr (by omega)
  have q0 := hO0.rd.caps
  have q1 := hO1.rd.caps
  have x0 : ¬ c0 = 15 := by omega
  have x1 : 16 ≤ c0 := by omega
  have x2 : 16 ≤ c1 := by omega
  have x3 : c0 ≤ maxLen := by omega
  have x4 : c1 ≤ maxLen := by omega
  unfold maxLen at x3 x4
  have s0 := (hO0.rd.drop 15 (by have := HL.out; omega)).string (P := Try.prog) 22 9 5 Try.underlying22 Try.underlying5 Try.underlying9
  rw [if_neg x0, H2.out] at s0
  have s1 := (hO1.rd.take 1 (by have := HL.out; omega)).string (P := Try.prog) 22 9 5 Try.underlying22 Try.underlying5 Try.underlying9
  rw [H3.out] at s1
  have t0 : strOfNums [7] = ⟨#[7]⟩ := by kernel_rfl
  have t1 : strOfNums [8] = ⟨#[8]⟩ := by kernel_rfl
  rw [t0] at s0
  simp only [Option.map_some, Addr.add_lit, Nat.reduceSub] at s0
  rw [t1] at s1
  have HG3 : Hid (Grow w w3) := HG2.out.trans hb3
  clear k0 k1 q0 q1 t0 t1 hR hO0 hO1 hb3 hs HG2
  go_wp2
  go_ret
  exact ⟨rfl, HG3.out⟩
end Go.Proofs.Ytlhkjmhdhpgjkaa
