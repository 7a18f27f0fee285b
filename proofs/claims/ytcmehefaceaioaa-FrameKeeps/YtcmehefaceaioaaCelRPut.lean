/-
  The walks of the document's Put and Open. Conditions: each theorem's own.
-/
import Derived.Test.YtcmehefaceaioaaCelRef
namespace Go.Proofs.Ytcmehefaceaioaa
open Go.RowKit
set_option linter.unusedVariables false
set_option linter.unusedSimpArgs false

theorem cells32 {a : Option Addr} {c m : Nat} {zs : List Int} {B : Nat} {w : World} (h : Rd .u8 B w (.slice a m c) zs) : ∀ j, j < m → ∃ b p, a = some ⟨b, p, none⟩ ∧ b < w.heap.size ∧ w.cell? ⟨b, p + j, none⟩ = some (.int .u8 (zs.getD j 0)) := fun j hj => by
  obtain ⟨_, _, hm, b, p, e, _, hc⟩ := h.size.addr (by omega)
  exact ⟨b, p, e, World.block_lt_of_cell? _ _ (hc j hj), hc j hj⟩

set_option maxHeartbeats 1000000 in
theorem rput_no (v : Value) (x : Option Addr) (m xc : Nat) (zs : List Int) (off E : Int) (B : Nat) (w : World) (h : Rd .u8 B w v zs) (hmm : m ≤ maxLen) (ho : (Lit.int .i64 off).wf = true) (hE : fitE zs.length off m = E) (hE0 : E = 2 ∨ E = 4) :
    Calls Try.prog 25 #[v, .int .i64 off, .slice x m xc] w fun e w' => e = .returned (.tuple #[.slice none 0 0, .int .i64 E]) ∧ Grow w w' := by
  unfold maxLen at hmm
  have hf := rget_any v zs off m B w h ho (wfI (by omega))
  have e : got zs off m = ([], E) := by
    unfold got
    rw [hE, if_neg (by omega)]
  rw [e] at hf
  clear e hE h ho
  rcases hE0 with rfl | rfl
  · go_enter Try.func25, Try.ntmps25
    go_wp2_with fail
    refine hf.mono ?_
    rintro e w1 ⟨v1, rfl, ho1, hb1⟩
    obtain ⟨a1, c1, hv1⟩ := ho1.shape
    subst hv1
    go_wp2
    go_ret2
    exact ⟨rfl, hb1⟩
  · go_enter Try.func25, Try.ntmps25
    go_wp2_with fail
    refine hf.mono ?_
    rintro e w1 ⟨v1, rfl, ho1, hb1⟩
    obtain ⟨a1, c1, hv1⟩ := ho1.shape
    subst hv1
    go_wp2
    go_ret2
    exact ⟨rfl, hb1⟩

set_option maxHeartbeats 4000000 in
theorem rput_yes (a x : Option Addr) (c m xc : Nat) (zs ys : List Int) (o : Nat) (B C : Nat) (w : World) (h : Rd .u8 B w (.slice a 32 c) zs) (hy : Rd .u8 C w (.slice x m xc) ys) (hom : o + m ≤ 32) :
    Calls Try.prog 25 #[.slice a 32 c, .int .i64 (o : Int), .slice x m xc] w fun e w' => ∃ v', e = .returned (.tuple #[v', .int .i64 0]) ∧ Own .u8 w.heap.size w' v' (midL zs o ys) ∧ Grow w w' := by
  obtain ⟨i0, hi, hz0, hz1, hz2⟩ := info_parts Try.info5
  have hcap := h.caps
  have hcay := hy.caps
  have hg := rget_yes a c zs o m B w h hom
  have hcell := cells32 h
  have hycell := cells32 hy
  have HL : Hid (zs.length = 32 ∧ ys.length = m) := ⟨by omega, by omega⟩
  have hc32 : 32 ≤ c := by omega
  have hmx : m ≤ xc := by omega
  have hm32 : m ≤ 32 := by omega
  have HM : Hid ((midL zs o ys).take 32 = midL zs o ys) := List.take_of_length_le (by rw [midL_length (by rw [HL.out.1, HL.out.2]; exact hom), HL.out.1]; exact Nat.le_refl _)
  clear h hy hcap hcay
  generalize (zs.drop o).take m = gs at hg
  go_enter Try.func25, Try.ntmps25
  go_wp2_with fail
  refine hg.mono ?_
  rintro e w1 ⟨v1, rfl, ho1, hb1⟩
  obtain ⟨a1, c1, hv1⟩ := ho1.shape
  subst hv1
  have HB : Hid (Grow w w1) := hb1
  clear ho1 hb1 hg
  go_wp2
  go_loopg [10, 11] 32 (fun k d i wr => ∃ j : Nat, k = 32 - j ∧ j ≤ 32 ∧ i = .int .i64 (j : Int) ∧ Own .u8 w.heap.size wr d ((midL zs o ys).take j) ∧ Below w.heap.size w wr)
  case atStart => exact ⟨0, rfl, Nat.zero_le _, by simp, Own.nil _ _ _ _, HB.out⟩
  case round =>
    obtain ⟨j, hk, hj, rfl, ho, hb⟩ := hrel
    have hBr := hb.size
    by_cases hlt : j < 32
    · have hlt' : (j : Int) < 32 := by omega
      have hll : ((midL zs o ys).take j).length ≤ 32 := by rw [List.length_take]; omega
      have hj1 : j ≤ 31 := by omega
      clear hj
      by_cases hin : o ≤ j ∧ j < o + m
      · have HT : Hid ((midL zs o ys).take (j + 1) = (midL zs o ys).take j ++ [ys.getD (j - o) 0]) := by
          show (midL zs o ys).take (j + 1) = (midL zs o ys).take j ++ [ys.getD (j - o) 0]
          rw [take_snoc _ 0 j (by rw [midL_length (by rw [HL.out.1, HL.out.2]; exact hom), HL.out.1]; exact hlt), midL_in (by rw [HL.out.1, HL.out.2]; exact hom) 0 hin.1 (by rw [HL.out.2]; exact hin.2)]
        obtain ⟨b, p, rfl, hbB, hc⟩ := hycell (j - o) (by omega)
        have hcr : wr.cell? ⟨b, p + (j - o), none⟩ = some (.int .u8 (ys.getD (j - o) 0)) := by rw [hb.cell (p := ⟨b, p + (j - o), none⟩) hbB]; exact hc
        clear hc hcell hycell
        generalize ys.getD (j - o) 0 = x at hcr HT
        have HJ : Hid (j < 32 ∧ gk = 32 - j) := ⟨hlt, hk⟩
        have h1 : (o : Int) ≤ (j : Int) := by omega
        have h2 : (j : Int) < (o : Int) + (m : Int) := by omega
        have hsub : (j : Int) - (o : Int) = ((j - o : Nat) : Int) := by omega
        have hwsub : IntKind.i64.wrap ((j : Int) - (o : Int)) = ((j - o : Nat) : Int) := by rw [IntKind.wrap_i64]; omega
        have hy0 : j - o < m := by omega
        clear hlt hk
        generalize j - o = y at hcr hsub hwsub hy0
        have hy1 : (y : Int) < (m : Int) := by omega
        go_wp2_with (at_builtin; refine wpList_app rfl (.tmp 38) (.tmp 45) 35 35 rfl i0 (.int .u8 0) 1 Try.underlying35 hi hz0 hz1 hz2 rfl rfl rfl (ho.alloc _) (Src.one (w := wr) Try.underlying35 .u8 x 5) (by simp only [maxLen, List.length_singleton]; omega) (by simp only [List.length_singleton]; omega) (by simp; omega) ?_)
        intro v' w' ho' hb'
        go_wp2
        go_roundg (32 - (j + 1))
        case measure => have := HJ.out; omega
        case rel =>
          refine ⟨j + 1, rfl, by have := HJ.out; omega, by go_num, ?_, ?_⟩
          · rw [HT.out]; exact ho'
          · exact hb.trans (((Below.refl _ wr).alloc hBr _).trans hb')
      · rcases (show j < o ∨ (o ≤ j ∧ o + m ≤ j) by omega) with hlo | hhi
        · have HT : Hid ((midL zs o ys).take (j + 1) = (midL zs o ys).take j ++ [zs.getD j 0]) := by
            show (midL zs o ys).take (j + 1) = (midL zs o ys).take j ++ [zs.getD j 0]
            rw [take_snoc _ 0 j (by rw [midL_length (by rw [HL.out.1, HL.out.2]; exact hom), HL.out.1]; exact hlt), midL_out (by rw [HL.out.1, HL.out.2]; exact hom) 0 (by rw [HL.out.2]; omega)]
          obtain ⟨b, p, rfl, hbB, hc⟩ := hcell j hlt
          have hcr : wr.cell? ⟨b, p + j, none⟩ = some (.int .u8 (zs.getD j 0)) := by rw [hb.cell (p := ⟨b, p + j, none⟩) hbB]; exact hc
          clear hc hcell hycell
          generalize zs.getD j 0 = x at hcr HT
          have HJ : Hid (j < 32 ∧ gk = 32 - j) := ⟨hlt, hk⟩
          have h1 : ¬ (o : Int) ≤ (j : Int) := by omega
          clear hlt hk
          go_wp2_with (at_builtin; refine wpList_app rfl (.tmp 47) (.tmp 52) 35 35 rfl i0 (.int .u8 0) 1 Try.underlying35 hi hz0 hz1 hz2 rfl rfl rfl (ho.alloc _) (Src.one (w := wr) Try.underlying35 .u8 x 5) (by simp only [maxLen, List.length_singleton]; omega) (by simp only [List.length_singleton]; omega) (by simp; omega) ?_)
          intro v' w' ho' hb'
          go_wp2
          go_roundg (32 - (j + 1))
          case measure => have := HJ.out; omega
          case rel =>
            refine ⟨j + 1, rfl, by have := HJ.out; omega, by go_num, ?_, ?_⟩
            · rw [HT.out]; exact ho'
            · exact hb.trans (((Below.refl _ wr).alloc hBr _).trans hb')
        · have HT : Hid ((midL zs o ys).take (j + 1) = (midL zs o ys).take j ++ [zs.getD j 0]) := by
            show (midL zs o ys).take (j + 1) = (midL zs o ys).take j ++ [zs.getD j 0]
            rw [take_snoc _ 0 j (by rw [midL_length (by rw [HL.out.1, HL.out.2]; exact hom), HL.out.1]; exact hlt), midL_out (by rw [HL.out.1, HL.out.2]; exact hom) 0 (by rw [HL.out.2]; omega)]
          obtain ⟨b, p, rfl, hbB, hc⟩ := hcell j hlt
          have hcr : wr.cell? ⟨b, p + j, none⟩ = some (.int .u8 (zs.getD j 0)) := by rw [hb.cell (p := ⟨b, p + j, none⟩) hbB]; exact hc
          clear hc hcell hycell
          generalize zs.getD j 0 = x at hcr HT
          have HJ : Hid (j < 32 ∧ gk = 32 - j) := ⟨hlt, hk⟩
          have h1 : (o : Int) ≤ (j : Int) := by omega
          have h2 : ¬ (j : Int) < (o : Int) + (m : Int) := by omega
          clear hlt hk
          go_wp2_with (at_builtin; refine wpList_app rfl (.tmp 47) (.tmp 52) 35 35 rfl i0 (.int .u8 0) 1 Try.underlying35 hi hz0 hz1 hz2 rfl rfl rfl (ho.alloc _) (Src.one (w := wr) Try.underlying35 .u8 x 5) (by simp only [maxLen, List.length_singleton]; omega) (by simp only [List.length_singleton]; omega) (by simp; omega) ?_)
          intro v' w' ho' hb'
          go_wp2
          go_roundg (32 - (j + 1))
          case measure => have := HJ.out; omega
          case rel =>
            refine ⟨j + 1, rfl, by have := HJ.out; omega, by go_num, ?_, ?_⟩
            · rw [HT.out]; exact ho'
            · exact hb.trans (((Below.refl _ wr).alloc hBr _).trans hb')
    · obtain rfl : j = 32 := by omega
      rw [HM.out] at ho
      go_wp2
      go_ret2
      exact ⟨_, rfl, ho, hb⟩

/-- the document's Put, of whatever page, place and bytes -/
theorem rputp_any (v vy : Value) (zs ys : List Int) (off : Int) (B C : Nat) (w : World) (h : Rd .u8 B w v zs) (hy : Rd .u8 C w vy ys) (ho : (Lit.int .i64 off).wf = true) :
    Calls Try.prog 25 #[v, .int .i64 off, vy] w fun e w' => ∃ v', e = .returned (.tuple #[v', .int .i64 (putted zs off ys).2]) ∧ Own .u8 w.heap.size w' v' (putted zs off ys).1 ∧ Grow w w' := by
  have h' := h
  have hy' := hy
  obtain ⟨x, xc, rfl, y1, y2, -⟩ := hy
  rcases fitE_cases zs.length off ys.length with ⟨_, hE⟩ | ⟨_, _, hE⟩ | ⟨hl, h3, h4, h5, hE⟩
  · have e : putted zs off ys = ([], 2) := by unfold putted; rw [hE]; rfl
    refine (rput_no v x _ xc zs off 2 B w h (by omega) ho hE (.inl rfl)).mono ?_
    rintro _ _ ⟨rfl, g⟩
    rw [e]
    exact ⟨_, rfl, Own.nil _ _ _ _, g⟩
  · have e : putted zs off ys = ([], 4) := by unfold putted; rw [hE]; rfl
    refine (rput_no v x _ xc zs off 4 B w h (by omega) ho hE (.inr rfl)).mono ?_
    rintro _ _ ⟨rfl, g⟩
    rw [e]
    exact ⟨_, rfl, Own.nil _ _ _ _, g⟩
  · obtain ⟨o, rfl⟩ := Int.eq_ofNat_of_zero_le h3
    have e : putted zs o ys = (midL zs o ys, 0) := by unfold putted; rw [if_pos hE]; rfl
    rw [e]
    obtain ⟨a, c, rfl, h1, h2, -⟩ := h
    rw [hl] at h' ⊢
    exact rput_yes a x c _ xc zs ys o B C w h' hy' (by omega)

end Go.Proofs.Ytcmehefaceaioaa
