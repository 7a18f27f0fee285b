/-
  The walk of the document's Fill. Conditions: the theorem's own.
-/
import Derived.Test.YtcmehefaceaioaaCelMath
namespace Go.Proofs.Ytcmehefaceaioaa
open Go.RowKit
set_option linter.unusedVariables false
set_option linter.unusedSimpArgs false

set_option maxHeartbeats 2000000 in
theorem fill_any (v : Value) (zs : List Int) (ni : Int) (n : Nat) (B : Nat) (w : World) (hni : ni = n) (h : Rd .u8 B w v zs) (hn : n ≤ 1000) :
    Calls Try.prog 19 #[v, .int .i64 ni] w fun e w' => ∃ v', e = .returned v' ∧ Own .u8 w.heap.size w' v' (fillL zs n) ∧ Grow w w' := by
  obtain ⟨i0, hi, hz0, hz1, hz2⟩ := info_parts Try.info5
  subst hni
  have hlm := h.len
  replace h := h.size
  obtain ⟨a, c, rfl, h1, h2, h3⟩ := h
  unfold maxLen at hlm
  by_cases h0 : zs.length = 0
  · have hx : ∀ j, zs.getD (j % zs.length) 0 = 0 := fun j => by rw [List.eq_nil_of_length_eq_zero h0]; rfl
    have HX : Hid (∀ j, fillL zs (j + 1) = fillL zs j ++ [0]) := fun j => by rw [fillL_succ, hx]
    rw [h0]
    clear hx h0 h3 hlm h1
    go_enter Try.func19, Try.ntmps19
    go_wp2
    go_loopg [5, 6] n (fun k d i wr => ∃ j : Nat, k = n - j ∧ j ≤ n ∧ i = .int .i64 j ∧ Own .u8 w.heap.size wr d (fillL zs j) ∧ Below w.heap.size w wr)
    case atStart => exact ⟨0, rfl, Nat.zero_le _, rfl, Own.nil _ _ _ _, Below.refl _ _⟩
    case round =>
      obtain ⟨j, hk, hj, rfl, ho, hb⟩ := hrel
      have hBr := hb.size
      by_cases hlt : j < n
      · have hlt' : (j : Int) < (n : Int) := by omega
        have hll : (fillL zs j).length ≤ 1000 := by rw [fillL_length]; omega
        go_wp2_with (at_builtin; refine wpList_app rfl (.tmp 25) (.tmp 26) 35 35 rfl i0 (.int .u8 0) 1 Try.underlying35 hi hz0 hz1 hz2 rfl rfl rfl (ho.alloc _) (Src.one (w := wr) Try.underlying35 .u8 0 5) (by simp only [maxLen, List.length_singleton]; omega) (by simp only [List.length_singleton]; omega) (by simp; omega) ?_)
        intro v' w' ho' hb'
        go_wp2
        go_roundg (n - (j + 1))
        case measure => omega
        case rel =>
          refine ⟨j + 1, rfl, by omega, by go_num, ?_, ?_⟩
          · rw [HX.out]; exact ho'
          · exact hb.trans (((Below.refl _ wr).alloc hBr _).trans hb')
      · obtain rfl : j = n := by omega
        go_wp2
        go_ret
        exact ⟨_, rfl, ho, hb⟩
  · have hpos : 0 < (zs.length : Int) := by omega
    have hne : ¬ (zs.length : Int) = 0 := by omega
    go_enter Try.func19, Try.ntmps19
    go_wp2
    go_loopg [5, 6] n (fun k d i wr => ∃ j : Nat, k = n - j ∧ j ≤ n ∧ i = .int .i64 j ∧ Own .u8 w.heap.size wr d (fillL zs j) ∧ Below w.heap.size w wr)
    case atStart => exact ⟨0, rfl, Nat.zero_le _, rfl, Own.nil _ _ _ _, Below.refl _ _⟩
    case round =>
      obtain ⟨j, hk, hj, rfl, ho, hb⟩ := hrel
      have hBr := hb.size
      by_cases hlt : j < n
      · have hlt' : (j : Int) < (n : Int) := by omega
        have hll : (fillL zs j).length ≤ 1000 := by rw [fillL_length]; omega
        have hml : j % zs.length < zs.length := Nat.mod_lt _ (by omega)
        obtain ⟨b, o, rfl, hbB, hc⟩ := h3 (j % zs.length) hml
        have hcr : wr.cell? ⟨b, o + j % zs.length, none⟩ = some (.int .u8 (zs.getD (j % zs.length) 0)) := by rw [hb.cell (p := ⟨b, o + j % zs.length, none⟩) hbB]; exact hc
        have HT : Hid (fillL zs (j + 1) = fillL zs j ++ [zs.getD (j % zs.length) 0]) := fillL_succ zs j
        have hmod : (j : Int) % (zs.length : Int) = ((j % zs.length : Nat) : Int) := by omega
        have htmod : (j : Int).tmod (zs.length : Int) = ((j % zs.length : Nat) : Int) := by rw [Int.tmod_eq_emod_of_nonneg (by omega)]; omega
        clear hc h3
        generalize zs.getD (j % zs.length) 0 = x at hcr HT
        generalize j % zs.length = y at hcr hml hmod htmod
        have hy0 : (0 : Int) ≤ (y : Int) := by omega
        have hy1 : (y : Int) < (zs.length : Int) := by omega
        go_wp2_with (at_builtin; refine wpList_app rfl (.tmp 15) (.tmp 23) 35 35 rfl i0 (.int .u8 0) 1 Try.underlying35 hi hz0 hz1 hz2 rfl rfl rfl (ho.alloc _) (Src.one (w := wr) Try.underlying35 .u8 x 5) (by simp only [maxLen, List.length_singleton]; omega) (by simp only [List.length_singleton]; omega) (by simp; omega) ?_)
        intro v' w' ho' hb'
        go_wp2
        go_roundg (n - (j + 1))
        case measure => omega
        case rel =>
          refine ⟨j + 1, rfl, by omega, by go_num, ?_, ?_⟩
          · rw [HT.out]; exact ho'
          · exact hb.trans (((Below.refl _ wr).alloc hBr _).trans hb')
      · obtain rfl : j = n := by omega
        go_wp2
        go_ret
        exact ⟨_, rfl, ho, hb⟩
end Go.Proofs.Ytcmehefaceaioaa
