/-
  The walks of the document's own numbers and bytes (allotmentref01: Uint, Int, Bytes). Conditions: each theorem's own.
-/
import Derived.Test.YtdafamocnjfmjaaDoorBase
namespace Go.Proofs.YtdafamocnjfmjaaDoor
open Go.RowKit
set_option linter.unusedVariables false
set_option linter.unusedSimpArgs false

set_option maxHeartbeats 1000000 in
theorem rUint_any (n : Int) (w : World) (hn0 : 0 ≤ n) (hn1 : n < 18446744073709551616) :
    Calls Tryd.prog 50 #[.int .u64 n] w fun e w' => ∃ v', e = .returned v' ∧ Own .u8 w.heap.size w' v' (le 8 n) ∧ Below w.heap.size w w' := by
  obtain ⟨i0, hi, hz0, hz1, hz2⟩ := info_parts Tryd.info5
  go_enter Tryd.func50, Tryd.ntmps50
  go_wp2
  go_loopg [0, 3, 4] 8 (fun k m d c wr => ∃ j : Nat, ∃ q : Int, k = 8 - j ∧ j ≤ 8 ∧ c = .int .i64 j ∧ m = .int .u64 q ∧ 0 ≤ q ∧ q < 18446744073709551616 ∧ Hid (q = n / 256 ^ j) ∧ Own .u8 w.heap.size wr d (le j n) ∧ Below w.heap.size w wr)
  case atStart => exact ⟨0, n, rfl, Nat.zero_le _, rfl, rfl, hn0, hn1, by simp [Hid], Own.nil _ _ _ _, Below.refl _ _⟩
  case round =>
    obtain ⟨j, q, hk, hj, rfl, rfl, hq0, hq1, HQ, ho, hb⟩ := hrel
    have hBr := hb.size
    by_cases hlt : j < 8
    · have hlt' : (j : Int) < 8 := by omega
      have hll : (le j n).length ≤ 8 := by rw [le_length]; omega
      go_wp2_with (at_builtin; refine wpList_app rfl (.tmp 9) (.tmp 13) 22 22 rfl i0 (.int .u8 0) 1 Tryd.underlying22 hi hz0 hz1 hz2 rfl rfl rfl (ho.alloc _) (Src.one (w := wr) Tryd.underlying22 .u8 (q % 256) 5) (by simp only [maxLen, List.length_singleton]; omega) (by simp only [List.length_singleton]; omega) (by simp; omega) ?_)
      intro v' w' ho' hb'
      go_wp2
      go_roundg (8 - (j + 1))
      case measure => omega
      case rel =>
        refine ⟨j + 1, q / 256, rfl, by omega, by go_num, ?_, by omega, by omega, ?_, ?_, ?_⟩
        · rfl
        · show q / 256 = n / 256 ^ (j + 1)
          rw [HQ.out, ediv_pow]
        · rw [le_snoc, ← HQ.out]; exact ho'
        · exact hb.trans (((Below.refl _ wr).alloc hBr _).trans hb')
    · obtain rfl : j = 8 := by omega
      go_wp2
      go_ret
      exact ⟨_, rfl, ho, hb⟩

set_option maxHeartbeats 1000000 in
theorem rInt_any (n : Int) (w : World) :
    Calls Tryd.prog 36 #[.int .i64 n] w fun e w' => ∃ v', e = .returned v' ∧ Own .u8 w.heap.size w' v' (leI n) ∧ Below w.heap.size w w' := by
  go_enter Tryd.func36, Tryd.ntmps36
  go_wp2_with fail
  rw [IntKind.wrap_u64]
  refine (rUint_any _ _ (by omega) (by omega)).mono ?_
  rintro e w2 ⟨v2, rfl, ho2, hb2⟩
  go_wp2
  go_ret
  exact ⟨_, rfl, ho2, hb2⟩

set_option maxHeartbeats 1000000 in
theorem rBytes_any (sv : Value) (ss : List Int) (B' : Nat) (w : World) (hs : Rd .u8 B' w sv ss) (hss : ss.length ≤ 1000000) :
    Calls Tryd.prog 37 #[sv] w fun e w' => ∃ v', e = .returned v' ∧ Own .u8 w.heap.size w' v' (leI ss.length ++ ss) ∧ Below w.heap.size w w' := by
  obtain ⟨i0, hi, hz0, hz1, hz2⟩ := info_parts Tryd.info5
  have hs' := hs.size
  obtain ⟨a, c, rfl, -⟩ := hs
  go_enter Tryd.func37, Tryd.ntmps37
  go_wp2_with fail
  refine (rInt_any _ _).mono ?_
  rintro e w1 ⟨v1, rfl, ho1, hb1⟩
  have hsrc := (hs'.below hb1).src (P := Tryd.prog) Tryd.underlying22
  have hll : (leI ss.length).length ≤ 8 := by rw [leI_length]; exact Nat.le_refl _
  go_wp2_with (at_builtin; refine wpList_app rfl (.tmp 5) (.tmp 6) 22 22 rfl i0 (.int .u8 0) 1 Tryd.underlying22 hi hz0 hz1 hz2 rfl rfl rfl ho1 hsrc (by simp only [maxLen]; omega) (by omega) hb1.size ?_)
  intro v3 w3 ho3 hb3
  go_wp2
  go_ret
  exact ⟨_, rfl, ho3, hb1.trans hb3⟩
end Go.Proofs.YtdafamocnjfmjaaDoor
