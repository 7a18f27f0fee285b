/-
  The walk of crc.halved: eight halvings. Conditions: each theorem's own.
-/
import Derived.Test.YtpkoiogdkaklfaaMath
import Derived.Test.YtpkoiogdkaklfaaBase
import Derived.Test.YtpkoiogdkaklfaaRows
import Derived.WalkKit
import Derived.ProofKit
import Derived.OpenShut
import Derived.Outline
import Derived.Deep.LoopGhost
import Derived.WalkLawsBesides
namespace Go.Proofs.Ytpkoiogdkaklfaa
open Go.RowKit

theorem and_one (q : Nat) (hq : q < 4294967296) : bits .and .u32 (q : Int) 1 = ((q % 2 : Nat) : Int) := by
  have := u32_and_nat q 1 hq (by omega)
  rw [nat_mask1] at this
  exact this

theorem xor_poly (q : Nat) (hq : q < 4294967296) : bits .xor .u32 ((q : Int) / 2) 3988292384 = ((q / 2 ^^^ 3988292384 : Nat) : Int) := by
  have := u32_xor_nat (q / 2) 3988292384 (by omega) (by omega)
  simpa using this

set_option maxHeartbeats 1000000 in
theorem halved_any (n : Nat) (w : World) (hn : n < 4294967296) :
    Calls Try.prog 59 #[.int .u32 (n : Int)] w fun e w' => e = .returned (.int .u32 ((halve 8 n : Nat) : Int)) ∧ w = w' := by
  go_enter Try.func59, Try.ntmps59
  go_wp2
  go_loopg [0, 4] 8 (fun k m c wr => ∃ j q : Nat, k = 8 - j ∧ j ≤ 8 ∧ c = .int .i64 j ∧ m = .int .u32 q ∧ q < 4294967296 ∧ Hid (q = halve j n) ∧ w = wr)
  case atStart => exact ⟨0, n, rfl, Nat.zero_le _, rfl, rfl, hn, rfl, rfl⟩
  case round =>
    obtain ⟨j, q, hk, hj, rfl, rfl, hq, HQ, rfl⟩ := hrel
    by_cases hlt : j < 8
    · have hlt' : (j : Int) < 8 := by omega
      have hand := and_one q hq
      have hx := xor_poly q hq
      by_cases ho : q % 2 = 1
      · rw [ho] at hand
        have hand' : bits .and .u32 (q : Int) 1 = 1 := hand
        clear hand
        go_wp2
        go_roundg (8 - (j + 1))
        case measure => omega
        case rel =>
          refine ⟨j + 1, hs q, rfl, by omega, by go_num, ?_, hs_lt hq, ?_, rfl⟩
          · rw [hs_odd ho, ← hx]
          · show hs q = halve (j + 1) n
            rw [HQ.out]; rfl
      · have ho' : q % 2 = 0 := by omega
        rw [ho'] at hand
        have hand' : bits .and .u32 (q : Int) 1 = 0 := hand
        clear hand
        go_wp2
        go_roundg (8 - (j + 1))
        case measure => omega
        case rel =>
          refine ⟨j + 1, hs q, rfl, by omega, by go_num, ?_, hs_lt hq, ?_, rfl⟩
          · rw [hs_even ho']; simp
          · show hs q = halve (j + 1) n
            rw [HQ.out]; rfl
    · obtain rfl : j = 8 := by omega
      go_wp2
      go_ret
      exact ⟨by rw [HQ.out]; rfl, rfl⟩
end Go.Proofs.Ytpkoiogdkaklfaa
