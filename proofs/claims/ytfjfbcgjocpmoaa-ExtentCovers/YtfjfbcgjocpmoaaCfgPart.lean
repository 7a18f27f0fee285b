/-
  The walk of partFault. Conditions: the theorem's own.
-/
import Derived.Test.YtfjfbcgjocpmoaaCfgMeet
namespace Go.Proofs.Ytfjfbcgjocpmoaa
open Go.RowKit
set_option linter.unusedVariables false
set_option linter.unusedSimpArgs false

theorem wh_none : (wh 0).toList.isEmpty = true := by simp [wh]
theorem wh_some {k : Nat} (h : k ≠ 0) : (wh k).toList.isEmpty = false := by
  rw [ByteArray.toList_eq]
  match k, h with
  | 0, h => exact absurd rfl h
  | 1, _ => rfl
  | 2, _ => rfl
  | 3, _ => rfl
  | 4, _ => rfl
  | 5, _ => rfl
  | 6, _ => rfl
  | 7, _ => rfl
  | 8, _ => rfl
  | n + 9, _ => rfl
theorem ret_pair {s t : ByteArray} {a b : Int} (h : s = t) (k : a = b) : Ending.returned (.tuple #[.string s, .int .i64 a]) = .returned (.tuple #[.string t, .int .i64 b]) := by rw [h, k]

end Go.Proofs.Ytfjfbcgjocpmoaa
