/-
  The walk of the law's example (lives). Conditions: each theorem's own.
-/
import Derived.Test.YtddnfhiegoeecaaDoc
import Derived.Lib.SlBytesConst
namespace Go.Proofs.Ytddnfhiegoeecaa
open Go.RowKit
set_option linter.unusedVariables false
set_option linter.unusedSimpArgs false

theorem cell_marked (w : World) (C : Array Value) (e : TypeId) (fr : Nat × Nat) (i : Nat) : (w.alloc (.cells C e fr)).cell? ⟨w.heap.size, i, none⟩ = C[i]? := by
  refine cell_of_row _ _ i C e fr ?_
  show (w.heap.push (.cells C e fr))[w.heap.size]? = _
  simp

theorem rd_row (k : IntKind) (zs : List Int) (e : TypeId) (fr : Nat × Nat) (w : World) (h : zs.length ≤ 1000000) : Rd k (w.heap.size + 1) (w.alloc (.cells (zs.map (Value.int k)).toArray e fr)) (.slice (some ⟨w.heap.size, 0, none⟩) zs.length zs.length) zs := by
  refine ⟨_, zs.length, rfl, Nat.le_refl _, by simp only [maxLen]; omega, fun i hi => ⟨w.heap.size, 0, rfl, by omega, ?_⟩⟩
  rw [Nat.zero_add, cell_marked]
  simp [List.getD, List.getElem?_eq_getElem hi]

theorem nine : chk 0 [49, 50, 51, 52, 53, 54, 55, 56, 57] = 3421780262 := by decide +kernel

set_option maxHeartbeats 1000000 in
theorem lives_any (w : World) :
    Calls Try.prog 13 #[] w fun e w' => e = .returned (.bool true) ∧ Below w.heap.size w w' := by
  have hr := rd_row .u8 [49, 50, 51, 52, 53, 54, 55, 56, 57] 5 (9, 10) w (by simp)
  have HR : Hid (Rd .u8 (w.heap.size + 1) (w.alloc (.cells #[.int .u8 49, .int .u8 50, .int .u8 51, .int .u8 52, .int .u8 53, .int .u8 54, .int .u8 55, .int .u8 56, .int .u8 57] 5 (9, 10))) (.slice (some ⟨w.heap.size, 0, none⟩) 9 9) [49, 50, 51, 52, 53, 54, 55, 56, 57]) := hr
  clear hr
  have kc := fun (w : World) (C : Array Value) (n c : Nat) => Lib.run_convert_bytes_const (P := Try.prog) w 22 5 C n c Try.underlying22 Try.underlying5
  go_enter Try.func13, Try.ntmps13
  go_wp2_with fail
  refine (sum_any _ [49, 50, 51, 52, 53, 54, 55, 56, 57] _ _ HR.out (by intro x hx; simp at hx; omega)).mono ?_
  rintro e w1 ⟨rfl, hb1⟩
  rw [nine]
  go_wp2
  go_ret
  exact ⟨rfl, ((Below.refl _ w).alloc (Nat.le_refl _) _).trans (hb1.mono (by simp))⟩
end Go.Proofs.Ytddnfhiegoeecaa
