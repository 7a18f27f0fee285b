/-
  The walks of cell's small calls (own, fits, Zero, Seal, Open) and of the document's Fill. Conditions: each theorem's own.
-/
import Derived.Test.YtpkoiogdkaklfaaCelMath
namespace Go.Proofs.Ytpkoiogdkaklfaa
open Go.RowKit
set_option linter.unusedVariables false
set_option linter.unusedSimpArgs false

set_option maxHeartbeats 1000000 in
theorem zero_any (w : World) : Calls Try.prog 31 #[] w fun e w' => ∃ v', e = .returned v' ∧ Own .u8 w.heap.size w' v' (List.replicate 16 0) ∧ Grow w w' := by
  obtain ⟨i0, hi, hz0, hz1, hz2⟩ := info_parts Try.info5
  go_enter Try.func31, Try.ntmps31
  go_wp2_with (at_make; refine wpList_makeV rfl (.const (.int .i64 16)) (.const (.int .i64 16)) 29 rfl (Value.int .u8) 0 5 i0 Try.underlying29 hi hz0 rfl 1 hz1 hz2 .i64 .i64 16 16 rfl rfl rfl (by omega) (by omega) ?_)
  intro v1 w1 ho1 hg1 hlt1
  have Ho1 := ho1.i (B := w.heap.size) (fun i hi => by omega)
  clear ho1
  go_wp2
  go_ret
  exact ⟨_, rfl, Ho1, hg1⟩

set_option maxHeartbeats 1000000 in
theorem seal_yes (a : Option Addr) (c : Nat) (zs : List Int) (B : Nat) (w : World) (h : Rd .u8 B w (.slice a 16 c) zs) (ho : Oct zs) :
    Calls Try.prog 30 #[.slice a 16 c] w fun e w' => ∃ v', e = .returned (.tuple #[v', .int .i64 0]) ∧ Own .u8 w.heap.size w' v' (zs ++ le 4 (chk 0 zs : Nat)) ∧ Grow w w' := by
  have hl : zs.length ≤ 1000000 := by have := h.caps; omega
  go_enter Try.func30, Try.ntmps30
  go_wp2_with fail
  refine (put_any _ zs _ _ h ho (by omega)).mono ?_
  rintro e w1 ⟨v1, rfl, ho1, hb1⟩
  go_wp2
  go_ret2
  exact ⟨_, rfl, ho1, hb1⟩

set_option maxHeartbeats 1000000 in
theorem seal_no (a : Option Addr) (l c : Nat) (w : World) (hl : l ≠ 16) (hlm : l ≤ maxLen) :
    Calls Try.prog 30 #[.slice a l c] w fun e w' => e = .returned (.tuple #[.slice none 0 0, .int .i64 2]) ∧ w = w' := by
  unfold maxLen at hlm
  have h2 : ¬ (l : Int) = 16 := by omega
  go_enter Try.func30, Try.ntmps30
  go_wp2
  go_ret2
  exact ⟨rfl, rfl⟩

set_option maxHeartbeats 1000000 in
theorem open_any (v : Value) (zs : List Int) (B : Nat) (w : World) (h : Rd .u8 B w v zs) (ho : Oct zs) (hl : zs.length ≤ 1000000) :
    Calls Try.prog 41 #[v] w fun e w' => ∃ v', e = .returned (.tuple #[v', .int .i64 (opened zs).2]) ∧ Own .u8 w.heap.size w' v' (opened zs).1 ∧ Grow w w' := by
  by_cases h20 : zs.length = 20
  · have E : Hid (opened zs = taken zs) := if_pos h20
    have h' := h
    obtain ⟨a, c, rfl, -⟩ := h
    have ht := take_any _ zs B w h' ho hl
    rw [h20] at ht ⊢
    rw [E.out]
    generalize taken zs = T at ht
    obtain ⟨T1, T2⟩ := T
    clear E h' ho hl h20
    go_enter Try.func41, Try.ntmps41
    go_wp2_with fail
    refine ht.mono ?_
    rintro e w1 ⟨v1, rfl, ho1, hb1⟩
    go_wp2
    go_ret2
    exact ⟨_, rfl, ho1, hb1⟩
  · have E : Hid (opened zs = ([], 2)) := if_neg h20
    obtain ⟨a, c, rfl, -⟩ := h
    rw [E.out]
    have h2 : ¬ (zs.length : Int) = 20 := by omega
    go_enter Try.func41, Try.ntmps41
    go_wp2
    go_ret2
    exact ⟨_, rfl, Own.nil _ _ _ _, Grow.refl _⟩
end Go.Proofs.Ytpkoiogdkaklfaa
