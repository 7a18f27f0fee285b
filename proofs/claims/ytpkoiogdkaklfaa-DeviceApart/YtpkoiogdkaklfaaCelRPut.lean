/-
  The walks of the document's Put and Open. Conditions: each theorem's own.
-/
import Derived.Test.YtpkoiogdkaklfaaCelRef
namespace Go.Proofs.Ytpkoiogdkaklfaa
open Go.RowKit
set_option linter.unusedVariables false
set_option linter.unusedSimpArgs false

theorem cells32 {a : Option Addr} {c m : Nat} {zs : List Int} {B : Nat} {w : World} (h : Rd .u8 B w (.slice a m c) zs) : ∀ j, j < m → ∃ b p, a = some ⟨b, p, none⟩ ∧ b < w.heap.size ∧ w.cell? ⟨b, p + j, none⟩ = some (.int .u8 (zs.getD j 0)) := fun j hj => by
  obtain ⟨_, _, hm, b, p, e, _, hc⟩ := h.size.addr (by omega)
  exact ⟨b, p, e, World.block_lt_of_cell? _ _ (hc j hj), hc j hj⟩

set_option maxHeartbeats 1000000 in
theorem ropen_any (v : Value) (zs : List Int) (B : Nat) (w : World) (h : Rd .u8 B w v zs) (ho : Oct zs) (hl : zs.length ≤ 1000000) :
    Calls Try.prog 47 #[v] w fun e w' => ∃ v', e = .returned (.tuple #[v', .int .i64 (opened zs).2]) ∧ Rd .u8 w'.heap.size w' v' (opened zs).1 ∧ Grow w w' := by
  by_cases h20 : zs.length = 20
  · have E : Hid (opened zs = taken zs) := if_pos h20
    have h' := h
    have hg := rgood_any _ zs B w h ho hl
    have HI := isGood_eq zs 16 (by omega)
    have HT := taken_eq zs 16 (by omega)
    obtain ⟨a, c, rfl, hlc, hcm, -⟩ := h
    have ht := h'.size.take 16 (by omega)
    rw [h20] at hg ⊢
    rw [E.out, HT]
    have hc20 : 20 ≤ c := by omega
    unfold maxLen at hcm
    by_cases hq : zs.drop 16 = le 4 (chk 0 (zs.take 16) : Nat)
    · rw [if_pos hq]
      rw [HI, decide_eq_true hq] at hg
      clear E h' ho hl h20 HI HT hq hlc
      generalize zs.take 16 = ys at ht
      go_enter Try.func47, Try.ntmps47
      go_wp2_with fail
      refine hg.mono ?_
      rintro e w1 ⟨rfl, hb1⟩
      go_wp2
      go_ret2
      exact ⟨_, rfl, (ht.below hb1).size, hb1⟩
    · rw [if_neg hq]
      rw [HI, decide_eq_false hq] at hg
      clear E h' ho hl h20 HI HT hq hlc ht
      go_enter Try.func47, Try.ntmps47
      go_wp2_with fail
      refine hg.mono ?_
      rintro e w1 ⟨rfl, hb1⟩
      go_wp2
      go_ret2
      exact ⟨_, rfl, Rd.nil _ _ _ _ _ (Nat.zero_le _), hb1⟩
  · have E : Hid (opened zs = ([], 2)) := if_neg h20
    obtain ⟨a, c, rfl, -⟩ := h
    rw [E.out]
    have h2 : ¬ (zs.length : Int) = 20 := by omega
    go_enter Try.func47, Try.ntmps47
    go_wp2
    go_ret2
    exact ⟨_, rfl, Rd.nil _ _ _ _ _ (Nat.zero_le _), Grow.refl _⟩
end Go.Proofs.Ytpkoiogdkaklfaa
