/-
  The walks of cell's small calls (own, fits, Zero, Seal, Open) and of the document's Fill. Conditions: each theorem's own.
-/
import Derived.Test.YtcmehefaceaioaaCelMath
namespace Go.Proofs.Ytcmehefaceaioaa
open Go.RowKit
set_option linter.unusedVariables false
set_option linter.unusedSimpArgs false

set_option maxHeartbeats 1000000 in
theorem cown_any (v : Value) (zs : List Int) (B : Nat) (w : World) (h : Rd .u8 B w v zs) (hl : zs.length ≤ 1000000) :
    Calls Try.prog 36 #[v] w fun e w' => ∃ v', e = .returned v' ∧ Own .u8 w.heap.size w' v' zs ∧ Grow w w' := by
  obtain ⟨i0, hi, hz0, hz1, hz2⟩ := info_parts Try.info5
  have h' := h.size
  obtain ⟨a, c, rfl, -⟩ := h
  go_enter Try.func36, Try.ntmps36
  go_wp2_with (at_make; refine wpList_makeV rfl (.tmp 5) (.tmp 5) 35 rfl (Value.int .u8) 0 5 i0 Try.underlying35 hi hz0 rfl 1 hz1 hz2 .i64 .i64 _ zs.length rfl rfl rfl (by omega) (by omega) ?_)
  intro v1 w1 ho1 hg1 hlt1
  have hs1 := RdV.grow (Rd.v h') hg1
  have Ho1 : Hid (OwnV (Value.int .u8) 0 (fun i => i = w.heap.size) w1 v1 (List.replicate zs.length 0)) := ho1
  have HG : Hid (Grow w w1 ∧ w.heap.size < w1.heap.size) := ⟨hg1, hlt1⟩
  clear hg1 hlt1 h'
  obtain ⟨a1, c1, hv1⟩ := ho1.shape
  rw [List.length_replicate] at hv1
  subst hv1
  obtain ⟨w2, hrun, ho2, hu2⟩ := run_copyV (P := Try.prog) 35 35 3 5 Try.underlying35 (by rw [hi]; simp [hz1]) Ho1.out hs1 (by simp) (oneI .u8)
  go_wp2
  go_ret
  obtain ⟨hg1, hlt1⟩ := HG.out
  exact ⟨_, rfl, ho2.i (fun i hi => by omega), UpdS.new hg1 hu2 (fun i hi => by omega)⟩

set_option maxHeartbeats 1000000 in
theorem fits_any (a : Option Addr) (l c : Nat) (off n : Int) (w : World) (hlm : l ≤ maxLen) (ho : (Lit.int .i64 off).wf = true) (hn : (Lit.int .i64 n).wf = true) :
    Calls Try.prog 35 #[.slice a l c, .int .i64 off, .int .i64 n] w fun e w' => e = .returned (.int .i64 (fitE l off n)) ∧ w = w' := by
  have b1 := bounds_i64 ho
  have b2 := bounds_i64 hn
  unfold maxLen at hlm
  by_cases h1 : l = 32
  · subst h1
    by_cases h2 : off < 0
    · have E : Hid (fitE 32 off n = 4) := fitE_range (by omega)
      go_enter Try.func35, Try.ntmps35
      go_wp2
      go_ret
      exact ⟨ret_int E.out.symm, rfl⟩
    · by_cases h3 : n < 0
      · have E : Hid (fitE 32 off n = 4) := fitE_range (by omega)
        go_enter Try.func35, Try.ntmps35
        go_wp2
        go_ret
        exact ⟨ret_int E.out.symm, rfl⟩
      · by_cases h4 : 32 - off < n
        · have E : Hid (fitE 32 off n = 4) := fitE_range (by omega)
          go_enter Try.func35, Try.ntmps35
          go_wp2
          go_ret
          exact ⟨ret_int E.out.symm, rfl⟩
        · have E : Hid (fitE 32 off n = 0) := fitE_ok (by omega)
          go_enter Try.func35, Try.ntmps35
          go_wp2
          go_ret
          exact ⟨ret_int E.out.symm, rfl⟩
  · have E : Hid (fitE l off n = 2) := fitE_form h1 _ _
    have h2 : ¬ (l : Int) = 32 := by omega
    go_enter Try.func35, Try.ntmps35
    go_wp2
    go_ret
    exact ⟨ret_int E.out.symm, rfl⟩

end Go.Proofs.Ytcmehefaceaioaa
