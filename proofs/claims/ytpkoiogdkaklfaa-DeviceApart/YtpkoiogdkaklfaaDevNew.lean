/-
  The walk of the device's New. Conditions: each theorem's own.
-/
import Derived.Test.YtpkoiogdkaklfaaDevWr
import Derived.Deep.LoopGhost
namespace Go.Proofs.Ytpkoiogdkaklfaa
open Go.RowKit
set_option linter.unusedVariables false
set_option linter.unusedSimpArgs false

set_option maxHeartbeats 1000000 in
theorem dnew_no (n : Int) (w : World) (h : n < 1 ∨ 1024 < n) (hw : (Lit.int .i64 n).wf = true) :
    Calls Try.prog 10 #[.int .i64 n] w fun e w' => e = .returned (.tuple #[.pointer none, .int .i64 1]) ∧ w = w' := by
  by_cases h1 : n < 1
  · clear h
    go_enter Try.func10, Try.ntmps10
    go_wp2
    go_ret2
    exact ⟨rfl, rfl⟩
  · have h2 : 1024 < n := by omega
    clear h
    go_enter Try.func10, Try.ntmps10
    go_wp2
    go_ret2
    exact ⟨rfl, rfl⟩

theorem make_hint (n : Nat) (w : World) : (Instr.makeMap 62 (some (.int .i64 (n : Int)))).run Try.prog w = .ok (.map (some w.heap.size)) (w.alloc (.map #[] 0)) := rfl

set_option maxHeartbeats 2000000 in
theorem dnew_yes (n : Nat) (w : World) (h1 : 1 ≤ n) (h2 : n ≤ 1024) :
    Calls Try.prog 10 #[.int .i64 n] w fun e w' => ∃ b, e = .returned (.tuple #[.pointer (some ⟨b, 0, none⟩), .int .i64 0]) ∧ ∃ bl bt, DevAt w' (fun i => i ≠ b ∧ i ≠ bl ∧ i ≠ bt) b bl bt 0 (List.replicate n zcell) (List.replicate n []) [] ∧ Grow w w' ∧ w.heap.size ≤ b ∧ w.heap.size ≤ bl ∧ w.heap.size ≤ bt := by
  have g1 : ¬ (n : Int) < 1 := by omega
  have g2 : ¬ 1024 < (n : Int) := by omega
  have g3 : (n : Int) ≤ 1024 := by omega
  have hm1 := make_hint n
  have hm2 := @run_makeMap Try.prog
  go_enter Try.func10, Try.ntmps10
  go_wp2_with fail
  refine (zero_any w).mono ?_
  rintro e w1 ⟨v1, rfl, ho1, hb1⟩
  obtain ⟨a1, c1, rfl⟩ := ho1.shape
  have hs : Calls Try.prog 30 #[.slice a1 16 c1] w1 fun e w' => ∃ v', e = .returned (.tuple #[v', .int .i64 0]) ∧ Own .u8 w1.heap.size w' v' zcell ∧ Grow w1 w' := seal_yes a1 c1 (List.replicate 16 0) _ w1 ho1.rd (oct_repl 16)
  have HG1 : Hid (Grow w w1) := hb1
  clear ho1 hb1
  simp only [List.length_replicate]
  go_wp2_with fail
  refine hs.mono ?_
  rintro e w2 ⟨v2, rfl, ho2, hb2⟩
  have HG2 : Hid (Grow w w2 ∧ Own .u8 w1.heap.size w2 v2 zcell) := ⟨HG1.out.trans hb2, ho2⟩
  obtain ⟨a2, c2, hv2⟩ := ho2.shape
  rw [zcell_length] at hv2
  subst hv2
  clear ho2 hb2 hs HG1
  have HW : Hid (let W0 := ((w2.alloc (.map #[] 0)).alloc (.map #[] 0)).alloc (.cells #[.map (some w2.heap.size), .map (some (w2.heap.size + 1)), .slice none 0 0] 64)
      let p0 := fun i => i ≠ w2.heap.size + 1 + 1 ∧ i ≠ w2.heap.size ∧ i ≠ w2.heap.size + 1
      VarAt W0 (w2.heap.size + 1 + 1) [.map (some w2.heap.size), .map (some (w2.heap.size + 1)), .slice none 0 0] ∧ CMap Try.prog 3 p0 W0 w2.heap.size 0 (lastF (List.replicate 0 zcell)) ∧ CMap Try.prog 3 p0 W0 (w2.heap.size + 1) 0 (latF (List.replicate n [])) ∧
        RdV (Value.int .u8) 0 p0 W0 (.slice a2 20 c2) zcell ∧ Grow w W0) := by
    have hv := VarAt.new ((w2.alloc (.map #[] 0)).alloc (.map #[] 0)) [.map (some w2.heap.size), .map (some (w2.heap.size + 1)), .slice none 0 0] 64
    have k1 := (CMap.new Try.prog 3 (fun i => i ≠ w2.heap.size + 1 + 1 ∧ i ≠ w2.heap.size ∧ i ≠ w2.heap.size + 1) w2 (by omega)).same (g := lastF (List.replicate 0 zcell)) (fun k => (lastF_nil k).symm)
    have k2 := (CMap.new Try.prog 3 (fun i => i ≠ w2.heap.size + 1 + 1 ∧ i ≠ w2.heap.size ∧ i ≠ w2.heap.size + 1) (w2.alloc (.map #[] 0)) (by rw [World.size_alloc]; omega)).same (g := latF (List.replicate n [])) (fun k => (latF_repl n k).symm)
    rw [World.size_alloc] at k2
    rw [World.size_alloc, World.size_alloc] at hv
    have hg : ∀ W o, Grow W (World.alloc W o) := fun W o => (Grow.refl W).alloc o
    refine ⟨hv, (k1.grow (hg _ _)).grow (hg _ _), k2.grow (hg _ _), ?_, ((HG2.out.1.trans (hg _ _)).trans (hg _ _)).trans (hg _ _)⟩
    have hr := HG2.out.2.v.rd.mono (q := fun i => i ≠ w2.heap.size + 1 + 1 ∧ i ≠ w2.heap.size ∧ i ≠ w2.heap.size + 1) (fun i hi _ => by omega)
    exact ((hr.grow (hg _ _)).grow (hg _ _)).grow (hg _ _)
  have HSZ : Hid (w.heap.size ≤ w2.heap.size) := HG2.out.1.size
  clear HG2
  go_wp2
  go_loopg [25] n (fun k i wr => ∃ j : Nat, k = n - j ∧ j ≤ n ∧ i = .int .i64 j ∧ Hid (let p0 := fun i => i ≠ w2.heap.size + 1 + 1 ∧ i ≠ w2.heap.size ∧ i ≠ w2.heap.size + 1
      VarAt wr (w2.heap.size + 1 + 1) [.map (some w2.heap.size), .map (some (w2.heap.size + 1)), .slice none 0 0] ∧ CMap Try.prog 3 p0 wr w2.heap.size j (lastF (List.replicate j zcell)) ∧ CMap Try.prog 3 p0 wr (w2.heap.size + 1) 0 (latF (List.replicate n [])) ∧
        RdV (Value.int .u8) 0 p0 wr (.slice a2 20 c2) zcell ∧ Grow w wr))
  case atStart => exact ⟨0, rfl, Nat.zero_le _, rfl, HW⟩
  case round =>
    obtain ⟨j, hk, hj, rfl, HR⟩ := hrel
    obtain ⟨hv, k1, k2, hr, hg⟩ := HR.out
    obtain ⟨⟨c0, e1, e2⟩, -⟩ := hv.three
    by_cases hlt : j < n
    · have hlt' : (j : Int) < (n : Int) := by omega
      have hkw : (Lit.int .i64 (j : Int)).wf = true := wfI (by omega)
      obtain ⟨w3, hrun, hm3, hu3, -⟩ := k1.put Try.underlying3 Try.underlying62 (by omega) (k := j) hr hkw
      rw [lastF_out (by simp), if_neg (by simp)] at hm3
      have HR3 : Hid (let p0 := fun i => i ≠ w2.heap.size + 1 + 1 ∧ i ≠ w2.heap.size ∧ i ≠ w2.heap.size + 1
          VarAt w3 (w2.heap.size + 1 + 1) [.map (some w2.heap.size), .map (some (w2.heap.size + 1)), .slice none 0 0] ∧ CMap Try.prog 3 p0 w3 w2.heap.size (j + 1) (lastF (List.replicate (j + 1) zcell)) ∧ CMap Try.prog 3 p0 w3 (w2.heap.size + 1) 0 (latF (List.replicate n [])) ∧
            RdV (Value.int .u8) 0 p0 w3 (.slice a2 20 c2) zcell ∧ Grow w w3) :=
        ⟨hv.upd hu3 (by omega), hm3.same (fun k => lastF_repl j zcell k), k2.upd hu3 (by omega) (fun i _ hi e => hi.2.1 e), hr.upd hu3 (fun i _ hi e => hi.2.1 e), UpdS.new hg hu3 (fun i hi => by have := HSZ.out; omega)⟩
      have HJ : Hid (j < n ∧ gk = n - j) := ⟨hlt, hk⟩
      clear hv k1 k2 hr hg hm3 hu3 e1 e2 hlt hk HR hkw
      go_wp2
      go_roundg (n - (j + 1))
      case measure => have := HJ.out; omega
      case rel => exact ⟨j + 1, rfl, HJ.out.1, by go_num, HR3⟩
    · obtain rfl : j = n := by omega
      clear c0 e1 e2 hlt
      have HF : Hid (∃ b bl bt : Nat, b = w2.heap.size + 1 + 1 ∧ DevAt wr (fun i => i ≠ b ∧ i ≠ bl ∧ i ≠ bt) b bl bt 0 (List.replicate j zcell) (List.replicate j []) [] ∧ Grow w wr ∧ w.heap.size ≤ b ∧ w.heap.size ≤ bl ∧ w.heap.size ≤ bt) := by
        have hsz := HSZ.out
        refine ⟨_, w2.heap.size, w2.heap.size + 1, rfl, ⟨0, none, 0, hv, ?_, k2, Nat.le_refl _, RdV.nil _ _ _ _ _ _ (Nat.zero_le _), DevOk.new j h2, by omega, by omega, by omega, by omega⟩, hg, by omega, by omega, by omega⟩
        rw [List.length_replicate]
        exact k1
      clear hv k1 k2 hr hg
      go_wp2
      go_ret2
      obtain ⟨b, bl, bt, e, h⟩ := HF.out
      subst e
      exact ⟨_, rfl, bl, bt, h⟩
end Go.Proofs.Ytpkoiogdkaklfaa
