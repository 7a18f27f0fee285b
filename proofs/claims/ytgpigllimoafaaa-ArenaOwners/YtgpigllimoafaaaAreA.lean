/-
  The walks of an arena's calls that look: Len, has, Part, count, ahead, Frames, Start, Used, Empty. Conditions: each theorem's own.
-/
import Derived.Test.YtgpigllimoafaaaAre
import Derived.Deep.LoopGhost
namespace Go.Proofs.Ytgpigllimoafaaa
open Go.RowKit
set_option linter.unusedVariables false
set_option linter.unusedSimpArgs false

set_option maxHeartbeats 1000000 in
theorem alen_any (B : Nat) (w : World) (A : Nat) (M : List PS) (k : ArAt B w A M) : Calls Try.prog 11 #[.pointer (some ⟨A, 0, none⟩)] w fun e w' => e = .returned (.int .i64 M.length) ∧ w = w' := by
  obtain ⟨C, o, c, -, -, hc⟩ := k.cells
  obtain ⟨c0, -⟩ := hc w (Grow.refl w)
  clear hc k
  go_enter Try.func11, Try.ntmps11
  go_wp2
  go_ret
  exact ⟨rfl, rfl⟩
/-- is there a partition of that number? -/
def hasB (i : Int) (M : List PS) : Bool := decide (0 ≤ i ∧ i < M.length)
set_option maxHeartbeats 1000000 in
theorem ahas_any (B : Nat) (w : World) (A : Nat) (M : List PS) (k : ArAt B w A M) (i : Int) : Calls Try.prog 39 #[.pointer (some ⟨A, 0, none⟩), .int .i64 i] w fun e w' => e = .returned (.bool (hasB i M)) ∧ w = w' := by
  obtain ⟨C, o, c, -, -, hc⟩ := k.cells
  obtain ⟨c0, -⟩ := hc w (Grow.refl w)
  have HR : Hid (hasB i M = (decide (0 ≤ i) && decide (i < M.length))) := by
    show hasB i M = _
    unfold hasB
    exact Bool.decide_and _ _
  clear hc k
  by_cases h0 : 0 ≤ i
  · by_cases h1 : i < M.length
    · have HR' : Hid (hasB i M = true) := by show _ = _; rw [HR.out, decide_eq_true h0, decide_eq_true h1]; rfl
      clear HR
      go_enter Try.func39, Try.ntmps39
      go_wp2
      go_ret
      exact ⟨by rw [HR'.out]; rfl, rfl⟩
    · have HR' : Hid (hasB i M = false) := by show _ = _; rw [HR.out, decide_eq_false h1, Bool.and_false]
      clear HR
      go_enter Try.func39, Try.ntmps39
      go_wp2
      go_ret
      exact ⟨by rw [HR'.out]; rfl, rfl⟩
  · have HR' : Hid (hasB i M = false) := by show _ = _; rw [HR.out, decide_eq_false h0]; rfl
    clear HR
    go_enter Try.func39, Try.ntmps39
    go_wp2
    go_ret
    exact ⟨by rw [HR'.out]; rfl, rfl⟩
set_option maxHeartbeats 1000000 in
theorem part_yes (B : Nat) (w : World) (A : Nat) (M : List PS) (k : ArAt B w A M) (i : Nat) (hi : i < M.length) : Calls Try.prog 19 #[.pointer (some ⟨A, 0, none⟩), .int .i64 i] w fun e w' => e = .returned (.pointer (some ⟨(M.getD i PS.zero).P, 0, none⟩)) ∧ w = w' := by
  have hh := ahas_any B w A M k i
  have hb : hasB (i : Int) M = true := decide_eq_true ⟨by omega, by omega⟩
  rw [hb] at hh
  obtain ⟨C, o, c, hl1, hl2, hc⟩ := k.cells
  obtain ⟨c0, hcs⟩ := hc w (Grow.refl w)
  have c1 := hcs i hi
  have hle : (i : Int) < (M.length : Int) := by omega
  clear hc k hb hcs
  generalize (M.getD i PS.zero).P = P at c1 ⊢
  go_enter Try.func19, Try.ntmps19
  go_wp2_with fail
  refine hh.mono ?_
  rintro e w1 ⟨rfl, rfl⟩
  go_wp2
  go_ret
  exact ⟨rfl, rfl⟩
set_option maxHeartbeats 1000000 in
theorem part_no (B : Nat) (w : World) (A : Nat) (M : List PS) (k : ArAt B w A M) (i : Int) (hi : ¬ (0 ≤ i ∧ i < M.length)) : Calls Try.prog 19 #[.pointer (some ⟨A, 0, none⟩), .int .i64 i] w fun e w' => e = .returned (.pointer none) ∧ w = w' := by
  have hh := ahas_any B w A M k i
  have hb : hasB i M = false := decide_eq_false hi
  rw [hb] at hh
  clear k hb hi
  go_enter Try.func19, Try.ntmps19
  go_wp2_with fail
  refine hh.mono ?_
  rintro e w1 ⟨rfl, rfl⟩
  go_wp2
  go_ret
  exact ⟨rfl, rfl⟩
set_option maxHeartbeats 2000000 in
theorem count_any (B : Nat) (w : World) (A : Nat) (M : List PS) (k : ArAt B w A M) (n : Nat) (hn : n ≤ M.length) (F : Nat) (hcf : ∀ (args : Array Value) (w' : World), (callFunc F args).run Try.prog w' = .ok (.enter F args) w') (c : PS → Int) (hc : ∀ i, i < M.length → 0 ≤ c (M.getD i PS.zero) ∧ c (M.getD i PS.zero) ≤ 64)
    (hF : ∀ i, i < M.length → ∀ w', Grow w w' → Calls Try.prog F #[.pointer (some ⟨(M.getD i PS.zero).P, 0, none⟩)] w' fun e w'' => e = .returned (.int .i64 (c (M.getD i PS.zero))) ∧ Grow w' w'') :
    Calls Try.prog 34 #[.pointer (some ⟨A, 0, none⟩), .int .i64 n, .func (Fn.func F) #[] #[]] w fun e w' => e = .returned (.int .i64 (cntM c M n)) ∧ Grow w w' := by
  obtain ⟨C, o, cc, hl1, hl2, hcl⟩ := k.cells
  obtain ⟨c0, -⟩ := hcl w (Grow.refl w)
  have HC : Hid (∀ w', Grow w w' → ∀ j, j < M.length → w'.cell? ⟨C, o + j, none⟩ = some (.pointer (some ⟨(M.getD j PS.zero).P, 0, none⟩))) := fun w' g => (hcl w' g).2
  have HB : Hid (∀ j, j < n → 0 ≤ cntM c M j ∧ cntM c M j ≤ 1024 ∧ cntM c M (j + 1) = cntM c M j + c (M.getD j PS.zero) ∧ 0 ≤ c (M.getD j PS.zero) ∧ c (M.getD j PS.zero) ≤ 64) := fun j hj => by
    have h1 := cntM_bd hc (n := j) (by omega)
    have h2 := k.size.2
    exact ⟨h1.1, by omega, cntM_succ (by omega), hc j (by omega)⟩
  have HF : Hid (∀ i, i < M.length → ∀ w', Grow w w' → Calls Try.prog F #[.pointer (some ⟨(M.getD i PS.zero).P, 0, none⟩)] w' fun e w'' => e = .returned (.int .i64 (c (M.getD i PS.zero))) ∧ Grow w' w'') := hF
  have hn1 : (n : Int) ≤ (cc : Int) := by omega
  have hn2 : n ≤ cc := by omega
  have HN : Hid (n ≤ M.length) := hn
  have hl : M.length ≤ 16 := k.size.2
  have hn3 : n ≤ 16 := by omega
  clear hcl hc hF k hn hl hl2
  go_enter Try.func34, Try.ntmps34
  go_wp2
  go_loopg [7, 17] n (fun m s iv wr => ∃ j : Nat, m = n - j ∧ j ≤ n ∧ iv = .int .i64 j ∧ s = .int .i64 (cntM c M j) ∧ Hid (Grow w wr))
  case atStart => exact ⟨0, rfl, by omega, rfl, rfl, Grow.refl w⟩
  case round =>
    obtain ⟨j, hj, hj2, rfl, rfl, HW⟩ := hrel
    have HG : Hid (gk = n - j) := hj
    clear hj
    by_cases hlt : j < n
    · have hle : (j : Int) < (n : Int) := by omega
      obtain ⟨b1, b2, e1, b3, b4⟩ := HB.out j hlt
      have hcell := HC.out wr HW.out j (by have := HN.out; omega)
      have hf := HF.out j (by have := HN.out; omega) wr HW.out
      obtain ⟨x, hx⟩ : ∃ x, c (M.getD j PS.zero) = x := ⟨_, rfl⟩
      rw [hx] at hf b3 b4 e1
      obtain ⟨y, hy⟩ : ∃ y, cntM c M j = y := ⟨_, rfl⟩
      rw [hy] at b1 b2 e1
      have HE : Hid (cntM c M (j + 1) = y + x) := e1
      have HY : Hid (cntM c M j = y) := hy
      rw [hy]
      have hw1 : IntKind.i64.wrap (y + x) = y + x := by rw [IntKind.wrap_i64]; omega
      have hw0 : IntKind.i64.wrap ((j : Int) + 1) = ((j + 1 : Nat) : Int) := by rw [IntKind.wrap_i64]; omega
      generalize (M.getD j PS.zero).P = P at hcell hf
      clear hx hy e1 b1 b2 b3 b4
      go_wp2_with fail
      refine hf.mono ?_
      rintro e w1 ⟨rfl, g1⟩
      have HW1 : Hid (Grow w w1) := HW.out.trans g1
      clear g1 hf hcell
      go_wp2
      go_roundg (n - (j + 1))
      case measure => have := HG.out; omega
      case rel => exact ⟨j + 1, rfl, by omega, by go_num, by rw [HE.out], HW1⟩
    · have hge : ¬ (j : Int) < (n : Int) := by omega
      have HE : Hid (cntM c M j = cntM c M n) := by show _ = _; rw [show j = n by omega]
      clear hlt
      go_wp2
      go_ret
      exact ⟨by rw [← HE.out]; rfl, HW.out⟩

set_option maxHeartbeats 1000000 in
theorem lenC_any (w : World) (s : PS) (k : s.There w) : Calls Try.prog 50 #[.pointer (some ⟨s.P, 0, none⟩)] w fun e w' => e = .returned (.int .i64 s.len) ∧ Grow w w' := by
  have hl := len_any w s.P s.b 0 s.L s.h k.1
  have HE : Hid (s.len = (s.L.length : Int)) := rfl
  clear k
  generalize s.P = P at hl ⊢
  generalize s.L.length = n at hl HE
  go_enter Try.func50, Try.ntmps50
  go_wp2_with fail
  refine hl.mono ?_
  rintro e w1 ⟨rfl, rfl⟩
  go_wp2
  go_ret
  exact ⟨by rw [HE.out]; rfl, Grow.refl _⟩
set_option maxHeartbeats 1000000 in
theorem fullC_any (w : World) (s : PS) (k : s.There w) : Calls Try.prog 35 #[.pointer (some ⟨s.P, 0, none⟩)] w fun e w' => e = .returned (.int .i64 s.full) ∧ Grow w w' := by
  have hl := pempty_any w s.P s.b 0 s.L s.h k.1 k.2.2.2
  have HE : Hid (s.full = if emptyL s.L = true then 0 else 1) := rfl
  clear k
  generalize s.P = P at hl ⊢
  generalize emptyL s.L = t at hl HE
  cases t with
  | true =>
    have HE' : Hid (s.full = 0) := HE.out
    clear HE
    go_enter Try.func35, Try.ntmps35
    go_wp2_with fail
    refine hl.mono ?_
    rintro e w1 ⟨rfl, rfl⟩
    go_wp2
    go_ret
    exact ⟨by rw [HE'.out]; rfl, Grow.refl _⟩
  | false =>
    have HE' : Hid (s.full = 1) := HE.out
    clear HE
    go_enter Try.func35, Try.ntmps35
    go_wp2_with fail
    refine hl.mono ?_
    rintro e w1 ⟨rfl, rfl⟩
    go_wp2
    go_ret
    exact ⟨by rw [HE'.out]; rfl, Grow.refl _⟩
theorem field_f (w : World) (s : FS) : (Instr.field 52 (.agg s.arr) 0).run Try.prog w = .ok (.agg #[.bool s.u, .bool s.d, .bool s.r, .int .i64 s.p]) w := by
  have hp := part_f w s
  unfold Instr.field
  rw [Sem.run_bind, run_underlying (P := Try.prog) Try.underlying52 w]
  simp only [Result.andThen_ok]
  simpa [asAgg, Sem.run_bind] using hp
theorem field_u (w : World) (u d r : Bool) (p : Int) : (Instr.field 49 (.agg #[.bool u, .bool d, .bool r, .int .i64 p]) 0).run Try.prog w = .ok (.bool u) w := by
  have hagg : (isAgg 4).run Try.prog w = .ok false w := by
    unfold isAgg
    rw [Sem.run_bind, run_underlying (P := Try.prog) Try.underlying4 w]
    rfl
  unfold Instr.field
  rw [Sem.run_bind, run_underlying (P := Try.prog) Try.underlying49 w]
  simp only [Result.andThen_ok]
  simp [asAgg, part, Sem.run_bind, hagg]
set_option maxRecDepth 8000 in
set_option maxHeartbeats 2000000 in
theorem usedC_any (w : World) (s : PS) (k : s.There w) : Calls Try.prog 37 #[.pointer (some ⟨s.P, 0, none⟩)] w fun e w' => e = .returned (.int .i64 s.used) ∧ Grow w w' := by
  have hl := len_any w s.P s.b 0 s.L s.h k.1
  have HK : Hid (s.There w) := k
  have hpos := k.pos
  have HA : Hid (∀ wr, Grow w wr → ∀ j : Nat, Calls Try.prog 30 #[.pointer (some ⟨s.P, 0, none⟩), .int .i64 j] wr fun e w' => e = .returned (.agg (atL j s.L).arr) ∧ (atL j s.L).bs.length = 32 ∧ Grow wr w') := fun wr g j => at_any wr s.P s.b 0 s.L s.h (k.grow g).1 k.2.2.2 j
  have HE : Hid (s.used = (useN s.L s.L.length : Int)) := rfl
  clear k
  generalize s.P = P at hl HA ⊢
  obtain ⟨n, hN⟩ : ∃ n, s.L.length = n := ⟨_, rfl⟩
  rw [hN] at hl HE hpos
  have HN : Hid (s.L.length = n) := hN
  clear hN
  generalize s.L = L at HA HE HN
  have hn : n ≤ 64 := hpos.2
  clear hpos
  go_enter Try.func37, Try.ntmps37
  go_wp2_with fail
  refine hl.mono ?_
  rintro e w1 ⟨rfl, rfl⟩
  clear hl
  go_wp2_with fail
  go_loopg [3, 7] n (fun m s iv wr => ∃ j : Nat, m = n - j ∧ j ≤ n ∧ iv = .int .i64 j ∧ s = .int .i64 (useN L j : Nat) ∧ Hid (Grow w wr))
  case atStart => exact ⟨0, rfl, by omega, rfl, rfl, Grow.refl w⟩
  case round =>
    obtain ⟨j, hj, hj2, rfl, rfl, HW⟩ := hrel
    have HG : Hid (gk = n - j) := hj
    clear hj
    by_cases hlt : j < n
    · have hle : (j : Int) < (n : Int) := by omega
      have hat := HA.out wr HW.out j
      have hj3 : j < L.length := by rw [HN.out]; exact hlt
      rw [atL_yes hj3] at hat
      have hus := useN_succ hj3
      have hub := useN_le L j
      have hpf : ∀ w', _ := fun w' => field_f w' (L.getD j FS.empty)
      have hpu : ∀ (w' : World) (u d r : Bool) (p : Int), _ := field_u
      obtain ⟨y, hy⟩ : ∃ y, useN L j = y := ⟨_, rfl⟩
      rw [hy] at hus hub ⊢
      clear hy hj3
      have hw0 : IntKind.i64.wrap ((j : Int) + 1) = ((j + 1 : Nat) : Int) := by rw [IntKind.wrap_i64]; omega
      have hw1 : IntKind.i64.wrap ((y : Int) + 1) = ((y + 1 : Nat) : Int) := by rw [IntKind.wrap_i64]; omega
      have HU : Hid (useN L (j + 1) = y + if (L.getD j FS.empty).u = true then 1 else 0) := hus
      clear hus hub
      generalize (L.getD j FS.empty).arr = arr at hat hpf
      generalize (L.getD j FS.empty).d = d1 at hpf
      generalize (L.getD j FS.empty).r = r1 at hpf
      generalize (L.getD j FS.empty).p = p1 at hpf
      generalize (L.getD j FS.empty).u = u1 at hpf HU
      go_wp2_with fail
      refine hat.mono ?_
      rintro e w2 ⟨rfl, -, g2⟩
      have HW1 : Hid (Grow w w2) := HW.out.trans g2
      clear g2 hat
      cases u1 with
      | true =>
        have HU' : Hid (useN L (j + 1) = y + 1) := HU.out
        clear HU
        go_wp2
        go_roundg (n - (j + 1))
        case measure => have := HG.out; omega
        case rel => exact ⟨j + 1, rfl, by omega, by go_num, by rw [HU'.out]; go_num, HW1⟩
      | false =>
        have HU' : Hid (useN L (j + 1) = y) := HU.out
        clear HU
        go_wp2
        go_roundg (n - (j + 1))
        case measure => have := HG.out; omega
        case rel => exact ⟨j + 1, rfl, by omega, by go_num, by rw [HU'.out], HW1⟩
    · have hge : ¬ (j : Int) < (n : Int) := by omega
      have HJ : Hid (s.used = (useN L j : Nat)) := by show _ = _; rw [HE.out, show j = n by omega]
      clear hlt
      go_wp2
      go_ret
      exact ⟨by rw [HJ.out]; rfl, HW.out⟩
end Go.Proofs.Ytgpigllimoafaaa
