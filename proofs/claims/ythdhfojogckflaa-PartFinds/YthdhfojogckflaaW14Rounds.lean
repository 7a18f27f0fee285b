/-
  The walk of PartRounds. Conditions: the theorem's own.
-/
import Derived.Test.YthdhfojogckflaaPrtW
import Derived.Deep.LoopGhost
namespace Go.Proofs.Ythdhfojogckflaa
open Go.RowKit
set_option linter.unusedVariables false
set_option linter.unusedSimpArgs false

/-- a frame with the page j, just loaded -/
def pgF (j : Nat) : FS := ⟨true, false, false, 0, j, z32⟩
/-- the frames behind j pages -/
def rl (K : Nat) : Nat → List FS
  | 0 => List.replicate K FS.empty
  | j + 1 => (rl K j).set (j % K) (pgF j)
theorem rl_len (K j : Nat) : (rl K j).length = K := by
  induction j with
  | zero => exact List.length_replicate
  | succ j ih => show ((rl K j).set _ _).length = K; rw [List.length_set, ih]
theorem rl_succ {K j p : Nat} (hp : p < K) : (rl K (j + 1)).getD p FS.empty = if j % K = p then pgF j else (rl K j).getD p FS.empty := getD_set (by rw [rl_len]; exact hp)
theorem rl_at {K : Nat} (j : Nat) {p : Nat} (hp : p < K) : (j ≤ p → (rl K j).getD p FS.empty = FS.empty) ∧ (∀ q, q < j → j ≤ q + K → q % K = p → (rl K j).getD p FS.empty = pgF q) := by
  induction j with
  | zero => exact ⟨fun _ => repl_at hp, fun q hq => absurd hq (Nat.not_lt_zero _)⟩
  | succ j ih =>
    constructor
    · intro hj
      rw [rl_succ hp, if_neg (by rw [Nat.mod_eq_of_lt (by omega)]; omega)]
      exact ih.1 (by omega)
    · intro q hq hqk hqp
      rw [rl_succ hp]
      by_cases e : q = j
      · subst e; rw [if_pos hqp]
      · have hne : ¬ j % K = p := fun e2 => by
          have h1 : (j - q) % K = 0 := Nat.sub_mod_eq_zero_of_mod_eq (by rw [e2, hqp])
          rw [Nat.mod_eq_of_lt (by omega)] at h1
          omega
        rw [if_neg hne]
        exact ih.2 q (by omega) (by omega) hqp
theorem rl_each (K j : Nat) : ∀ s ∈ rl K j, s.r = false ∧ s.p = 0 ∧ s.bs = z32 ∧ (s.u = true → s.q < j) ∧ 0 ≤ s.q := by
  induction j with
  | zero => intro s hs; rw [List.eq_of_mem_replicate hs]; exact ⟨rfl, rfl, rfl, fun h => Bool.noConfusion h, by decide⟩
  | succ j ih =>
    intro s hs
    rcases List.mem_or_eq_of_mem_set hs with h1 | h1
    · obtain ⟨a1, a2, a3, a4, a5⟩ := ih s h1
      exact ⟨a1, a2, a3, fun h => by have := a4 h; omega, a5⟩
    · rw [h1]; exact ⟨rfl, rfl, rfl, fun _ => by show (j : Int) < ((j + 1 : Nat) : Int); omega, by show (0 : Int) ≤ (j : Int); omega⟩
theorem rl_ok {K : Nat} (j : Nat) (h1 : 1 ≤ K) (h2 : K ≤ 64) : PtOk (rl K j) (j % K) :=
  ⟨fun s hs => by
    obtain ⟨a1, a2, a3, a4, a5⟩ := rl_each K j s hs
    exact ⟨by rw [a3]; exact z32_len, by rw [a3]; exact z32_oct, by omega, by omega⟩, by rw [rl_len]; exact Nat.mod_lt _ (by omega), by rw [rl_len]; exact h2⟩
theorem rl_vic {K j : Nat} (h1 : 1 ≤ K) : trn (flsL (rl K j)) (j % K) = (1, flsL (rl K j)) ∧ vic (flsL (rl K j)) (j % K) = j % K ∧ hnd (flsL (rl K j)) (j % K) = (j + 1) % K ∧ vicL (rl K j) (j % K) = rl K j := by
  have hlt : j % K < K := Nat.mod_lt _ (by omega)
  have hl : (flsL (rl K j)).length = K := by rw [flsL_len, rl_len]
  have ht : trn (flsL (rl K j)) (j % K) = (1, flsL (rl K j)) := by
    unfold trn
    obtain ⟨m, hm⟩ : ∃ m, 2 * (flsL (rl K j)).length = m + 1 := ⟨2 * (flsL (rl K j)).length - 1, by omega⟩
    rw [hm]
    refine scn_hit ((rl K j).getD (j % K) FS.empty).fl ?_ ?_
    · rw [Nat.add_zero, hl, Nat.mod_eq_of_lt hlt, flsL_at (by rw [rl_len]; exact hlt)]
    · obtain ⟨a1, a2, -, -, -⟩ := rl_each K j _ (getD_in (d := FS.empty) (i := j % K) (by rw [rl_len]; exact hlt))
      show (!_ || (decide (_ ≤ 0) && !_)) = true
      simp only [FS.fl, a1, a2]
      simp
  have hv : vic (flsL (rl K j)) (j % K) = j % K := by
    unfold vic
    rw [ht, if_neg Nat.one_ne_zero, hl]
    simp
  refine ⟨ht, hv, ?_, ?_⟩
  · unfold hnd
    rw [ht, if_neg Nat.one_ne_zero, hv, hl]
    exact Nat.mod_add_mod j K 1
  · unfold vicL
    rw [ht]
    exact ext_at (d := FS.empty) (wfL_len _ _) (fun i hi => by
      rw [wfL_len] at hi
      rw [wfL_at hi, flsL_at hi]; rfl)
theorem rl_load {K j : Nat} (h1 : 1 ≤ K) : loadP ((j % K : Nat) : Int) (j : Int) z32 (rl K j) = (rl K (j + 1), 0) := by
  have hlt : j % K < (rl K j).length := by rw [rl_len]; exact Nat.mod_lt _ (by omega)
  have hn : fnd (j : Int) (rl K j) = (rl K j).length := fnd_none (fun i hi => by
    obtain ⟨-, -, -, a4, -⟩ := rl_each K j _ (getD_in (d := FS.empty) hi)
    show (_ && (_ == _)) = false
    cases hu : ((rl K j).getD i FS.empty).u with
    | false => rfl
    | true =>
      have := a4 hu
      rw [Bool.true_and, beq_eq_false_iff_ne]
      omega)
  rw [loadP_yes hlt (fun e => by have := e.1; omega), loadS_yes z32_len]; rfl

theorem put37 (w2 : World) (s : FS) (hl : s.bs.length = 32) : (storeCells ⟨w2.heap.size, 0, none⟩ s.cells).run Try.prog (w2.alloc (.cells zeroF 47)) = .ok () ((w2.alloc (.cells zeroF 47)).setCells w2.heap.size 0 s.cells) := by
  have FX : FrX (w2.alloc (.cells zeroF 47)) w2.heap.size 0 FS.empty := by rw [← empty_arr]; exact FrX.new z32_len w2 47
  have hl37 := FS.cells_len hl
  have hst := run_storeCells_cells (P := Try.prog) w2.heap.size 0 s.cells 0 (w2.alloc (.cells zeroF 47)) (fun j hj => by rw [hl37] at hj; exact (FX.there j hj).1) (fun j hj => by rw [hl37] at hj; exact (FX.there j hj).2) s.cells_one
  simp only [Nat.add_zero] at hst
  exact hst
theorem put37_at (w2 : World) (s : FS) (hl : s.bs.length = 32) : FrX ((w2.alloc (.cells zeroF 47)).setCells w2.heap.size 0 s.cells) w2.heap.size 0 s ∧ Grow w2 ((w2.alloc (.cells zeroF 47)).setCells w2.heap.size 0 s.cells) := by
  have FX : FrX (w2.alloc (.cells zeroF 47)) w2.heap.size 0 FS.empty := by rw [← empty_arr]; exact FrX.new z32_len w2 47
  exact ⟨FX.put hl, UpdS.new ((Grow.refl w2).alloc _) (updS_row _ _ _ _) (fun i hi => by omega)⟩

set_option maxRecDepth 8000 in
set_option maxHeartbeats 4000000 in
theorem partRounds_walk (n many : Int) (w : World) (hn : (Lit.int .i64 n).wf = true) (hm : (Lit.int .i64 many).wf = true) : Calls Try.prog 8 #[.int .i64 n, .int .i64 many] w fun e w' => e = .returned (.bool true) ∧ Grow w w' := by
  have ha := around_any n 5 w hn (by omega) (by omega)
  have hb := around_bd n 5 (by omega)
  have HA : Hid (∀ w', Calls Try.prog 9 #[.int .i64 many, .int .i64 12] w' fun e w'' => e = .returned (.int .i64 (around many 12)) ∧ w' = w'') := fun w' => around_any many 12 w' hm (by omega) (by omega)
  have hmb := around_bd many 12 (by omega)
  generalize around many 12 = z12 at HA hmb
  obtain ⟨K, hK⟩ : ∃ K : Nat, (K : Int) = 1 + around n 5 := ⟨(1 + around n 5).toNat, by omega⟩
  generalize around n 5 = z5 at ha hb hK
  have hw5 : IntKind.i64.wrap (1 + z5) = (K : Int) := by rw [IntKind.wrap_i64]; omega
  have HK : Hid (1 ≤ K ∧ K ≤ 5) := ⟨by omega, by omega⟩
  have hnw := new_yes K w (by omega) (by omega)
  have HZ : Hid (0 ≤ z12 ∧ z12 < 12) := hmb
  clear hb hK hmb
  go_enter Try.func8, Try.ntmps8
  go_wp2_with fail
  refine ha.mono ?_
  rintro e w1 ⟨rfl, rfl⟩
  go_wp2_with fail
  refine hnw.mono ?_
  rintro e w2 ⟨rfl, k2, g2⟩
  obtain ⟨P, hP⟩ : ∃ P, w.heap.size + 1 = P := ⟨_, rfl⟩
  obtain ⟨b, hbb⟩ : ∃ b, w.heap.size = b := ⟨_, rfl⟩
  rw [hP, hbb] at k2
  rw [hP]
  have H0 : Hid (PtO w2 P b 0 (rl K 0) (0 % K) ∧ Grow w w2 ∧ w.heap.size ≤ P ∧ w.heap.size ≤ b) := by
    refine ⟨?_, g2, by omega, by omega⟩
    rw [Nat.zero_mod]; exact k2
  clear k2 g2 hP hbb ha hnw
  go_wp2_with fail
  go_loopg [8] 13 (fun m iv wr => ∃ j : Nat, m = 13 - j ∧ j ≤ 12 ∧ iv = .int .i64 j ∧ Hid (PtO wr P b 0 (rl K j) (j % K) ∧ Grow w wr ∧ w.heap.size ≤ P ∧ w.heap.size ≤ b))
  case atStart => exact ⟨0, rfl, by omega, rfl, H0⟩
  case round =>
    clear H0
    obtain ⟨j, hj, hj2, rfl, HI⟩ := hrel
    have HG : Hid (gk = 13 - j) := hj
    clear hj
    have hz := HZ.out
    have hw1 : IntKind.i64.wrap (1 + z12) = 1 + z12 := by rw [IntKind.wrap_i64]; omega
    have har := HA.out wr
    by_cases hlt : (j : Int) < 1 + z12
    · have HJ : Hid ((j : Int) < 1 + z12) := hlt
      have hw0 : IntKind.i64.wrap ((j : Int) + 1) = ((j + 1 : Nat) : Int) := by rw [IntKind.wrap_i64]; omega
      have hk1 := HK.out.1
      have hvm := victim_any wr P b 0 (rl K j) (j % K) HI.out.1 (rl_ok j HK.out.1 (by have := HK.out.2; omega))
      obtain ⟨e1, e2, e3, e4⟩ := rl_vic (K := K) (j := j) HK.out.1
      rw [e1, e2, e3, e4, decide_eq_true Nat.one_pos] at hvm
      clear e1 e2 e3 e4
      have hmod : j % K < K := Nat.mod_lt _ (by omega)
      obtain ⟨y, hy⟩ : ∃ y, j % K = y := ⟨_, rfl⟩
      have hK0 : ¬ (K : Int) = 0 := by omega
      have ht : Int.tmod (j : Int) (K : Int) = (y : Int) := by rw [Int.tmod_eq_emod_of_nonneg (by omega), ← hy]; rfl
      have ht2 : (j : Int) % (K : Int) = (y : Int) := by rw [← hy]; rfl
      have HL : Hid (loadP (y : Int) (j : Int) z32 (rl K j) = (rl K (j + 1), 0)) := by rw [← hy]; exact rl_load HK.out.1
      have HAt : Hid (atL (y : Int) (rl K j) = (rl K j).getD y FS.empty) := atL_yes (by rw [rl_len]; omega)
      have HE : Hid (((rl K j).getD y FS.empty).u = decide (K ≤ j) ∧ (K ≤ j → ((rl K j).getD y FS.empty).q = ((j - K : Nat) : Int)) ∧ ((rl K j).getD y FS.empty).bs.length = 32) := by
        have ha := rl_at (K := K) j (p := y) (by omega)
        by_cases hKj : K ≤ j
        · have e : (j - K) % K = y := by
            rw [← hy]
            have := Nat.add_mod_right (j - K) K
            rw [Nat.sub_add_cancel hKj] at this
            exact this.symm
          have h2 := ha.2 (j - K) (by omega) (by omega) e
          rw [h2]; exact ⟨(decide_eq_true hKj).symm, fun _ => rfl, z32_len⟩
        · have h2 := ha.1 (by rw [← hy, Nat.mod_eq_of_lt (by omega)]; exact Nat.le_refl _)
          rw [h2]; exact ⟨(decide_eq_false hKj).symm, fun h => absurd h hKj, z32_len⟩
      rw [hy] at hvm HI
      have HY : Hid (y < K ∧ PtOk (rl K j) ((j + 1) % K)) := ⟨by omega, ⟨(rl_ok j HK.out.1 (by have := HK.out.2; omega)).1, by rw [rl_len]; exact Nat.mod_lt _ (by omega), by rw [rl_len]; have := HK.out.2; omega⟩⟩
      clear hy hmod hlt
      go_wp2_with fail
      refine har.mono ?_
      rintro e w1 ⟨rfl, rfl⟩
      clear har
      have hlt := HJ.out
      go_wp2_with fail
      refine hvm.mono ?_
      rintro e w3 ⟨rfl, k3, u3⟩
      have hat := at_any w3 P b 0 (rl K j) ((j + 1) % K) k3 (by rw [rl_len]; have := HK.out.2; omega) (y : Int)
      rw [HAt.out] at hat
      simp only [FS.arr] at hat
      have H3 : Hid (PtO w3 P b 0 (rl K j) ((j + 1) % K) ∧ Grow w w3) := ⟨k3, UpdS.new HI.out.2.1 u3 (fun i hi => by have := HI.out.2.2; omega)⟩
      generalize (rl K j).getD y FS.empty = s at hat HE
      clear hvm k3 u3
      go_wp2_with fail
      refine hat.mono ?_
      rintro e w4 ⟨rfl, hsl, g4⟩
      have hst := put37 w4 s hsl
      have hl37 := FS.cells_len hsl
      have hfx := put37_at w4 s hsl
      rw [← zeroF_lit] at hst hfx
      have H4 : Hid (PtO ((w4.alloc (.cells zeroF 47)).setCells w4.heap.size 0 s.cells) P b 0 (rl K j) ((j + 1) % K) ∧ Grow w ((w4.alloc (.cells zeroF 47)).setCells w4.heap.size 0 s.cells)) := by
        rw [zeroF_lit] at hfx
        exact ⟨(H3.out.1.grow g4).grow hfx.2, (H3.out.2.trans g4).trans hfx.2⟩
      rw [← zeroF_lit] at H4
      clear hat g4
      go_upto_region 12 with fail
      generalize (w4.alloc (.cells #[.bool false, .bool false, .bool false, .int .i64 0, .int .i64 0, .int .u8 0, .int .u8 0, .int .u8 0, .int .u8 0, .int .u8 0, .int .u8 0, .int .u8 0, .int .u8 0, .int .u8 0, .int .u8 0, .int .u8 0, .int .u8 0, .int .u8 0, .int .u8 0, .int .u8 0, .int .u8 0, .int .u8 0, .int .u8 0, .int .u8 0, .int .u8 0, .int .u8 0, .int .u8 0, .int .u8 0, .int .u8 0, .int .u8 0, .int .u8 0, .int .u8 0, .int .u8 0, .int .u8 0, .int .u8 0, .int .u8 0, .int .u8 0] 47)).setCells w4.heap.size 0 s.cells = w5 at hfx H4 ⊢
      generalize w4.heap.size = M at hfx ⊢
      obtain ⟨⟨m0, -, -, -, m4⟩, -⟩ := FrO.five hfx.1
      rw [HE.out.1] at m0
      obtain ⟨v6, w6, hmk, ho6, g6⟩ := make32 w5
      obtain ⟨a6, c6, hv6⟩ := ho6.shape
      rw [z32_len] at hv6
      subst hv6
      have hld := load_any w6 P b 0 (rl K j) ((j + 1) % K) (H4.out.1.grow g6) HY.out.2 (y : Int) (j : Int) _ z32 (ho6.rd.mono (fun i _ hi => by have h1 := H4.out.1.lt; have h2 := H4.out.1.2.2.1; omega))
      rw [HL.out] at hld
      have H6 : Hid (Grow w w6) := H4.out.2.trans g6
      clear hst hl37 hfx ho6 g6 H3
      by_cases hKj : K ≤ j
      · have hge : (K : Int) ≤ (j : Int) := by omega
        rw [decide_eq_true hKj] at m0
        rw [HE.out.2.1 hKj] at m4
        have hws : IntKind.i64.wrap ((j : Int) - (K : Int)) = ((j - K : Nat) : Int) := by rw [IntKind.wrap_i64]; omega
        clear hKj
        go_wp2_with fail
        refine hld.mono ?_
        rintro e w7 ⟨rfl, k7, u7⟩
        have HF : Hid (PtO w7 P b 0 (rl K (j + 1)) ((j + 1) % K) ∧ Grow w w7 ∧ w.heap.size ≤ P ∧ w.heap.size ≤ b) := ⟨k7, UpdS.new H6.out u7 (fun i hi => by have := HI.out.2.2; omega), HI.out.2.2⟩
        clear hld k7 u7 hmk m0 m4
        go_wp2
        go_roundg (13 - (j + 1))
        case measure => have := HG.out; have := HJ.out; have := HZ.out; omega
        case rel => exact ⟨j + 1, rfl, by have := HJ.out; have := HZ.out; omega, by go_num, HF⟩
      · have hge : ¬ (K : Int) ≤ (j : Int) := by omega
        rw [decide_eq_false hKj] at m0
        clear hKj
        go_wp2_with fail
        refine hld.mono ?_
        rintro e w7 ⟨rfl, k7, u7⟩
        have HF : Hid (PtO w7 P b 0 (rl K (j + 1)) ((j + 1) % K) ∧ Grow w w7 ∧ w.heap.size ≤ P ∧ w.heap.size ≤ b) := ⟨k7, UpdS.new H6.out u7 (fun i hi => by have := HI.out.2.2; omega), HI.out.2.2⟩
        clear hld k7 u7 hmk m0 m4
        go_wp2
        go_roundg (13 - (j + 1))
        case measure => have := HG.out; have := HJ.out; have := HZ.out; omega
        case rel => exact ⟨j + 1, rfl, by have := HJ.out; have := HZ.out; omega, by go_num, HF⟩
    · have hl := fun w' => lives_any w'
      go_wp2_with fail
      refine har.mono ?_
      rintro e w1 ⟨rfl, rfl⟩
      clear har
      go_wp2_with fail
      refine (hl _).mono ?_
      rintro e w2 ⟨rfl, g2⟩
      go_wp2
      go_ret
      exact ⟨rfl, HI.out.2.1.trans g2⟩
end Go.Proofs.Ythdhfojogckflaa
