/-
  The walks of an arena's further calls: ahead, Frames, Start, Used, Empty, Of, Clear. Conditions: each theorem's own.
-/
import Derived.Test.YtgpigllimoafaaaAreA
import Derived.Deep.LoopGhost
namespace Go.Proofs.Ytgpigllimoafaaa
open Go.RowKit
set_option linter.unusedVariables false
set_option linter.unusedSimpArgs false

set_option maxHeartbeats 1000000 in
theorem ahead_any (B : Nat) (w : World) (A : Nat) (M : List PS) (k : ArAt B w A M) (n : Nat) (hn : n ≤ M.length) : Calls Try.prog 38 #[.pointer (some ⟨A, 0, none⟩), .int .i64 n] w fun e w' => e = .returned (.int .i64 (sm (M.map PS.len) n)) ∧ Grow w w' := by
  have hc := count_any B w A M k n hn 50 (fun _ _ => rfl) PS.len (fun i hi => PS.len_bd (k.row.1 i hi)) (fun i hi w' g => lenC_any w' _ ((k.row.1 i hi).grow g))
  rw [cntM_sm] at hc
  generalize sm (M.map PS.len) n = x at hc ⊢
  have hmf : ∀ (fn : Fn) (first cap : Array Value) (w : World), (Instr.makeFunc fn first cap).run Try.prog w = .ok (.func fn first cap) w := fun _ _ _ _ => rfl
  clear k hn
  go_enter Try.func38, Try.ntmps38
  go_wp2_with fail
  refine hc.mono ?_
  rintro e w1 ⟨rfl, g1⟩
  go_wp2
  go_ret
  exact ⟨rfl, g1⟩
set_option maxHeartbeats 1000000 in
theorem frames_any (B : Nat) (w : World) (A : Nat) (M : List PS) (k : ArAt B w A M) : Calls Try.prog 14 #[.pointer (some ⟨A, 0, none⟩)] w fun e w' => e = .returned (.int .i64 (sm (M.map PS.len) M.length)) ∧ Grow w w' := by
  have hl := alen_any B w A M k
  have hc := ahead_any B w A M k M.length (Nat.le_refl _)
  generalize sm (M.map PS.len) M.length = x at hc ⊢
  generalize M.length = n at hl hc
  clear k
  go_enter Try.func14, Try.ntmps14
  go_wp2_with fail
  refine hl.mono ?_
  rintro e w1 ⟨rfl, rfl⟩
  go_wp2_with fail
  refine hc.mono ?_
  rintro e w1 ⟨rfl, g1⟩
  go_wp2
  go_ret
  exact ⟨rfl, g1⟩
set_option maxHeartbeats 1000000 in
theorem start_yes (B : Nat) (w : World) (A : Nat) (M : List PS) (k : ArAt B w A M) (i : Nat) (hi : i < M.length) : Calls Try.prog 20 #[.pointer (some ⟨A, 0, none⟩), .int .i64 i] w fun e w' => e = .returned (.int .i64 (sm (M.map PS.len) i)) ∧ Grow w w' := by
  have hh := ahas_any B w A M k i
  have hb : hasB (i : Int) M = true := decide_eq_true ⟨by omega, by omega⟩
  rw [hb] at hh
  have hc := ahead_any B w A M k i (by omega)
  generalize sm (M.map PS.len) i = x at hc ⊢
  clear k hb hi
  go_enter Try.func20, Try.ntmps20
  go_wp2_with fail
  refine hh.mono ?_
  rintro e w1 ⟨rfl, rfl⟩
  go_wp2_with fail
  refine hc.mono ?_
  rintro e w1 ⟨rfl, g1⟩
  go_wp2
  go_ret
  exact ⟨rfl, g1⟩
set_option maxHeartbeats 1000000 in
theorem start_no (B : Nat) (w : World) (A : Nat) (M : List PS) (k : ArAt B w A M) (i : Int) (hi : ¬ (0 ≤ i ∧ i < M.length)) : Calls Try.prog 20 #[.pointer (some ⟨A, 0, none⟩), .int .i64 i] w fun e w' => e = .returned (.int .i64 0) ∧ Grow w w' := by
  have hh := ahas_any B w A M k i
  have hb : hasB i M = false := decide_eq_false hi
  rw [hb] at hh
  clear k hb hi
  go_enter Try.func20, Try.ntmps20
  go_wp2_with fail
  refine hh.mono ?_
  rintro e w1 ⟨rfl, rfl⟩
  go_wp2
  go_ret
  exact ⟨rfl, Grow.refl _⟩
set_option maxHeartbeats 1000000 in
theorem used_any (B : Nat) (w : World) (A : Nat) (M : List PS) (k : ArAt B w A M) : Calls Try.prog 13 #[.pointer (some ⟨A, 0, none⟩)] w fun e w' => e = .returned (.int .i64 (cntM PS.used M M.length)) ∧ Grow w w' := by
  have hl := alen_any B w A M k
  have hc := count_any B w A M k M.length (Nat.le_refl _) 37 (fun _ _ => rfl) PS.used (fun i hi => PS.used_bd (k.row.1 i hi)) (fun i hi w' g => usedC_any w' _ ((k.row.1 i hi).grow g))
  have hmf : ∀ (fn : Fn) (first cap : Array Value) (w : World), (Instr.makeFunc fn first cap).run Try.prog w = .ok (.func fn first cap) w := fun _ _ _ _ => rfl
  generalize cntM PS.used M M.length = x at hc ⊢
  generalize M.length = n at hl hc
  clear k
  go_enter Try.func13, Try.ntmps13
  go_wp2_with fail
  refine hl.mono ?_
  rintro e w1 ⟨rfl, rfl⟩
  go_wp2_with fail
  refine hc.mono ?_
  rintro e w1 ⟨rfl, g1⟩
  go_wp2
  go_ret
  exact ⟨rfl, g1⟩
set_option maxHeartbeats 1000000 in
theorem aempty_any (B : Nat) (w : World) (A : Nat) (M : List PS) (k : ArAt B w A M) : Calls Try.prog 12 #[.pointer (some ⟨A, 0, none⟩)] w fun e w' => e = .returned (.bool (cntM PS.full M M.length == 0)) ∧ Grow w w' := by
  have hl := alen_any B w A M k
  have hc := count_any B w A M k M.length (Nat.le_refl _) 35 (fun _ _ => rfl) PS.full (fun i hi => PS.full_bd _) (fun i hi w' g => fullC_any w' _ ((k.row.1 i hi).grow g))
  have hmf : ∀ (fn : Fn) (first cap : Array Value) (w : World), (Instr.makeFunc fn first cap).run Try.prog w = .ok (.func fn first cap) w := fun _ _ _ _ => rfl
  generalize cntM PS.full M M.length = x at hc ⊢
  generalize M.length = n at hl hc
  clear k
  go_enter Try.func12, Try.ntmps12
  go_wp2_with fail
  refine hl.mono ?_
  rintro e w1 ⟨rfl, rfl⟩
  go_wp2_with fail
  refine hc.mono ?_
  rintro e w1 ⟨rfl, g1⟩
  go_wp2
  go_ret
  exact ⟨rfl, g1⟩

/-- whose a frame is: the partition's number, the frame's there, and whether there is one -/
def OfIs (q : List Int) (n i k : Int) (is : Bool) : Prop :=
  (is = true ∧ ∃ m : Nat, m < q.length ∧ i = m ∧ k = n - sm q m ∧ sm q m ≤ n ∧ n < sm q (m + 1)) ∨ (is = false ∧ i = 0 ∧ k = 0 ∧ (n < 0 ∨ sm q q.length ≤ n))
/-- what Of tells -/
def OfTold (q : List Int) (n : Int) (e : Ending) : Prop := ∃ (i y : Int) (is : Bool), e = .returned (.tuple #[.int .i64 i, .int .i64 y, .bool is]) ∧ OfIs q n i y is
set_option maxHeartbeats 2000000 in
theorem of_any (B : Nat) (w : World) (A : Nat) (M : List PS) (k : ArAt B w A M) (n : Int) (hn : (Lit.int .i64 n).wf = true) : Calls Try.prog 17 #[.pointer (some ⟨A, 0, none⟩), .int .i64 n] w fun e w' => OfTold (M.map PS.len) n e ∧ w = w' := by
  have hnb := bounds_i64 hn
  by_cases h0 : n < 0
  · have HO : Hid (OfIs (M.map PS.len) n 0 0 false) := .inr ⟨rfl, rfl, rfl, .inl h0⟩
    clear k hn hnb
    go_enter Try.func17, Try.ntmps17
    go_wp2
    go_ret3
    exact ⟨⟨_, _, _, rfl, HO.out⟩, rfl⟩
  · obtain ⟨C, o, cc, hl1, hl2, hcl⟩ := k.cells
    obtain ⟨c0, hcs⟩ := hcl w (Grow.refl w)
    have HC : Hid (∀ j, j < M.length → w.cell? ⟨C, o + j, none⟩ = some (.pointer (some ⟨(M.getD j PS.zero).P, 0, none⟩))) := hcs
    have HL : Hid (∀ j, j < M.length → Calls Try.prog 22 #[.pointer (some ⟨(M.getD j PS.zero).P, 0, none⟩)] w fun e w' => e = .returned (.int .i64 (M.getD j PS.zero).len) ∧ w = w') := fun j hj => len_any w _ _ 0 _ _ (k.row.1 j hj).1
    obtain ⟨q, hq⟩ : ∃ q, M.map PS.len = q := ⟨_, rfl⟩
    have hql : q.length = M.length := by rw [← hq]; simp
    have HB : Hid (∀ j, j < M.length → 0 ≤ sm q j ∧ sm q j ≤ 1024 ∧ sm q (j + 1) = sm q j + (M.getD j PS.zero).len ∧ 0 ≤ (M.getD j PS.zero).len ∧ (M.getD j PS.zero).len ≤ 64) := fun j hj => by
      have h1 := cntM_bd (c := PS.len) (M := M) (fun i hi => PS.len_bd (k.row.1 i hi)) (n := j) (by omega)
      have h2 := k.size.2
      have h3 := cntM_succ (c := PS.len) hj
      rw [cntM_sm, hq] at h1 h3
      rw [cntM_sm, hq] at h3
      exact ⟨h1.1, by omega, h3, PS.len_bd (k.row.1 j hj)⟩
    have HQ : Hid (q.length = M.length) := hql
    have hm16 : M.length ≤ 16 := k.size.2
    rw [hq]
    clear hq hql hcl hcs k hl2 hn
    go_enter Try.func17, Try.ntmps17
    go_wp2
    go_loopg [1, 16] M.length (fun m s iv wr => ∃ j : Nat, m = M.length - j ∧ j ≤ M.length ∧ iv = .int .i64 j ∧ s = .int .i64 (n - sm q j) ∧ wr = w ∧ Hid (sm q j ≤ n))
    case atStart => exact ⟨0, rfl, by omega, rfl, by rw [sm_zero]; go_num, rfl, by show sm q 0 ≤ n; rw [sm_zero]; omega⟩
    case round =>
      obtain ⟨j, hj, hj2, rfl, rfl, hww, HW⟩ := hrel
      subst hww
      have HG : Hid (gk = M.length - j) := hj
      clear hj
      by_cases hlt : j < M.length
      · have hle : (j : Int) < (M.length : Int) := by omega
        obtain ⟨b1, b2, e1, b3, b4⟩ := HB.out j hlt
        have hcell := HC.out j hlt
        have hlen := HL.out j hlt
        obtain ⟨x, hx⟩ : ∃ x, (M.getD j PS.zero).len = x := ⟨_, rfl⟩
        rw [hx] at hlen e1 b3 b4
        obtain ⟨y, hy⟩ : ∃ y, n - sm q j = y := ⟨_, rfl⟩
        have hyb := HW.out
        have hyb2 : 0 ≤ y ∧ y ≤ 9223372036854775807 := by omega
        have HE : Hid (sm q (j + 1) = sm q j + x ∧ n - sm q j = y ∧ 0 ≤ sm q j ∧ j < M.length) := ⟨e1, hy, b1, hlt⟩
        rw [hy]
        clear hx hy e1 b1 b2 hyb
        generalize (M.getD j PS.zero).P = P at hcell hlen
        have hw0 : IntKind.i64.wrap ((j : Int) + 1) = ((j + 1 : Nat) : Int) := by rw [IntKind.wrap_i64]; omega
        have hw1 : IntKind.i64.wrap (y - x) = y - x := by rw [IntKind.wrap_i64]; omega
        by_cases hin : y < x
        · go_wp2_with fail
          refine hlen.mono ?_
          rintro e w1 ⟨rfl, rfl⟩
          clear hlen
          go_wp2
          go_ret3
          refine ⟨⟨_, _, _, rfl, ?_⟩, rfl⟩
          have h1 := HE.out
          have h2 := HQ.out
          exact .inl ⟨rfl, j, by omega, rfl, by omega, by omega, by omega⟩
        · go_wp2_with fail
          refine hlen.mono ?_
          rintro e w1 ⟨rfl, rfl⟩
          go_wp2_with fail
          refine hlen.mono ?_
          rintro e w1 ⟨rfl, rfl⟩
          have HF : Hid (y - x = n - sm q (j + 1) ∧ sm q (j + 1) ≤ n) := by
            show _ ∧ _
            have h1 := HE.out
            exact ⟨by omega, by omega⟩
          clear hlen
          go_wp2
          go_roundg (M.length - (j + 1))
          case measure => have := HG.out; omega
          case rel => exact ⟨j + 1, rfl, by omega, by go_num, by rw [HF.out.1], rfl, HF.out.2⟩
      · have hge : ¬ (j : Int) < (M.length : Int) := by omega
        have HE : Hid (OfIs q n 0 0 false) := by
          refine .inr ⟨rfl, rfl, rfl, .inr ?_⟩
          rw [HQ.out, show M.length = j by omega]
          exact HW.out
        generalize n - sm q j = y
        clear hlt
        go_wp2
        go_ret3
        exact ⟨⟨_, _, _, rfl, HE.out⟩, rfl⟩

/-- a partition as a new one -/
def PS.clr (s : PS) : PS := ⟨s.P, s.b, List.replicate s.L.length FS.empty, 0⟩
/-- those ahead of j cleared -/
def clrTo (M : List PS) (j : Nat) : List PS := (List.range M.length).map (fun i => if i < j then (M.getD i PS.zero).clr else M.getD i PS.zero)
theorem clrTo_len (M : List PS) (j : Nat) : (clrTo M j).length = M.length := by simp [clrTo]
theorem clrTo_at {M : List PS} {j i : Nat} (hi : i < M.length) : (clrTo M j).getD i PS.zero = if i < j then (M.getD i PS.zero).clr else M.getD i PS.zero := by
  simp [clrTo, List.getD, hi]
theorem clrTo_zero (M : List PS) : clrTo M 0 = M := ext_at (d := PS.zero) (clrTo_len _ _) (fun i hi => by
  rw [clrTo_len] at hi; rw [clrTo_at hi, if_neg (by omega)])
theorem clrTo_succ {M : List PS} {j : Nat} (hj : j < M.length) : clrTo M (j + 1) = (clrTo M j).set j (M.getD j PS.zero).clr := ext_at (d := PS.zero) (by rw [clrTo_len, List.length_set, clrTo_len]) (fun i hi => by
  rw [clrTo_len] at hi
  rw [getD_set (by rw [clrTo_len]; exact hi), clrTo_at hi, clrTo_at hi]
  by_cases e : j = i
  · subst e; rw [if_pos (by omega), if_pos rfl]
  · rw [if_neg e]
    by_cases h : i < j
    · rw [if_pos (by omega), if_pos h]
    · rw [if_neg (by omega), if_neg h])
theorem clrTo_P {M : List PS} (j : Nat) {i : Nat} (hi : i < M.length) : ((clrTo M j).getD i PS.zero).P = (M.getD i PS.zero).P ∧ ((clrTo M j).getD i PS.zero).b = (M.getD i PS.zero).b := by
  rw [clrTo_at hi]
  split <;> exact ⟨rfl, rfl⟩
set_option maxHeartbeats 2000000 in
theorem aclear_any (B : Nat) (w : World) (A : Nat) (M : List PS) (k : ArAt B w A M) : Calls Try.prog 32 #[.pointer (some ⟨A, 0, none⟩)] w fun e w' => e = .returned (.tuple #[]) ∧ ArAt B w' A (clrTo M M.length) ∧ UpdS (fun x => B ≤ x) w w' := by
  obtain ⟨v, k1, k2, k3, k4, k5, k6⟩ := k
  obtain ⟨a, cc, rfl⟩ := k2.shape
  obtain ⟨-, hl1, hl2⟩ := k2.caps
  obtain ⟨C, o, rfl, -, -⟩ := k2.addr k6.1
  obtain ⟨c0, -⟩ := k1.2 0 (by simp)
  simp only [Nat.zero_add, List.getElem?_cons_zero] at c0
  have H0 : Hid (VarAt w A [.slice (some ⟨C, o, none⟩) M.length cc] ∧ RdV PS.v PS.zero (fun i => B ≤ i ∧ NoP M i) w (.slice (some ⟨C, o, none⟩) M.length cc) M ∧ RowP B w (clrTo M 0) ∧ UpdS (fun x => B ≤ x) w w) := ⟨k1, k2, by rw [clrTo_zero]; exact k5, UpdS.refl _ _⟩
  have HM : Hid (B ≤ A ∧ NoP M A ∧ 0 < M.length ∧ M.length ≤ 16) := ⟨k3, k4, k6⟩
  have HL : Hid (∀ i, i < M.length → ∀ x, (M.getD i PS.zero).has x → B ≤ x) := k5.2.1
  have hm16 := k6.2
  clear k1 k2 k3 k4 k5 k6 hl2
  go_enter Try.func32, Try.ntmps32
  go_wp2
  go_loopg [9] M.length (fun m iv wr => ∃ j : Nat, m = M.length - j ∧ j ≤ M.length ∧ iv = .int .i64 j ∧ Hid (VarAt wr A [.slice (some ⟨C, o, none⟩) M.length cc] ∧ RdV PS.v PS.zero (fun i => B ≤ i ∧ NoP M i) wr (.slice (some ⟨C, o, none⟩) M.length cc) M ∧ RowP B wr (clrTo M j) ∧ UpdS (fun x => B ≤ x) w wr))
  case atStart => exact ⟨0, rfl, by omega, rfl, H0⟩
  case round =>
    clear H0
    obtain ⟨j, hj, hj2, rfl, HW⟩ := hrel
    have HG : Hid (gk = M.length - j) := hj
    clear hj
    by_cases hlt : j < M.length
    · have hle : (j : Int) < (M.length : Int) := by omega
      have hcell : wr.cell? ⟨C, o + j, none⟩ = some (.pointer (some ⟨(M.getD j PS.zero).P, 0, none⟩)) := by
        obtain ⟨C', o', e, -, hc⟩ := HW.out.2.1.addr HM.out.2.2.1
        injection e with e
        injection e with e1 e2
        subst e1 e2
        exact hc j hlt
      have hth : (M.getD j PS.zero).There wr := by
        have h1 := HW.out.2.2.1.1 j (by rw [clrTo_len]; exact hlt)
        rw [clrTo_at hlt, if_neg (by omega)] at h1
        exact h1
      have hcl := clear_any wr _ _ 0 _ _ hth.1 hth.pos.1
      have HT : Hid ((M.getD j PS.zero).There wr ∧ j < M.length) := ⟨hth, hlt⟩
      clear hth
      have hw0 : IntKind.i64.wrap ((j : Int) + 1) = ((j + 1 : Nat) : Int) := by rw [IntKind.wrap_i64]; omega
      obtain ⟨s, hs⟩ : ∃ s, M.getD j PS.zero = s := ⟨_, rfl⟩
      rw [hs] at hcell hcl HT
      have HS : Hid (M.getD j PS.zero = s) := hs
      clear hs
      go_wp2_with fail
      refine hcl.mono ?_
      rintro e w1 ⟨rfl, k1, u1⟩
      have HW1 : Hid (VarAt w1 A [.slice (some ⟨C, o, none⟩) M.length cc] ∧ RdV PS.v PS.zero (fun i => B ≤ i ∧ NoP M i) w1 (.slice (some ⟨C, o, none⟩) M.length cc) M ∧ RowP B w1 (clrTo M (j + 1)) ∧ UpdS (fun x => B ≤ x) w w1) := by
        obtain ⟨g1, g2, g3, g4⟩ := HW.out
        have hj3 := HT.out.2
        have hP := clrTo_P (M := M) j hj3
        have hlow := HL.out j hj3
        rw [HS.out] at hP hlow
        refine ⟨g1.upd u1 (fun hh => HM.out.2.1 j hj3 (by rw [HS.out]; exact hh)), g2.upd u1 (fun i _ hi hh => hi.2 j hj3 (by rw [HS.out]; exact hh)), ?_, g4.trans (u1.mono (fun x hx => hlow x hx))⟩
        rw [clrTo_succ hj3, HS.out]
        refine g3.turn (s := s.clr) (by rw [clrTo_len]; exact hj3) ⟨k1, repl_ok HT.out.1.pos.1 HT.out.1.pos.2⟩ ⟨hP.1.symm, hP.2.symm⟩ ?_
        refine u1.mono (fun x hx => ?_)
        unfold PS.has
        rw [hP.1, hP.2]; exact hx
      clear hcl hcell k1 u1
      go_wp2
      go_roundg (M.length - (j + 1))
      case measure => have := HG.out; omega
      case rel => exact ⟨j + 1, rfl, by omega, by go_num, HW1⟩
    · have hge : ¬ (j : Int) < (M.length : Int) := by omega
      have HE : Hid (ArAt B wr A (clrTo M M.length) ∧ UpdS (fun x => B ≤ x) w wr) := by
        obtain ⟨g1, g2, g3, g4⟩ := HW.out
        rw [show j = M.length by omega] at g3
        have hno : ∀ x, NoP M x → NoP (clrTo M M.length) x := fun x hx i hi hh => by
          rw [clrTo_len] at hi
          unfold PS.has at hh
          rw [(clrTo_P _ hi).1, (clrTo_P _ hi).2] at hh
          exact hx i hi hh
        refine ⟨⟨_, g1, ?_, HM.out.1, hno _ HM.out.2.1, g3, by rw [clrTo_len]; exact HM.out.2.2⟩, g4⟩
        obtain ⟨a, c, hv, f1, f2, f3⟩ := g2
        refine ⟨a, c, by rw [clrTo_len]; exact hv, by rw [clrTo_len]; exact f1, f2, fun i hi => ?_⟩
        rw [clrTo_len] at hi
        obtain ⟨bb, oo, e, hb, hc⟩ := f3 i hi
        refine ⟨bb, oo, e, ⟨hb.1, hno _ hb.2⟩, ?_⟩
        rw [hc]
        unfold PS.v
        rw [(clrTo_P _ hi).1]
      clear hlt HW
      go_wp2
      go_end0
      exact ⟨rfl, HE.out⟩
end Go.Proofs.Ytgpigllimoafaaa
