/-
  The walk of Cut. Conditions: the theorem's own.
-/
import Derived.Test.YtgpigllimoafaaaAreB
import Derived.Deep.LoopGhost
namespace Go.Proofs.Ytgpigllimoafaaa
open Go.RowKit
set_option linter.unusedVariables false
set_option linter.unusedSimpArgs false

/-- may frames be cut so? -/
def CutOk (q : List Int) : Prop := 1 ≤ q.length ∧ q.length ≤ 16 ∧ (∀ i, i < q.length → 1 ≤ q.getD i 0 ∧ q.getD i 0 ≤ 64) ∧ sm q q.length ≤ 64
/-- the first j partitions are new ones of those quotas -/
def NewM (q : List Int) (M : List PS) : Prop := ∀ i, i < M.length → (M.getD i PS.zero).L = List.replicate (q.getD i 0).toNat FS.empty ∧ (M.getD i PS.zero).h = 0
theorem NewM.map {q : List Int} {M : List PS} (h : NewM q M) (hl : M.length = q.length) (hq : ∀ i, i < q.length → 1 ≤ q.getD i 0) : M.map PS.len = q := by
  refine ext_at (d := 0) (by simpa using hl) (fun i hi => ?_)
  simp only [List.length_map] at hi
  have h1 := hq i (by omega)
  rw [getD_map0 hi]
  unfold PS.len
  rw [(h i hi).1, List.length_replicate]
  omega
/-- what Cut leaves -/
def CutPost (B : Nat) (q : List Int) (e : Ending) (w' : World) : Prop :=
  (CutOk q ∧ ∃ A M, e = .returned (.tuple #[.pointer (some ⟨A, 0, none⟩), .int .i64 0]) ∧ ArAt B w' A M ∧ M.length = q.length ∧ NewM q M) ∨ (¬ CutOk q ∧ e = .returned (.tuple #[.pointer none, .int .i64 1]))
/-- what stands behind j quotas -/
def CutAt (B A : Nat) (q : List Int) (w wr : World) (j : Nat) (v : Value) (M : List PS) : Prop :=
  VarAt wr A [v] ∧ OwnV PS.v PS.zero (fun i => B ≤ i ∧ NoP M i ∧ i ≠ A) wr v M ∧ RowP B wr M ∧ NoP M A ∧ M.length = j ∧ NewM q M ∧ Grow w wr
theorem cut_bad {q : List Int} {j : Nat} (hj : j < q.length) (h : ¬ (1 ≤ q.getD j 0 ∧ q.getD j 0 ≤ 64)) : ¬ CutOk q := fun k => h (k.2.2.1 j hj)
theorem cut_over {q : List Int} {j : Nat} (hj : j < q.length) (h : 64 < sm q (j + 1)) : ¬ CutOk q := fun k => by
  have h1 := sm_mono (q := q) (fun i hi => by have := k.2.2.1 i hi; omega) (m := j + 1) (n := q.length) (by omega) (Nat.le_refl _)
  have := k.2.2.2
  omega

/-- one more partition stands behind the others -/
theorem cut_next {A j N n : Nat} {q : List Int} {w w1 w' : World} {v : Value} {M : List PS} {a' : Option Addr} {n' c' : Nat}
    (h : VarAt w1 A [v] ∧ RowP A w1 M ∧ NoP M A ∧ M.length = j ∧ NewM q M ∧ Grow w w1 ∧ A < N ∧ PS.There w1 ⟨N + 1, N, List.replicate n FS.empty, 0⟩ ∧ N + 2 ≤ w1.heap.size ∧ ∀ m, m < M.length → ∀ x, (M.getD m PS.zero).has x → x < N) (hA : w.heap.size = A)
    (hu2 : UpdS (fun i => A ≤ i ∧ NoP M i ∧ i ≠ A ∧ i < N) w1 w') (ho : OwnV PS.v PS.zero (fun i => A ≤ i ∧ NoP M i ∧ ¬i = A ∧ i < N ∨ i = w1.heap.size + 1) w' (.slice a' n' c') (M ++ [⟨N + 1, N, List.replicate n FS.empty, 0⟩])) (hx : q.getD j 0 = (n : Int)) (hj : j ≤ q.length) :
    CutAt A A q w (w'.setCell ⟨A, 0, none⟩ (.slice a' n' c')) (j + 1) (.slice a' n' c') (M ++ [⟨N + 1, N, List.replicate n FS.empty, 0⟩]) := by
  obtain ⟨h1, h2, h3, h4, h5, h6, h7, h8, h9, h10⟩ := h
  have hno : ∀ i, (A ≤ i ∧ NoP M i ∧ ¬i = A ∧ i < N ∨ i = w1.heap.size + 1) → A ≤ i ∧ NoP (M ++ [(⟨N + 1, N, List.replicate n FS.empty, 0⟩ : PS)]) i ∧ i ≠ A := fun i hi => by
    have hM : NoP M i := by
      rcases hi with hi | hi
      · exact hi.2.1
      · exact fun m hm hh => by have := (h2.1 m hm).lt hh; omega
    have hs : i ≠ N ∧ i ≠ N + 1 := by rcases hi with hi | hi <;> omega
    refine ⟨by rcases hi with hi | hi <;> omega, fun m hm hh => ?_, by rcases hi with hi | hi <;> omega⟩
    rw [getD_app] at hh
    rw [List.length_append, List.length_singleton] at hm
    by_cases e : m < M.length
    · rw [if_pos e] at hh; exact hM m e hh
    · rw [if_neg e, if_pos (by omega)] at hh
      rcases hh with hh | hh
      · exact hs.2 hh
      · exact hs.1 hh
  have hsc := upd_one w' A 0 (.slice a' n' c')
  have g2 : RowP A (w'.setCell ⟨A, 0, none⟩ (.slice a' n' c')) M := (h2.upd hu2 (fun x hx => .inl hx.2.1)).upd hsc (fun x hx => .inl (by rw [hx]; exact h3))
  have g3 : PS.There (w'.setCell ⟨A, 0, none⟩ (.slice a' n' c')) ⟨N + 1, N, List.replicate n FS.empty, 0⟩ :=
    (h8.upd hu2 (fun i hi hp => by have := hp.2.2.2; rcases hi with hi | hi <;> (simp only at hi; omega))).upd hsc (fun i hi hp => by rcases hi with hi | hi <;> (simp only at hi; omega))
  refine ⟨(h1.upd hu2 (fun hp => hp.2.2.1 rfl)).set 0 _, (ho.mono (fun i _ hi => hno i hi)).upd hsc (fun i _ hi e => hi.2.2 e), g2.add g3 (fun x hx => ?_), fun m hm hh => ?_, by rw [List.length_append, List.length_singleton, h4], fun m hm => ?_, ?_⟩
  · have hN : N ≤ x := by rcases hx with hx | hx <;> (simp only at hx; omega)
    exact ⟨by omega, fun m hm hh => by have := h10 m hm x hh; omega⟩
  · rw [getD_app] at hh
    rw [List.length_append, List.length_singleton] at hm
    by_cases e : m < M.length
    · rw [if_pos e] at hh; exact h3 m e hh
    · rw [if_neg e, if_pos (by omega)] at hh
      rcases hh with hh | hh <;> (simp only at hh; omega)
  · rw [List.length_append, List.length_singleton] at hm
    rw [getD_app]
    by_cases e : m < M.length
    · rw [if_pos e]; exact h5 m e
    · rw [if_neg e, if_pos (by omega), show m = j by omega, hx]
      exact ⟨by rw [Int.toNat_natCast], rfl⟩
  · exact UpdS.new (S := fun i => A ≤ i) h6 ((hu2.mono (fun i hi => hi.1)).trans (hsc.mono (fun i hi => by omega))) (fun i hi => by omega)
theorem infoPP : (Try.prog.info? 37).map (fun i => (i.zero, i.size, i.bytes)) = some (some (.pointer none), 1, 8) := by kernel_rfl
set_option maxRecDepth 8000 in
set_option maxHeartbeats 2000000 in
theorem cut_any (w : World) (p : Nat → Prop) (v : Value) (q : List Int) (hv : RdV (Value.int .i64) 0 p w v q) (hq : ∀ x ∈ q, (Lit.int .i64 x).wf = true) : Calls Try.prog 9 #[v] w fun e w' => CutPost w.heap.size q e w' ∧ Grow w w' := by
  obtain ⟨i0, hi, hz0, hz1, hz2⟩ := info_parts infoPP
  have hlm := hv.len
  unfold maxLen at hlm
  obtain ⟨a, c, rfl⟩ := hv.shape
  by_cases h1 : q.length < 1
  · have HN : Hid (¬ CutOk q) := fun k => by have := k.1; omega
    clear hv hq
    go_enter Try.func9, Try.ntmps9
    go_wp2
    go_ret2
    exact ⟨.inr ⟨HN.out, rfl⟩, Grow.refl _⟩
  · by_cases h2 : 16 < q.length
    · have HN : Hid (¬ CutOk q) := fun k => by have := k.2.1; omega
      have h2' : (16 : Int) < (q.length : Int) := by omega
      clear hv hq
      go_enter Try.func9, Try.ntmps9
      go_wp2
      go_ret2
      exact ⟨.inr ⟨HN.out, rfl⟩, Grow.refl _⟩
    · obtain ⟨bb, oo, rfl, -, hcs⟩ := hv.addr (by omega)
      have HC : Hid (∀ wr, Grow w wr → ∀ j, j < q.length → wr.cell? ⟨bb, oo + j, none⟩ = some (.int .i64 (q.getD j 0))) := fun wr g j hj => by
        obtain ⟨b', o', e, -, hc⟩ := (hv.grow g).addr (by omega)
        injection e with e
        injection e with e1 e2
        subst e1 e2
        exact hc j hj
      have HQ : Hid (∀ j, j < q.length → -9223372036854775808 ≤ q.getD j 0 ∧ q.getD j 0 ≤ 9223372036854775807) := fun j hj => by
        have := bounds_i64 (hq _ (getD_in (d := 0) hj))
        omega
      obtain ⟨A, hA⟩ : ∃ A, w.heap.size = A := ⟨_, rfl⟩
      have H0 : Hid (CutAt A A q w (w.alloc (.cells #[.slice none 0 0] 63)) 0 (.slice none 0 0) []) := by
        refine ⟨?_, OwnV.nil _ _ _ _ _, RowP.nil _ _, fun i hi => absurd hi (Nat.not_lt_zero _), rfl, fun i hi => absurd hi (Nat.not_lt_zero _), (Grow.refl w).alloc _⟩
        rw [← hA]
        exact VarAt.new w [.slice none 0 0] 63
      have h1' : ¬ (q.length : Int) < 1 := by omega
      have h2' : ¬ (16 : Int) < (q.length : Int) := by omega
      have HL : Hid (1 ≤ q.length ∧ q.length ≤ 16) := by show _ ∧ _; omega
      clear hv hq hcs
      go_enter Try.func9, Try.ntmps9
      go_wp2
      go_loopg [5, 22] q.length (fun m lf iv wr => ∃ (j : Nat) (v : Value) (M : List PS), m = q.length - j ∧ j ≤ q.length ∧ iv = .int .i64 j ∧ lf = .int .i64 (64 - sm q j) ∧ Hid (CutAt A A q w wr j v M ∧ (∀ i, i < j → 1 ≤ q.getD i 0 ∧ q.getD i 0 ≤ 64) ∧ 0 ≤ sm q j ∧ sm q j ≤ 64))
      case atStart => exact ⟨0, _, _, rfl, by omega, rfl, by rw [sm_zero]; go_num, H0.out, fun i hi => absurd hi (Nat.not_lt_zero _), by show 0 ≤ sm q 0; rw [sm_zero]; omega, by rw [sm_zero]; omega⟩
      case round =>
        clear H0
        obtain ⟨j, v, M, hj, hj2, rfl, rfl, HW⟩ := hrel
        have HG : Hid (gk = q.length - j) := hj
        clear hj
        by_cases hlt : j < q.length
        · have hle : (j : Int) < (q.length : Int) := by omega
          have hcell := HC.out wr HW.out.1.2.2.2.2.2.2 j hlt
          have hxb := HQ.out j hlt
          have HJ : Hid (j < q.length ∧ sm q (j + 1) = sm q j + q.getD j 0) := ⟨hlt, sm_succ hlt⟩
          have HBad : Hid (¬ (1 ≤ q.getD j 0 ∧ q.getD j 0 ≤ 64) → ¬ CutOk q) := cut_bad hlt
          have HOver : Hid (64 < sm q (j + 1) → ¬ CutOk q) := cut_over hlt
          obtain ⟨y, hy⟩ : ∃ y, sm q j = y := ⟨_, rfl⟩
          have hyb : 0 ≤ y ∧ y ≤ 64 := by rw [← hy]; exact HW.out.2.2
          have HY : Hid (sm q j = y) := hy
          rw [hy]
          obtain ⟨x, hx⟩ : ∃ x, q.getD j 0 = x := ⟨_, rfl⟩
          rw [hx] at hcell hxb
          have HX : Hid (q.getD j 0 = x) := hx
          clear hx hy
          by_cases hok : 1 ≤ x ∧ x ≤ 64
          · obtain ⟨n, rfl⟩ : ∃ n : Nat, x = n := ⟨x.toNat, by omega⟩
            have hnw := new_yes n wr (by omega) (by omega)
            by_cases hin : 64 - y < (n : Int)
            · have HN : Hid (¬ CutOk q) := HOver.out (by rw [HJ.out.2, HY.out, HX.out]; omega)
              clear hok hxb hyb
              go_wp2_with fail
              refine hnw.mono ?_
              rintro e w1 ⟨rfl, -, g1⟩
              have HR : Hid (Grow w w1) := HW.out.1.2.2.2.2.2.2.trans g1
              clear g1 hnw hcell
              go_wp2
              go_ret2
              exact ⟨.inr ⟨HN.out, rfl⟩, HR.out⟩
            · have hw0 : IntKind.i64.wrap ((j : Int) + 1) = ((j + 1 : Nat) : Int) := by rw [IntKind.wrap_i64]; omega
              have hw1 : IntKind.i64.wrap (64 - y - (n : Int)) = 64 - y - (n : Int) := by rw [IntKind.wrap_i64]; omega
              have HS : Hid (64 - y - (n : Int) = 64 - sm q (j + 1) ∧ 0 ≤ sm q (j + 1) ∧ sm q (j + 1) ≤ 64 ∧ 1 ≤ n ∧ n ≤ 64) := by
                show _ ∧ _
                rw [HJ.out.2, HY.out, HX.out]
                exact ⟨by omega, by omega, by omega, by omega, by omega⟩
              have hj3 : j ≤ 16 := by have := HL.out.2; omega
              clear hok hxb hyb
              go_wp2_with fail
              refine hnw.mono ?_
              rintro e w1 ⟨rfl, k1, g1⟩
              obtain ⟨N, hN⟩ : ∃ N, wr.heap.size = N := ⟨_, rfl⟩
              rw [hN] at k1
              rw [hN]
              obtain ⟨f1, f2, f3, f4, f5, f6, f7⟩ := HW.out.1
              have f2' := (f2.mono (q := fun i => A ≤ i ∧ NoP M i ∧ i ≠ A ∧ i < N) (fun i hi hp => ⟨hp.1, hp.2.1, hp.2.2, by omega⟩)).grow g1
              have HV : Hid (VarAt w1 A [v] ∧ RowP A w1 M ∧ NoP M A ∧ M.length = j ∧ NewM q M ∧ Grow w w1 ∧ A < N ∧ PS.There w1 ⟨N + 1, N, List.replicate n FS.empty, 0⟩ ∧ N + 2 ≤ w1.heap.size ∧ ∀ m, m < M.length → ∀ x, (M.getD m PS.zero).has x → x < N) := by
                have hAl := f1.lt
                exact ⟨f1.grow g1, f3.grow g1, f4, f5, f6, f7.trans g1, by omega, ⟨k1, repl_ok (by have := HS.out; omega) (by have := HS.out; omega)⟩, by have := k1.lt; omega, fun m hm x hx => by have := (f3.1 m hm).lt hx; omega⟩
              obtain ⟨av, cv, hsh⟩ := f2'.shape
              have c0 := (HV.out.1.2 0 (by simp)).1
              rw [hsh] at c0 f2'
              simp only [Nat.zero_add, List.getElem?_cons_zero] at c0
              have hml : M.length ≤ 16 := by omega
              have ho := f2'.grow ((Grow.refl w1).alloc (.cells #[PS.v ⟨N + 1, N, List.replicate n FS.empty, 0⟩] 37))
              have hAs : A < w1.heap.size := HV.out.1.lt
              have HSH : Hid (v = .slice av M.length cv) := hsh
              clear f1 f2 f3 f4 f5 f6 f7 f2' k1 g1 hN hsh hnw hcell
              go_wp2_with (at_builtin; refine wpList_appV (f := PS.v) (d := PS.zero) rfl (.tmp 42) (.tmp 44) 61 61 rfl i0 (.pointer none) 8 Try.underlying61 hi hz0 hz1 hz2 rfl rfl rfl ho (Src.oneV (w := w1) Try.underlying61 PS.v ⟨N + 1, N, List.replicate n FS.empty, 0⟩ (PS.v_one _) 37) (by simp only [maxLen, List.length_singleton]; omega) (by simp only [List.length_singleton]; omega) ?_)
              intro v' w' ho' hu'
              obtain ⟨a', c', hv'⟩ := ho'.shape
              generalize (M ++ [(⟨N + 1, N, List.replicate n FS.empty, 0⟩ : PS)]).length = n' at hv'
              subst hv'
              have hu2 : UpdS (fun i => A ≤ i ∧ NoP M i ∧ i ≠ A ∧ i < N) w1 w' := ((Grow.refl w1).alloc _).s.trans hu'
              have hv2 := HV.out.1.upd hu2 (fun h => h.2.2.1 rfl)
              obtain ⟨c0', f0'⟩ := hv2.2 0 (by simp)
              simp only [Nat.zero_add, List.getElem?_cons_zero] at c0' f0'
              rw [HSH.out] at c0'
              have HF : Hid (CutAt A A q w (w'.setCell ⟨A, 0, none⟩ (.slice a' n' c')) (j + 1) (.slice a' n' c') (M ++ [⟨N + 1, N, List.replicate n FS.empty, 0⟩])) := cut_next HV.out hA hu2 ho' HX.out (by omega)
              have HI : Hid ((∀ i, i < j + 1 → 1 ≤ q.getD i 0 ∧ q.getD i 0 ≤ 64) ∧ 0 ≤ sm q (j + 1) ∧ sm q (j + 1) ≤ 64) := by
                refine ⟨fun i hi => ?_, HS.out.2.1, HS.out.2.2.1⟩
                by_cases e : i = j
                · subst e; rw [HX.out]; have := HS.out; omega
                · exact HW.out.2.1 i (by omega)
              clear ho' hu' hu2 hv2 c0 ho
              go_wp2
              go_roundg (q.length - (j + 1))
              case measure => have := HG.out; omega
              case rel => exact ⟨j + 1, _, _, rfl, by omega, by go_num, by rw [HS.out.1], HF.out, HI.out⟩
          · have HN : Hid (¬ CutOk q) := HBad.out (by rw [HX.out]; exact hok)
            have hnw := new_no x wr hok
            clear hok
            go_wp2_with fail
            refine hnw.mono ?_
            rintro e w1 ⟨rfl, rfl⟩
            clear hnw
            go_wp2
            go_ret2
            exact ⟨.inr ⟨HN.out, rfl⟩, HW.out.1.2.2.2.2.2.2⟩
        · have hge : ¬ (j : Int) < (q.length : Int) := by omega
          have HE : Hid (CutPost A q (.returned (.tuple #[.pointer (some ⟨A, 0, none⟩), .int .i64 0])) wr ∧ Grow w wr) := by
            obtain ⟨⟨f1, f2, f3, f4, f5, f6, f7⟩, g1, g2⟩ := HW.out
            have hjq : j = q.length := by omega
            subst hjq
            have hl := HL.out
            refine ⟨.inl ⟨⟨hl.1, hl.2, g1, g2.2⟩, A, M, rfl, ⟨v, f1, f2.rd.mono (fun i _ hi => ⟨hi.1, hi.2.1⟩), Nat.le_refl _, f4, f3, by omega, by omega⟩, f5, f6⟩, f7⟩
          generalize 64 - sm q j = y
          clear hlt HW
          go_wp2
          go_ret2
          exact HE.out
end Go.Proofs.Ytgpigllimoafaaa
