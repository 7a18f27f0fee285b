/-
  The walk of ArenaOwners. Conditions: the theorem's own.
-/
import Derived.Test.YtgpigllimoafaaaAreL
import Derived.Deep.LoopGhost
namespace Go.Proofs.Ytgpigllimoafaaa
open Go.RowKit
set_option linter.unusedVariables false
set_option linter.unusedSimpArgs false

/-- the program's answer and the document's are one -/
theorem of_agree {q : List Int} (hq : CutOk q) {n i k : Int} {is : Bool} {e : Ending} (h : OfIs q n i k is) (hd : QOfTold q n e) :
    (is = true ∧ ∃ m : Nat, i = m ∧ k = n - sm q m ∧ e = .returned (.tuple #[.int .i64 m, .int .i64 (n - sm q m)])) ∨ (is = false ∧ i = 0 ∧ k = 0 ∧ e = .returned (.tuple #[.int .i64 (-1), .int .i64 (-1)])) := by
  rcases hd with ⟨m, h1, e1, a1, a2⟩ | ⟨e1, h1⟩
  · obtain ⟨b1, b2, b3⟩ := h.yes hq.low h1 a1 a2
    exact .inl ⟨b3, m, b1, b2, e1⟩
  · rcases h with ⟨-, m, h2, -, -, b1, b2⟩ | ⟨b1, b2, b3, -⟩
    · have x1 := sm_mono hq.low (m := 0) (n := m) (by omega) (by omega)
      have x2 := sm_mono hq.low (m := m + 1) (n := q.length) (by omega) (Nat.le_refl _)
      rw [sm_zero] at x1
      omega
    · exact .inr ⟨b1, b2, b3, e1⟩

set_option maxRecDepth 8000 in
set_option maxHeartbeats 4000000 in
theorem arenaOwners_walk (n : Int) (v : Value) (p : Nat → Prop) (zs : List Int) (w : World) (hv : RdV (Value.int .i64) 0 p w v zs) (hz : ∀ x ∈ zs, (Lit.int .i64 x).wf = true) (hn : (Lit.int .i64 n).wf = true) : Calls Try.prog 4 #[v, .int .i64 n] w fun e w' => e = .returned (.bool true) ∧ Grow w w' := by
  have hgd := agood_any w p v zs hv hz
  have hQ : CutOk (quoL zs) := quoL_ok zs
  obtain ⟨T, hT⟩ : ∃ T : Nat, sm (quoL zs) (quoL zs).length = T := ⟨(sm (quoL zs) (quoL zs).length).toNat, by have := quoL_sum zs; omega⟩
  have hTb : T ≤ 12 := by have := quoL_sum zs; omega
  have hqwf : ∀ x ∈ quoL zs, (Lit.int .i64 x).wf = true := fun x hx => wfI (by have := quoL_each zs x hx; omega)
  have hql : (quoL zs).length ≤ 4 := (quoL_len zs).2
  have hqpos : ∀ i, i < (quoL zs).length → 1 ≤ (quoL zs).getD i 0 ∧ (quoL zs).getD i 0 ≤ 3 := fun i hi => quoL_at zs hi
  generalize quoL zs = q at hgd hQ hT hqwf hql hqpos
  have HQ : Hid (CutOk q) := hQ
  have HT : Hid (sm q q.length = T) := hT
  have HP : Hid (∀ i, i < q.length → 1 ≤ q.getD i 0 ∧ q.getD i 0 ≤ 3) := hqpos
  clear hQ hT hv hz hqpos
  go_enter Try.func4, Try.ntmps4
  go_wp2_with fail
  refine hgd.mono ?_
  rintro e w1 ⟨v1, rfl, ho, g1⟩
  have hc := cut_any w1 _ v1 q ho.rd hqwf
  clear hgd hqwf
  go_wp2_with fail
  refine hc.mono ?_
  rintro e w2 ⟨hp, g2⟩
  clear hc
  rcases hp with ⟨-, A, M, rfl, kA, hl, hnw⟩ | ⟨hno, -⟩
  · have hmap := hnw.map hl (fun i hi => (HP.out i hi).1)
    have hfr := frames_any _ w2 A M kA
    rw [hmap, hl, HT.out] at hfr
    obtain ⟨a1, c1, rfl⟩ := ho.shape
    obtain ⟨bq, oq, rfl, -, -⟩ := ho.rd.addr HQ.out.1
    have HA : Hid (ArAt w1.heap.size w2 A M ∧ M.map PS.len = q ∧ M.length = q.length ∧ RdV (Value.int .i64) 0 (fun i => w.heap.size ≤ i) w2 (.slice (some ⟨bq, oq, none⟩) q.length c1) q ∧ Grow w w2) := ⟨kA, hmap, hl, ho.rd.grow g2, g1.trans g2⟩
    clear kA hl hnw hmap ho g1 g2
    go_wp2_with fail
    refine hfr.mono ?_
    rintro e w3 ⟨rfl, g3⟩
    have HB : Hid (ArAt w1.heap.size w3 A M ∧ M.map PS.len = q ∧ M.length = q.length ∧ RdV (Value.int .i64) 0 (fun i => w.heap.size ≤ i) w3 (.slice (some ⟨bq, oq, none⟩) q.length c1) q ∧ Grow w w3) := ⟨HA.out.1.grow g3, HA.out.2.1, HA.out.2.2.1, HA.out.2.2.2.1.grow g3, HA.out.2.2.2.2.trans g3⟩
    have HOF : Hid (∀ t, (Lit.int .i64 t).wf = true → Calls Try.prog 17 #[.pointer (some ⟨A, 0, none⟩), .int .i64 t] w3 fun e w' => OfTold q t e ∧ w3 = w') := fun t ht => by
      have := of_any _ w3 A M HB.out.1 t ht
      rwa [HB.out.2.1] at this
    have HQF : Hid (∀ t, Calls Try.prog 18 #[.slice (some ⟨bq, oq, none⟩) q.length c1, .int .i64 t] w3 fun e w' => QOfTold q t e ∧ w3 = w') := fun t => qof_any w3 _ _ q HB.out.2.2.2.1 HQ.out t
    have HN : Hid ((Lit.int .i64 n).wf = true) := hn
    have hwT : IntKind.i64.wrap ((T : Int) + 1) = (T : Int) + 1 := by rw [IntKind.wrap_i64]; omega
    clear HA hfr g3 hn
    go_wp2
    go_loopg [9] (T + 3) (fun g kv wr => ∃ j : Nat, g = T + 3 - j ∧ j ≤ T + 3 ∧ kv = .int .i64 ((j : Int) - 1) ∧ wr = w3)
    case atStart => exact ⟨0, rfl, by omega, by go_num, rfl⟩
    case round =>
      obtain ⟨j, hj, hj2, rfl, hww⟩ := hrel
      subst hww
      have HG : Hid (gk = T + 3 - j) := hj
      clear hj
      by_cases hlt : j < T + 3
      · have HJ : Hid (j < T + 3) := hlt
        have hle : (j : Int) - 1 ≤ (T : Int) + 1 := by omega
        have hw0 : IntKind.i64.wrap ((j : Int) - 1 + 1) = ((j + 1 : Nat) : Int) - 1 := by rw [IntKind.wrap_i64]; omega
        by_cases hk : (T : Int) < (j : Int) - 1
        · have hof := HOF.out (n) (HN.out)
          have hqf := HQF.out (n)
          go_wp2_with fail
          refine hof.mono ?_
          rintro e w2 ⟨⟨i, y, is, rfl, ho⟩, rfl⟩
          clear hof
          go_wp2_with fail
          refine hqf.mono ?_
          rintro e w2 ⟨hd, rfl⟩
          clear hqf
          rcases of_agree HQ.out ho hd with ⟨rfl, m, rfl, rfl, rfl⟩ | ⟨rfl, rfl, rfl, rfl⟩
          · have hm0 : (0 : Int) ≤ (m : Int) := by omega
            clear ho hd
            generalize (n) - sm q m = y2
            go_wp2
            go_roundg (T + 3 - (j + 1))
            case measure => have := HG.out; have := HJ.out; omega
            case rel => exact ⟨j + 1, rfl, by have := HJ.out; omega, by go_num, rfl⟩
          · clear ho hd
            go_wp2
            go_roundg (T + 3 - (j + 1))
            case measure => have := HG.out; have := HJ.out; omega
            case rel => exact ⟨j + 1, rfl, by have := HJ.out; omega, by go_num, rfl⟩
        · have hwf : (Lit.int .i64 ((j : Int) - 1)).wf = true := wfI (by omega)
          have hof := HOF.out ((j : Int) - 1) (hwf)
          have hqf := HQF.out ((j : Int) - 1)
          go_wp2_with fail
          refine hof.mono ?_
          rintro e w2 ⟨⟨i, y, is, rfl, ho⟩, rfl⟩
          clear hof
          go_wp2_with fail
          refine hqf.mono ?_
          rintro e w2 ⟨hd, rfl⟩
          clear hqf
          rcases of_agree HQ.out ho hd with ⟨rfl, m, rfl, rfl, rfl⟩ | ⟨rfl, rfl, rfl, rfl⟩
          · have hm0 : (0 : Int) ≤ (m : Int) := by omega
            clear ho hd
            generalize ((j : Int) - 1) - sm q m = y2
            go_wp2
            go_roundg (T + 3 - (j + 1))
            case measure => have := HG.out; have := HJ.out; omega
            case rel => exact ⟨j + 1, rfl, by have := HJ.out; omega, by go_num, rfl⟩
          · clear ho hd
            go_wp2
            go_roundg (T + 3 - (j + 1))
            case measure => have := HG.out; have := HJ.out; omega
            case rel => exact ⟨j + 1, rfl, by have := HJ.out; omega, by go_num, rfl⟩
      · have hge : ¬ (j : Int) - 1 ≤ (T : Int) + 1 := by omega
        clear hlt hj2 HG HOF HQF
        obtain ⟨W9, rfl⟩ : ∃ W9, W9 = wr := ⟨_, rfl⟩
        go_wp2
        go_loopg [16] q.length (fun g iv wr => ∃ i : Nat, g = q.length - i ∧ i ≤ q.length ∧ iv = .int .i64 i ∧ Hid (Grow W9 wr))
        case atStart => exact ⟨0, rfl, by omega, rfl, Grow.refl _⟩
        case round =>
          obtain ⟨i, hi, hi2, rfl, HW⟩ := hrel
          have HG : Hid (gk = q.length - i) := hi
          clear hi
          by_cases hli : i < q.length
          · have hle : (i : Int) < (q.length : Int) := by omega
            have HI : Hid (i < q.length) := hli
            have hw0 : IntKind.i64.wrap ((i : Int) + 1) = ((i + 1 : Nat) : Int) := by rw [IntKind.wrap_i64]; omega
            have kA := HB.out.1.grow HW.out
            have hiM : i < M.length := by rw [HB.out.2.2.1]; exact hli
            have hpt := part_yes _ wr A M kA i hiM
            have hst := start_yes _ wr A M kA i hiM
            rw [HB.out.2.1] at hst
            have HTH : Hid (PS.There wr (M.getD i PS.zero) ∧ (M.getD i PS.zero).len = q.getD i 0) := by
              refine ⟨kA.row.1 i hiM, ?_⟩
              rw [← getD_map0 hiM, HB.out.2.1]
            obtain ⟨s, hs⟩ : ∃ s, M.getD i PS.zero = s := ⟨_, rfl⟩
            rw [hs] at hpt HTH
            clear hs kA hiM hli
            go_wp2_with fail
            refine hpt.mono ?_
            rintro e w4 ⟨rfl, rfl⟩
            clear hpt
            go_wp2_with fail
            refine hst.mono ?_
            rintro e w4 ⟨rfl, g4⟩
            have HW4 : Hid (Grow W9 w4) := HW.out.trans g4
            have hqs := qstart_any w4 _ _ q (HB.out.2.2.2.1.grow HW4.out) HQ.out i HI.out
            have hth : PS.There w4 s := HTH.out.1.grow g4
            clear hst g4
            go_wp2_with fail
            refine hqs.mono ?_
            rintro e w5 ⟨rfl, rfl⟩
            clear hqs
            have hln := len_any w4.drew s.P s.b 0 s.L s.h (hth.1.grow ((Grow.refl w4).drew))
            have hlq : (s.L.length : Int) = q.getD i 0 := HTH.out.2
            have kx : ∀ w', Grow w4.drew w' → w'.cell? ⟨bq, oq + i, none⟩ = some (.int .i64 (q.getD i 0)) := fun w' g => by
              obtain ⟨b, o, e, -, hcs⟩ := (HB.out.2.2.2.1.grow ((HW4.out.drew).trans g)).addr (Nat.lt_of_le_of_lt (Nat.zero_le _) HI.out)
              injection e with e
              injection e with e1 e2
              subst e1 e2
              exact hcs i HI.out
            rw [hlq] at hln
            have HX : Hid (Grow W9 w4.drew) := HW4.out.drew
            generalize q.getD i 0 = x at hln kx
            generalize sm q i = y
            have hiN : i < q.length := HI.out
            generalize s.P = P at hln ⊢
            clear hth hlq HTH HW4
            go_wp2
            refine wp_region_sched (by kernel_rfl) [(0, false), (2, false), (3, false), (4, false), (5, false), (1, true), (6, false)] (by kernel_rfl) (by kernel_rfl) rfl (fun _ _ d _ _ h => by cases d <;> exact h) ?_
            simp only [inOrder, List.filterMap_cons, List.filterMap_nil, List.getElem?_toArray, List.getElem?_cons_zero, List.getElem?_cons_succ, Option.map_some]
            repeat (first
              | (refine wpS_move rfl ?_; simp only [Act.eval, Act.put, Array.getD_eq_getD_getElem?, List.getElem?_toArray, List.getElem?_cons_zero, List.getElem?_cons_succ, Option.getD_some, List.setIfInBounds_toArray, List.set_cons_zero, List.set_cons_succ])
              | (refine wpS_assign rfl ?_; simp only [Act.eval, Act.put, Array.getD_eq_getD_getElem?, List.getElem?_toArray, List.getElem?_cons_zero, List.getElem?_cons_succ, Option.getD_some, List.setIfInBounds_toArray, List.set_cons_zero, List.set_cons_succ])
              | (refine wpS_read (v := ?_) rfl ?_ ?_; rotate_left; (focus (intro w' hG; have k0 := kx w' hG; go_simp; try (with_reducible rfl))); simp only [Act.put, List.setIfInBounds_toArray, List.set_cons_zero, List.set_cons_succ])
              | (refine wpS_skip rfl ?_; simp only [Act.put, List.setIfInBounds_toArray, List.set_cons_zero, List.set_cons_succ]))
            refine wpS_call (f := ?_) (args := ?_) (by rfl) ?_ ?_
            rotate_left 2; focus (go_simp; constructor <;> with_reducible rfl)
            refine (hln).mono ?_
            rintro e w5 ⟨rfl, rfl⟩
            refine ⟨_, rfl, Grow.refl _, ?_⟩
            simp only [Act.put, List.setIfInBounds_toArray, List.set_cons_zero, List.set_cons_succ]
            repeat (first
              | (refine wpS_move rfl ?_; simp only [Act.eval, Act.put, Array.getD_eq_getD_getElem?, List.getElem?_toArray, List.getElem?_cons_zero, List.getElem?_cons_succ, Option.getD_some, List.setIfInBounds_toArray, List.set_cons_zero, List.set_cons_succ])
              | (refine wpS_assign rfl ?_; simp only [Act.eval, Act.put, Array.getD_eq_getD_getElem?, List.getElem?_toArray, List.getElem?_cons_zero, List.getElem?_cons_succ, Option.getD_some, List.setIfInBounds_toArray, List.set_cons_zero, List.set_cons_succ])
              | (refine wpS_read (v := ?_) rfl ?_ ?_; rotate_left; (focus (intro w' hG; go_simp; try (with_reducible rfl))); simp only [Act.put, List.setIfInBounds_toArray, List.set_cons_zero, List.set_cons_succ])
              | (refine wpS_skip rfl ?_; simp only [Act.put, List.setIfInBounds_toArray, List.set_cons_zero, List.set_cons_succ]))
            refine wpS_nil ?_
            clear kx hln
            go_wp2
            go_roundg (q.length - (i + 1))
            case measure => have := HG.out; have := HI.out; omega
            case rel => exact ⟨i + 1, rfl, by have := HI.out; omega, by go_num, HX.out⟩
          · have hge : ¬ (i : Int) < (q.length : Int) := by omega
            obtain rfl : q.length = i := by omega
            have HW5 : Hid (Grow w wr) := HB.out.2.2.2.2.trans HW.out
            have kA := HB.out.1.grow HW.out
            have hlv := alives_any wr
            clear hli hi2 HG
            by_cases h0 : 0 ≤ n
            · by_cases h1 : n < (q.length : Int)
              · obtain ⟨m, rfl⟩ : ∃ m : Nat, n = m := ⟨n.toNat, by omega⟩
                have hpt := part_yes _ wr A M kA m (by rw [HB.out.2.2.1]; omega)
                clear kA
                go_wp2_with fail
                refine hpt.mono ?_
                rintro e w4 ⟨rfl, rfl⟩
                clear hpt
                go_wp2_with fail
                refine hlv.mono ?_
                rintro e w4 ⟨rfl, g4⟩
                have HW6 : Hid (Grow w w4) := HW5.out.trans g4
                clear hlv g4
                go_wp2
                go_ret
                exact ⟨rfl, HW6.out⟩
              · have hno : ¬ (0 ≤ n ∧ n < (M.length : Int)) := by rw [HB.out.2.2.1]; omega
                have hpt := part_no _ wr A M kA n hno
                have hst := start_no _ wr A M kA n hno
                clear kA hno
                go_wp2_with fail
                refine hpt.mono ?_
                rintro e w4 ⟨rfl, rfl⟩
                clear hpt
                go_wp2_with fail
                refine hst.mono ?_
                rintro e w4 ⟨rfl, g4⟩
                have HW6 : Hid (Grow w w4) := HW5.out.trans g4
                have hlv := alives_any w4
                clear hst g4
                go_wp2_with fail
                refine hlv.mono ?_
                rintro e w5 ⟨rfl, g5⟩
                have HW7 : Hid (Grow w w5) := HW6.out.trans g5
                clear hlv g5
                go_wp2
                go_ret
                exact ⟨rfl, HW7.out⟩
            · have hno : ¬ (0 ≤ n ∧ n < (M.length : Int)) := by omega
              have hpt := part_no _ wr A M kA n hno
              have hst := start_no _ wr A M kA n hno
              clear kA hno
              go_wp2_with fail
              refine hpt.mono ?_
              rintro e w4 ⟨rfl, rfl⟩
              clear hpt
              go_wp2_with fail
              refine hst.mono ?_
              rintro e w4 ⟨rfl, g4⟩
              have HW6 : Hid (Grow w w4) := HW5.out.trans g4
              have hlv := alives_any w4
              clear hst g4
              go_wp2_with fail
              refine hlv.mono ?_
              rintro e w5 ⟨rfl, g5⟩
              have HW7 : Hid (Grow w w5) := HW6.out.trans g5
              clear hlv g5
              go_wp2
              go_ret
              exact ⟨rfl, HW7.out⟩
  · exact absurd HQ.out hno
end Go.Proofs.Ytgpigllimoafaaa
