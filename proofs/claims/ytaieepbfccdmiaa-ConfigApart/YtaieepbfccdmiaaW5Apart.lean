/-
  The walk of the law ConfigApart. Conditions: the theorem's own.
-/
import Derived.Test.YtaieepbfccdmiaaCfgGood
import Derived.Test.YtaieepbfccdmiaaCfgAll
namespace Go.Proofs.Ytaieepbfccdmiaa
open Go.RowKit
set_option linter.unusedVariables false
set_option linter.unusedSimpArgs false

theorem GIn.up {w w' : World} {b o : Nat} {c : Cg} (h : GIn w b o c) (hu : Grow w w') : GIn w' b o c := by
  have hlt : b < w.heap.size := World.block_lt_of_cell? _ _ h.1
  have hs := hu.s (S := fun _ => False)
  obtain ⟨h0, h1, h2, h3⟩ := h
  refine ⟨?_, ?_, ?_, ?_⟩
  · rw [hs.cell (p := ⟨b, o, none⟩) hlt (fun f => f)]; exact h0
  · rw [hs.cell (p := ⟨b, o + 1, none⟩) hlt (fun f => f)]; exact h1
  · rw [hs.cell (p := ⟨b, o + 2, none⟩) hlt (fun f => f)]; exact h2
  · rw [hs.cell (p := ⟨b, o + 3, none⟩) hlt (fun f => f)]; exact h3
/-- of a configuration that may be -/
theorem may_facts {cf cd cse : Int} {qs : List Pt} (h : (ck cf cd cse qs).1 = 0) : qs.length ≤ 16 ∧ (∀ x ∈ qs, 0 ≤ x.g ∧ x.g ≤ 1000 ∧ 0 ≤ x.b ∧ x.b ≤ 100000) ∧ ∀ s : Int, cntH qs s ≤ 1 ∧ (0 < cntH qs s → s < cse) := by
  obtain ⟨h1, h2, h3⟩ := ck_zero h
  have hn := numF_zero h1
  have hf := pf_all h2
  refine ⟨by omega, fun x hx => ?_, fun s => ⟨?_, fun hp => cntH_end s hf hp⟩⟩
  · obtain ⟨i, hi, e⟩ := mem_getD hx
    have := ownF_zero (faultAt_zero hi (hf i hi)).1
    rw [e] at this
    exact ⟨by omega, by omega, by omega, by omega⟩
  · have := cntH_one s hf qs.length (Nat.le_refl _)
    rwa [List.take_length] at this

set_option maxHeartbeats 4000000 in
theorem configApart_walk {p : Nat → Prop} (fr dp se : Int) (v : Value) (ps : List Pt) (w : World) (h : RdP p w v ps) (hok : ∀ x ∈ ps, x.Ok) (hdp : W64 dp) (hse : W64 se) :
    Calls Try.prog 5 #[.agg #[.int .i64 fr, .int .i64 dp, .int .i64 se, v]] w fun e w' => e = .returned (.bool true) ∧ Below w.heap.size w w' := by
  have HI : Hid (VarAt (w.alloc (.cells #[.int .i64 fr, .int .i64 dp, .int .i64 se, v] 24)) w.heap.size [.int .i64 fr, .int .i64 dp, .int .i64 se, v] ∧ Grow w (w.alloc (.cells #[.int .i64 fr, .int .i64 dp, .int .i64 se, v] 24))) := ⟨VarAt.new w [.int .i64 fr, .int .i64 dp, .int .i64 se, v] _, (Grow.refl w).alloc _⟩
  have hgood := fun w' (g : Grow w w') => good_any fr dp se v ps w' (RdS.grow h g) hok hdp hse
  have hfew := fun w' (g : Grow w w') => few_any fr dp se v ps w' (RdS.grow h g)
  obtain ⟨a, cp, rfl, h1, h2, -⟩ := h
  clear hok hdp hse
  go_enter Try.func5, Try.ntmps5
  go_wp2
  generalize w.alloc (.cells #[.int .i64 fr, .int .i64 dp, .int .i64 se, .slice a ps.length cp] 24) = w1 at HI ⊢
  generalize w.heap.size = b1 at HI ⊢
  have kx : ∀ w', Grow w1.drew w' → VarAt w' b1 [.int .i64 fr, .int .i64 dp, .int .i64 se, .slice a ps.length cp] := fun w' h => HI.out.1.grow ((Grow.refl w1).drew.trans h)
  have HW : Hid (Grow w w1.drew) := HI.out.2.drew
  refine wp_region_sched (by kernel_rfl) [(0, false), (2, false), (1, true), (3, true), (4, true), (5, false)] (by kernel_rfl) (by kernel_rfl) rfl (fun _ _ d _ _ h => by cases d <;> exact h) ?_
  simp only [inOrder, List.filterMap_cons, List.filterMap_nil, List.getElem?_toArray, List.getElem?_cons_zero, List.getElem?_cons_succ, Option.map_some]
  repeat (first
    | (refine wpS_move rfl ?_; simp only [Act.eval, Act.put, Array.getD_eq_getD_getElem?, List.getElem?_toArray, List.getElem?_cons_zero, List.getElem?_cons_succ, Option.getD_some, List.setIfInBounds_toArray, List.set_cons_zero, List.set_cons_succ])
    | (refine wpS_assign rfl ?_; simp only [Act.eval, Act.put, Array.getD_eq_getD_getElem?, List.getElem?_toArray, List.getElem?_cons_zero, List.getElem?_cons_succ, Option.getD_some, List.setIfInBounds_toArray, List.set_cons_zero, List.set_cons_succ])
    | (refine wpS_read (v := ?_) rfl ?_ ?_; rotate_left; (focus (intro w' hG; obtain ⟨⟨k0, k1, k2, k3⟩, -⟩ := (kx w' hG).four; go_simp; try (with_reducible rfl))); simp only [Act.put, List.setIfInBounds_toArray, List.set_cons_zero, List.set_cons_succ])
    | (refine wpS_skip rfl ?_; simp only [Act.put, List.setIfInBounds_toArray, List.set_cons_zero, List.set_cons_succ]))
  refine wpS_call (f := ?_) (args := ?_) (by rfl) ?_ ?_
  rotate_left 2; focus (go_simp; constructor <;> with_reducible rfl)
  refine (hgood w1.drew HW.out).mono ?_
  rintro e w2 ⟨f0, d0, s0, v0, q0, rfl, hG0, R0, g2⟩
  obtain ⟨a0, c0, rfl⟩ := R0.shape
  refine ⟨_, rfl, g2, ?_⟩
  simp only [Act.put, List.setIfInBounds_toArray, List.set_cons_zero, List.set_cons_succ]
  repeat (first
    | (refine wpS_move rfl ?_; simp only [Act.eval, Act.put, Array.getD_eq_getD_getElem?, List.getElem?_toArray, List.getElem?_cons_zero, List.getElem?_cons_succ, Option.getD_some, List.setIfInBounds_toArray, List.set_cons_zero, List.set_cons_succ])
    | (refine wpS_assign rfl ?_; simp only [Act.eval, Act.put, Array.getD_eq_getD_getElem?, List.getElem?_toArray, List.getElem?_cons_zero, List.getElem?_cons_succ, Option.getD_some, List.setIfInBounds_toArray, List.set_cons_zero, List.set_cons_succ])
    | (refine wpS_read (v := ?_) rfl ?_ ?_; rotate_left; (focus (intro w' hG; skip; go_simp; try (with_reducible rfl))); simp only [Act.put, List.setIfInBounds_toArray, List.set_cons_zero, List.set_cons_succ])
    | (refine wpS_skip rfl ?_; simp only [Act.put, List.setIfInBounds_toArray, List.set_cons_zero, List.set_cons_succ]))
  refine wpS_call (f := ?_) (args := ?_) (by rfl) ?_ ?_
  rotate_left 2; focus (go_simp; constructor <;> with_reducible rfl)
  refine (hfew w2 (HW.out.trans g2)).mono ?_
  rintro e w3 ⟨v1, rfl, R1, g3⟩
  generalize ps.take 5 = q1 at R1
  obtain ⟨a1, c1, rfl⟩ := R1.shape
  refine ⟨_, rfl, g3, ?_⟩
  simp only [Act.put, List.setIfInBounds_toArray, List.set_cons_zero, List.set_cons_succ]
  repeat (first
    | (refine wpS_move rfl ?_; simp only [Act.eval, Act.put, Array.getD_eq_getD_getElem?, List.getElem?_toArray, List.getElem?_cons_zero, List.getElem?_cons_succ, Option.getD_some, List.setIfInBounds_toArray, List.set_cons_zero, List.set_cons_succ])
    | (refine wpS_assign rfl ?_; simp only [Act.eval, Act.put, Array.getD_eq_getD_getElem?, List.getElem?_toArray, List.getElem?_cons_zero, List.getElem?_cons_succ, Option.getD_some, List.setIfInBounds_toArray, List.set_cons_zero, List.set_cons_succ])
    | (refine wpS_read (v := ?_) rfl ?_ ?_; rotate_left; (focus (intro w' hG; skip; go_simp; try (with_reducible rfl))); simp only [Act.put, List.setIfInBounds_toArray, List.set_cons_zero, List.set_cons_succ])
    | (refine wpS_skip rfl ?_; simp only [Act.put, List.setIfInBounds_toArray, List.set_cons_zero, List.set_cons_succ]))
  refine wpS_act rfl (exec_cfg2 rfl rfl rfl) ((Grow.refl _).alloc _) ?_
  simp only [Act.put, List.setIfInBounds_toArray, List.set_cons_zero, List.set_cons_succ]
  have hall := rdG_new2 w3 (f0 := f0) (d0 := d0) (s0 := s0) (a0 := a0) (n0 := q0.length) (c0 := c0) (f1 := fr) (d1 := dp) (s1 := se) (a1 := a1) (n1 := q1.length) (c1 := c1)
  have HA0 : Hid (RdG (fun _ => True) (w3.alloc (.cells #[.int .i64 f0, .int .i64 d0, .int .i64 s0, .slice a0 q0.length c0, .int .i64 fr, .int .i64 dp, .int .i64 se, .slice a1 q1.length c1] 24)) (.slice (some ⟨w3.heap.size, 0, none⟩) 2 2) [(⟨f0, d0, s0, .slice a0 q0.length c0⟩ : Cg), ⟨fr, dp, se, .slice a1 q1.length c1⟩] ∧ (∀ i, i < 2 → ∃ qs, HasPs (w3.alloc (.cells #[.int .i64 f0, .int .i64 d0, .int .i64 s0, .slice a0 q0.length c0, .int .i64 fr, .int .i64 dp, .int .i64 se, .slice a1 q1.length c1] 24)) ([(⟨f0, d0, s0, .slice a0 q0.length c0⟩ : Cg), ⟨fr, dp, se, .slice a1 q1.length c1⟩].getD i Cg.zero) qs ∧ (i = 0 → (ck ([(⟨f0, d0, s0, .slice a0 q0.length c0⟩ : Cg), ⟨fr, dp, se, .slice a1 q1.length c1⟩].getD i Cg.zero).fr ([(⟨f0, d0, s0, .slice a0 q0.length c0⟩ : Cg), ⟨fr, dp, se, .slice a1 q1.length c1⟩].getD i Cg.zero).dp ([(⟨f0, d0, s0, .slice a0 q0.length c0⟩ : Cg), ⟨fr, dp, se, .slice a1 q1.length c1⟩].getD i Cg.zero).se qs).1 = 0)) ∧ Grow w (w3.alloc (.cells #[.int .i64 f0, .int .i64 d0, .int .i64 s0, .slice a0 q0.length c0, .int .i64 fr, .int .i64 dp, .int .i64 se, .slice a1 q1.length c1] 24))) := by
    refine ⟨RdS.mono hall (fun _ _ _ => trivial), fun i hi => ?_, ((HW.out.trans g2).trans g3).alloc _⟩
    have hi' : i = 0 ∨ i = 1 := by omega
    rcases hi' with rfl | rfl
    · exact ⟨q0, hasPs_of (RdS.grow R0 (g3.alloc _)), fun _ => by show (ck f0 d0 s0 q0).1 = 0; rw [hG0.okc]⟩
    · exact ⟨q1, hasPs_of (RdS.grow R1 ((Grow.refl _).alloc _)), fun h => by omega⟩
  clear hall hgood hfew kx R0 R1 hG0 g2 g3
  generalize w3.alloc (.cells #[.int .i64 f0, .int .i64 d0, .int .i64 s0, .slice a0 q0.length c0, .int .i64 fr, .int .i64 dp, .int .i64 se, .slice a1 q1.length c1] 24) = w4 at HA0 ⊢
  generalize hgs : [(⟨f0, d0, s0, .slice a0 q0.length c0⟩ : Cg), ⟨fr, dp, se, .slice a1 q1.length c1⟩] = gs at HA0
  have HLn : Hid (gs.length = 2) := by rw [← hgs]; exact rfl
  clear hgs
  generalize w3.heap.size = b8 at HA0 ⊢
  repeat (first
    | (refine wpS_move rfl ?_; simp only [Act.eval, Act.put, Array.getD_eq_getD_getElem?, List.getElem?_toArray, List.getElem?_cons_zero, List.getElem?_cons_succ, Option.getD_some, List.setIfInBounds_toArray, List.set_cons_zero, List.set_cons_succ])
    | (refine wpS_assign rfl ?_; simp only [Act.eval, Act.put, Array.getD_eq_getD_getElem?, List.getElem?_toArray, List.getElem?_cons_zero, List.getElem?_cons_succ, Option.getD_some, List.setIfInBounds_toArray, List.set_cons_zero, List.set_cons_succ])
    | (refine wpS_read (v := ?_) rfl ?_ ?_; rotate_left; (focus (intro w' hG; skip; go_simp; try (with_reducible rfl))); simp only [Act.put, List.setIfInBounds_toArray, List.set_cons_zero, List.set_cons_succ])
    | (refine wpS_skip rfl ?_; simp only [Act.put, List.setIfInBounds_toArray, List.set_cons_zero, List.set_cons_succ]))
  refine wpS_nil ?_
  go_wp2
  go_loopg [4] 2 (fun m iv wr => ∃ i : Nat, m = 2 - i ∧ i ≤ 2 ∧ iv = .int .i64 i ∧ Hid (RdG (fun _ => True) wr (.slice (some ⟨b8, 0, none⟩) 2 2) gs ∧ (∀ i, i < 2 → ∃ qs, HasPs wr (gs.getD i Cg.zero) qs ∧ (i = 0 → (ck (gs.getD i Cg.zero).fr (gs.getD i Cg.zero).dp (gs.getD i Cg.zero).se qs).1 = 0)) ∧ Grow w wr))
  case atStart => exact ⟨0, by omega, by omega, rfl, HA0.out.1, HA0.out.2.1, HA0.out.2.2⟩
  case round =>
    clear HA0
    obtain ⟨i, hk, hi2, rfl, Z⟩ := hrel
    by_cases hlt : i < 2
    · have hle : (i : Int) < 2 := by omega
      have HL : Hid (i < 2 ∧ gk = 2 - i) := ⟨hlt, hk⟩
      have hw1 : IntKind.i64.wrap ((i : Int) + 1) = (i : Int) + 1 := by rw [IntKind.wrap_i64]; omega
      have hig : i < gs.length := by have := HLn.out; omega
      obtain ⟨bb, oo, hal, _, _, hin⟩ := rdG_at Z.out.1 hig
      injection hal with hal
      injection hal with e1 e2
      subst e1 e2
      rw [Nat.zero_add] at hin
      obtain ⟨qs, hqs, hck⟩ := Z.out.2.1 i hlt
      generalize gs.getD i Cg.zero = c at hin hqs hck
      obtain ⟨cf, cd, cse, cv⟩ := c
      have HV : Hid (HasPs wr ⟨cf, cd, cse, cv⟩ qs) := hqs
      obtain ⟨ca, cc, hcv⟩ := RdS.shape hqs
      have hcv' : cv = .slice ca qs.length cc := hcv
      subst hcv'
      have HIN : Hid (GIn wr b8 (i * 4) ⟨cf, cd, cse, .slice ca qs.length cc⟩) := hin
      have HCK : Hid (i = 0 → (ck cf cd cse qs).1 = 0) := hck
      have hm := fun w' (g : Grow wr w') => may_any cf cd cse _ qs w' (HV.out.grow g)
      simp only at hm
      clear hin hqs hcv hk hi2 hlt hig hck
      obtain ⟨x0, x1, x2, x3⟩ := HIN.out
      simp only at x0 x1 x2 x3
      have O1 : Hid (GIn wr b8 (i * 4) ⟨cf, cd, cse, .slice ca qs.length cc⟩ ∧ HasPs wr ⟨cf, cd, cse, .slice ca qs.length cc⟩ qs ∧ RdG (fun _ => True) wr (.slice (some ⟨b8, 0, none⟩) 2 2) gs ∧ (∀ i, i < 2 → ∃ qs, HasPs wr (gs.getD i Cg.zero) qs ∧ (i = 0 → (ck (gs.getD i Cg.zero).fr (gs.getD i Cg.zero).dp (gs.getD i Cg.zero).se qs).1 = 0)) ∧ Grow w wr) := ⟨HIN.out, HV.out, Z.out.1, Z.out.2.1, Z.out.2.2⟩
      have OG : Hid (∀ u u', (GIn u b8 (i * 4) ⟨cf, cd, cse, .slice ca qs.length cc⟩ ∧ HasPs u ⟨cf, cd, cse, .slice ca qs.length cc⟩ qs ∧ RdG (fun _ => True) u (.slice (some ⟨b8, 0, none⟩) 2 2) gs ∧ (∀ i, i < 2 → ∃ qs, HasPs u (gs.getD i Cg.zero) qs ∧ (i = 0 → (ck (gs.getD i Cg.zero).fr (gs.getD i Cg.zero).dp (gs.getD i Cg.zero).se qs).1 = 0)) ∧ Grow w u) → Grow u u' → GIn u' b8 (i * 4) ⟨cf, cd, cse, .slice ca qs.length cc⟩ ∧ HasPs u' ⟨cf, cd, cse, .slice ca qs.length cc⟩ qs ∧ RdG (fun _ => True) u' (.slice (some ⟨b8, 0, none⟩) 2 2) gs ∧ (∀ i, i < 2 → ∃ qs, HasPs u' (gs.getD i Cg.zero) qs ∧ (i = 0 → (ck (gs.getD i Cg.zero).fr (gs.getD i Cg.zero).dp (gs.getD i Cg.zero).se qs).1 = 0)) ∧ Grow w u') := fun u u' o g =>
        ⟨o.1.up g, o.2.1.grow g, RdS.grow o.2.2.1 g, fun i hi => by obtain ⟨q, hq, hc⟩ := o.2.2.2.1 i hi; exact ⟨q, hq.grow g, hc⟩, o.2.2.2.2.trans g⟩
      clear Z
      by_cases hz : (ck cf cd cse qs).1 = 0
      · have ht : decide ((ck cf cd cse qs).1 = 0) = true := by simp [hz]
        rw [ht] at hm
        have HM : Hid (qs.length ≤ 16 ∧ (∀ x ∈ qs, 0 ≤ x.g ∧ x.g ≤ 1000 ∧ 0 ≤ x.b ∧ x.b ≤ 100000) ∧ ∀ s : Int, cntH qs s ≤ 1 ∧ (0 < cntH qs s → s < cse)) := may_facts hz
        clear hz ht
        go_wp2_with fail
        refine (hm _ (Grow.refl _)).mono ?_
        rintro e w5 ⟨rfl, g5⟩
        clear x0 x1 x2 x3 hm
        have S0 : Hid (GIn w5 b8 (i * 4) ⟨cf, cd, cse, .slice ca qs.length cc⟩ ∧ HasPs w5 ⟨cf, cd, cse, .slice ca qs.length cc⟩ qs ∧ RdG (fun _ => True) w5 (.slice (some ⟨b8, 0, none⟩) 2 2) gs ∧ (∀ i, i < 2 → ∃ qs, HasPs w5 (gs.getD i Cg.zero) qs ∧ (i = 0 → (ck (gs.getD i Cg.zero).fr (gs.getD i Cg.zero).dp (gs.getD i Cg.zero).se qs).1 = 0)) ∧ Grow w w5) := OG.out _ _ O1.out g5
        clear g5 O1 HIN HV
        go_wp2
        go_loopg [5] 1100 (fun m sv u => ∃ s : Nat, m = 1100 - s ∧ s ≤ 1100 ∧ sv = .int .i64 s ∧ Hid (GIn u b8 (i * 4) ⟨cf, cd, cse, .slice ca qs.length cc⟩ ∧ HasPs u ⟨cf, cd, cse, .slice ca qs.length cc⟩ qs ∧ RdG (fun _ => True) u (.slice (some ⟨b8, 0, none⟩) 2 2) gs ∧ (∀ i, i < 2 → ∃ qs, HasPs u (gs.getD i Cg.zero) qs ∧ (i = 0 → (ck (gs.getD i Cg.zero).fr (gs.getD i Cg.zero).dp (gs.getD i Cg.zero).se qs).1 = 0)) ∧ Grow w u))
        case atStart => exact ⟨0, by omega, by omega, rfl, S0⟩
        case round =>
          clear S0
          obtain ⟨s, hk, hs2, rfl, S1⟩ := hrel
          by_cases hst : s < 1100
          · have hle2 : (s : Int) < 1100 := by omega
            have HS : Hid (s < 1100 ∧ gk = 1100 - s) := ⟨hst, hk⟩
            have hw2 : IntKind.i64.wrap ((s : Int) + 1) = (s : Int) + 1 := by rw [IntKind.wrap_i64]; omega
            clear hk hs2 hst
            go_wp2
            go_loopg [6, 7] qs.length (fun m nv kv u => ∃ (k n : Nat), m = qs.length - k ∧ k ≤ qs.length ∧ n ≤ k ∧ nv = .int .i64 n ∧ kv = .int .i64 k ∧ Hid ((GIn u b8 (i * 4) ⟨cf, cd, cse, .slice ca qs.length cc⟩ ∧ HasPs u ⟨cf, cd, cse, .slice ca qs.length cc⟩ qs ∧ RdG (fun _ => True) u (.slice (some ⟨b8, 0, none⟩) 2 2) gs ∧ (∀ i, i < 2 → ∃ qs, HasPs u (gs.getD i Cg.zero) qs ∧ (i = 0 → (ck (gs.getD i Cg.zero).fr (gs.getD i Cg.zero).dp (gs.getD i Cg.zero).se qs).1 = 0)) ∧ Grow w u) ∧ n = cntH (qs.take k) s))
            case atStart => exact ⟨0, 0, by omega, by omega, by omega, rfl, rfl, S1.out, by simp [cntH]⟩
            case round =>
              clear S1
              obtain ⟨k, n, hk, hkl, hnk, rfl, rfl, K1⟩ := hrel
              obtain ⟨x0, x1, x2, x3⟩ := K1.out.1.1
              simp only at x0 x1 x2 x3
              by_cases hlt : k < qs.length
              · have hle3 : (k : Int) < (qs.length : Int) := by omega
                have HKK : Hid (k < qs.length ∧ gk = qs.length - k ∧ n ≤ k) := ⟨hlt, hk, hnk⟩
                have hq16 := HM.out.1
                have hw3 : IntKind.i64.wrap ((k : Int) + 1) = (k : Int) + 1 := by rw [IntKind.wrap_i64]; omega
                have hw4 : IntKind.i64.wrap ((n : Int) + 1) = (n : Int) + 1 := by rw [IntKind.wrap_i64]; omega
                obtain ⟨bq, oq, haq, _, _, hinq⟩ := rdP_at K1.out.1.2.1 hlt
                subst haq
                have hdi := HM.out.2.1 _ (getD_mem hlt)
                have HNX := cntH_next qs s k hlt
                rw [← K1.out.2] at HNX
                have hh := fun w' => has_any (qs.getD k Pt.zero) s w' hdi.1 hdi.2.1 hdi.2.2.1 hdi.2.2.2
                obtain ⟨k0, k1, k2⟩ := hinq
                generalize qs.getD k Pt.zero = d at k0 k1 k2 hh HNX
                clear hdi hk hkl hnk hlt
                cases ht : hasB d s with
                | true =>
                  rw [ht] at hh
                  have HN : Hid (n + 1 = cntH (qs.take (k + 1)) s) := by rw [HNX, ht]; exact rfl
                  clear HNX ht
                  go_wp2_with fail
                  refine (hh _).mono ?_
                  rintro e w6 ⟨rfl, g6⟩
                  go_wp2
                  go_roundg (qs.length - (k + 1))
                  case measure => have := HKK.out; omega
                  case rel => exact ⟨k + 1, n + 1, rfl, HKK.out.1, by have := HKK.out; omega, by go_num, by go_num, OG.out _ _ K1.out.1 g6, HN.out⟩
                | false =>
                  rw [ht] at hh
                  have HN : Hid (n = cntH (qs.take (k + 1)) s) := by rw [HNX, ht]; exact rfl
                  clear HNX ht
                  go_wp2_with fail
                  refine (hh _).mono ?_
                  rintro e w6 ⟨rfl, g6⟩
                  go_wp2
                  go_roundg (qs.length - (k + 1))
                  case measure => have := HKK.out; omega
                  case rel => exact ⟨k + 1, n, rfl, HKK.out.1, by have := HKK.out; omega, rfl, by go_num, OG.out _ _ K1.out.1 g6, HN.out⟩
              · have hle3 : ¬ (k : Int) < (qs.length : Int) := by omega
                have hke : k = qs.length := by omega
                have hn : n = cntH qs s := by have := K1.out.2; rw [hke, List.take_length] at this; exact this
                have hc := HM.out.2.2 (s : Int)
                rw [← hn] at hc
                have K2 : Hid (GIn wr b8 (i * 4) ⟨cf, cd, cse, .slice ca qs.length cc⟩ ∧ HasPs wr ⟨cf, cd, cse, .slice ca qs.length cc⟩ qs ∧ RdG (fun _ => True) wr (.slice (some ⟨b8, 0, none⟩) 2 2) gs ∧ (∀ i, i < 2 → ∃ qs, HasPs wr (gs.getD i Cg.zero) qs ∧ (i = 0 → (ck (gs.getD i Cg.zero).fr (gs.getD i Cg.zero).dp (gs.getD i Cg.zero).se qs).1 = 0)) ∧ Grow w wr) := K1.out.1
                by_cases h0 : n = 0
                · clear hc hn K1
                  subst h0
                  clear hk hkl hnk hlt hke
                  go_wp2
                  go_roundg (1100 - (s + 1))
                  case measure => have := HS.out; omega
                  case rel => exact ⟨s + 1, rfl, HS.out.1, by go_num, K2.out⟩
                · have h1 : n = 1 := by omega
                  have h3 : ¬ cse ≤ (s : Int) := by have := hc.2 (by omega); omega
                  clear hc hn K1
                  subst h1
                  clear hk hkl hnk hlt hke h0
                  go_wp2
                  go_roundg (1100 - (s + 1))
                  case measure => have := HS.out; omega
                  case rel => exact ⟨s + 1, rfl, HS.out.1, by go_num, K2.out⟩
          · have hle2 : ¬ (s : Int) < 1100 := by omega
            go_wp2
            go_roundg (2 - (i + 1))
            case measure => have := HL.out; omega
            case rel => exact ⟨i + 1, rfl, HL.out.1, by go_num, S1.out.2.2⟩
      · have ht : decide ((ck cf cd cse qs).1 = 0) = false := by simp [hz]
        rw [ht] at hm
        have hi0 : ((i : Int) == 0) = false := by
          have : i ≠ 0 := fun h => hz (HCK.out h)
          rw [beq_eq_false_iff_ne]; omega
        clear hz ht HCK
        go_wp2_with fail
        refine (hm _ (Grow.refl _)).mono ?_
        rintro e w5 ⟨rfl, g5⟩
        go_wp2
        go_roundg (2 - (i + 1))
        case measure => have := HL.out; omega
        case rel => exact ⟨i + 1, rfl, HL.out.1, by go_num, (OG.out _ _ O1.out g5).2.2⟩
    · have hle : ¬ (i : Int) < 2 := by omega
      go_wp2_with fail
      refine (lives_any _).mono ?_
      rintro e u1 ⟨rfl, j1⟩
      go_wp2
      go_ret
      exact ⟨rfl, Z.out.2.2.trans j1⟩
end Go.Proofs.Ytaieepbfccdmiaa
