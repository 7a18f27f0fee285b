/-
  The walk of ArenaCuts. Conditions: the theorem's own.
-/
import Derived.Test.YtgpigllimoafaaaAreU
import Derived.Deep.LoopGhost
namespace Go.Proofs.Ytgpigllimoafaaa
open Go.RowKit
set_option linter.unusedVariables false
set_option linter.unusedSimpArgs false

/-- each made 1 to 8 -/
def smallTo (F : List Int) (j : Nat) : List Int := (F.take j).map (fun x => 1 + around x 8)
theorem smallTo_succ {F : List Int} {j : Nat} (hj : j < F.length) : smallTo F (j + 1) = smallTo F j ++ [1 + around (F.getD j 0) 8] := by
  unfold smallTo
  rw [take_snoc F 0 j hj, List.map_append, List.map_singleton]
theorem smallTo_len {F : List Int} {j : Nat} (hj : j ≤ F.length) : (smallTo F j).length = j := by
  unfold smallTo; simp; omega
theorem smallTo_each (F : List Int) (j : Nat) : ∀ x ∈ smallTo F j, 1 ≤ x ∧ x ≤ 8 := by
  intro x hx
  unfold smallTo at hx
  rw [List.mem_map] at hx
  obtain ⟨y, -, rfl⟩ := hx
  have := around_bd y 8 (by omega)
  omega
theorem smallTo_sum {F : List Int} {j : Nat} (hj : j ≤ F.length) : 0 ≤ (smallTo F j).sum ∧ (smallTo F j).sum ≤ 8 * j := by
  induction j with
  | zero => exact ⟨Int.le_refl _, by show (0 : Int) ≤ _; simp⟩
  | succ j ih =>
    have h1 := ih (by omega)
    have h2 := around_bd (F.getD j 0) 8 (by omega)
    rw [smallTo_succ (by omega), sum_one]
    omega
theorem sm_all (q : List Int) : sm q q.length = q.sum := by unfold sm; rw [List.take_length]

set_option maxRecDepth 8000 in
set_option maxHeartbeats 4000000 in
theorem arenaCuts_short (a : Option Addr) (c : Nat) (p : Nat → Prop) (zs F : List Int) (w : World) (hl : zs.length ≤ 20) (hF : F.length = zs.length) (hv : RdV (Value.int .i64) 0 p w (.slice a (zs.length) c) F) (hz : ∀ x ∈ F, (Lit.int .i64 x).wf = true) (hcap : zs.length ≤ c) (hmax : c ≤ maxLen) : Calls Try.prog 3 #[.slice a zs.length c] w fun e w' => e = .returned (.bool true) ∧ Grow w w' := by
  obtain ⟨i0, hi, hz0, hz1, hz2⟩ := info_parts infoTI15
  have HV : Hid (RdV (Value.int .i64) 0 p w (.slice a (zs.length) c) F) := hv
  have HZ : Hid (∀ x ∈ F, (Lit.int .i64 x).wf = true) := hz
  have HA : Hid (∀ wr j, j < F.length → Calls Try.prog 8 #[.int .i64 (F.getD j 0), .int .i64 8] wr fun e w' => e = .returned (.int .i64 (around (F.getD j 0) 8)) ∧ wr = w') := fun wr j hj => around_any _ 8 wr (hz _ (getD_in hj)) (by omega) (by omega)
  have HC : Hid (∀ wr, Grow w wr → ∀ j, j < F.length → ∃ b o, a = some ⟨b, o, none⟩ ∧ wr.cell? ⟨b, o + j, none⟩ = some (.int .i64 (F.getD j 0))) := fun wr g j hj => by
    obtain ⟨b, o, e, -, hc⟩ := (hv.grow g).addr (by omega)
    exact ⟨b, o, e, hc j hj⟩
  have HF : Hid (F.length = zs.length ∧ F.length ≤ 20) := by show _ ∧ _; omega
  have hle20 : (zs.length : Int) ≤ 20 := by omega
  have hlc : (zs.length : Int) ≤ (c : Int) := by omega
  unfold maxLen at hmax
  clear hv hz
  go_enter Try.func3, Try.ntmps3
  go_wp2
  go_loopg [4, 5, 6] (zs.length) (fun g d s iv wr => ∃ j : Nat, g = zs.length - j ∧ j ≤ zs.length ∧ iv = .int .i64 j ∧ s = .int .i64 (smallTo F j).sum ∧ OwnV (Value.int .i64) 0 (fun i => w.heap.size ≤ i) wr d (smallTo F j) ∧ Hid (Grow w wr))
  case atStart => exact ⟨0, rfl, Nat.zero_le _, rfl, rfl, OwnV.nil _ _ _ _ _, Grow.refl _⟩
  case round =>
    obtain ⟨j, hj, hj2, rfl, rfl, ho, HW⟩ := hrel
    have HG : Hid (gk = zs.length - j ∧ j ≤ zs.length) := ⟨hj, hj2⟩
    clear hj
    by_cases hlt : j < zs.length
    · have hle : (j : Int) < ((zs.length : Nat) : Int) := by omega
      have hle2 : (j : Int) < (zs.length : Int) := by omega
      have hjF : j < F.length := by have := HF.out; omega
      have HJ : Hid (j < F.length ∧ j < zs.length) := ⟨hjF, hlt⟩
      obtain ⟨b, o, rfl, hcell⟩ := HC.out wr HW.out j hjF
      have har := HA.out wr j hjF
      have HS : Hid (smallTo F (j + 1) = smallTo F j ++ [1 + around (F.getD j 0) 8]) := smallTo_succ hjF
      have hsm := smallTo_sum (F := F) (j := j) (by omega)
      have hll : (smallTo F j).length = j := smallTo_len (by omega)
      have hab := around_bd (F.getD j 0) 8 (by omega)
      generalize smallTo F j = D at ho hll HS hsm ⊢
      obtain ⟨S, hS⟩ : ∃ S, D.sum = S := ⟨_, rfl⟩
      rw [hS] at hsm ⊢
      have HSum : Hid (D.sum = S) := hS
      clear hS
      generalize around (F.getD j 0) 8 = y at har hab HS
      generalize F.getD j 0 = x at hcell har
      have hw1 : IntKind.i64.wrap (1 + y) = 1 + y := by rw [IntKind.wrap_i64]; omega
      have hw2 : IntKind.i64.wrap (S + (1 + y)) = S + (1 + y) := by rw [IntKind.wrap_i64]; omega
      have hw0 : IntKind.i64.wrap ((j : Int) + 1) = ((j + 1 : Nat) : Int) := by rw [IntKind.wrap_i64]; omega
      have hj20 : j ≤ 20 := by have := HF.out; omega
      have hll20 : D.length ≤ 20 := by omega
      have HLen : Hid (D.length = j) := hll
      clear hab hj2 hsm hll hjF hlt
      go_wp2_with fail
      refine har.mono ?_
      rintro e w1 ⟨rfl, rfl⟩
      clear har hcell
      have ho1 := ho.grow ((Grow.refl wr).alloc (.cells #[.int .i64 (1 + y)] 3))
      obtain ⟨a3, c3, hsh⟩ := ho1.shape
      subst hsh
      clear ho
      go_wp2_with (at_builtin; refine wpList_appV (f := Value.int .i64) (d := 0) rfl (.tmp 23) (.tmp 30) 22 22 rfl i0 (.int .i64 0) 8 Try.underlying22 hi hz0 hz1 hz2 rfl rfl rfl ho1 (Src.oneV (w := wr) Try.underlying22 (Value.int .i64) (1 + y) (oneI .i64 _) 3) (by simp only [maxLen, List.length_singleton]; omega) (by simp only [List.length_singleton]; omega) ?_)
      intro v' w' ho' hu'
      have HN : Hid (OwnV (Value.int .i64) 0 (fun i => w.heap.size ≤ i) w' v' (smallTo F (j + 1)) ∧ Grow w w' ∧ (smallTo F (j + 1)).sum = S + (1 + y)) := by
        have hg := HW.out.size
        refine ⟨?_, UpdS.new (HW.out.alloc _) hu' (fun i hi => hi), by rw [HS.out, sum_one, HSum.out]⟩
        rw [HS.out]
        exact ho'.mono (fun i _ hi => by rcases hi with hi | hi; exact hi; omega)
      obtain ⟨a4, c4, hsh4⟩ := ho'.shape
      obtain ⟨n4, hn4⟩ : ∃ n4, (D ++ [1 + y]).length = n4 := ⟨_, rfl⟩
      rw [hn4] at hsh4
      have hn5 : n4 = j + 1 := by rw [← hn4, List.length_append, List.length_singleton, HLen.out]
      have hj4 : (j : Int) < (n4 : Int) := by omega
      have hj5 : j < n4 := by omega
      subst hsh4
      have hc4 : ∃ b4 o4, a4 = some ⟨b4, o4, none⟩ ∧ w'.cell? ⟨b4, o4 + j, none⟩ = some (.int .i64 (1 + y)) := by
        obtain ⟨b4, o4, e, -, hc⟩ := ho'.rd.addr (by rw [hn4]; omega)
        have := hc j (by rw [hn4]; omega)
        rw [getD_app, if_neg (by rw [HLen.out]; omega), if_pos HLen.out.symm] at this
        exact ⟨b4, o4, e, this⟩
      obtain ⟨b4, o4, rfl, hc4⟩ := hc4
      clear ho' hu' ho1 hn4 hn5
      go_wp2
      go_roundg (zs.length - (j + 1))
      case measure => have := HG.out; have := HJ.out; omega
      case rel => exact ⟨j + 1, rfl, by have := HJ.out; omega, by go_num, by rw [HN.out.2.2], HN.out.1, HN.out.2.1⟩
    · have hge : ¬ (j : Int) < ((zs.length : Nat) : Int) := by omega
      have hge2 : ¬ (j : Int) < (zs.length : Int) := by omega
      have hjL : j = zs.length := by omega
      have hjF : j = F.length := by have := HF.out; omega
      obtain ⟨G, hGG⟩ : ∃ G, smallTo F j = G := ⟨_, rfl⟩
      have HGm : Hid (G.length ≤ 20 ∧ (∀ x ∈ G, (Lit.int .i64 x).wf = true) ∧ sm G G.length = G.sum) := by
        rw [← hGG]
        refine ⟨by rw [smallTo_len (by omega)]; have := HF.out; omega, fun x hx => wfI (by have := smallTo_each F j x hx; omega), sm_all _⟩
      rw [hGG] at ho ⊢
      obtain ⟨S, hS⟩ : ∃ S, G.sum = S := ⟨_, rfl⟩
      rw [hS] at HGm ⊢
      obtain ⟨ag, cg, hsh⟩ := ho.shape
      subst hsh
      -- the two lists in a row
      have hnew := fun k => World.cell?_alloc_new wr #[.slice a (zs.length) c, .slice ag G.length cg] 22 k
      have g1 : Grow wr (wr.alloc (.cells #[.slice a (zs.length) c, .slice ag G.length cg] 22)) := (Grow.refl wr).alloc _
      obtain ⟨X, hX⟩ : ∃ X, wr.heap.size = X := ⟨_, rfl⟩
      rw [hX] at hnew
      have hlt0 : X < (wr.alloc (.cells #[.slice a (zs.length) c, .slice ag G.length cg] 22)).heap.size := by rw [World.size_alloc]; omega
      obtain ⟨W1, hW1⟩ : ∃ W1, wr.alloc (.cells #[.slice a (zs.length) c, .slice ag G.length cg] 22) = W1 := ⟨_, rfl⟩
      rw [hW1] at hnew g1 hlt0
      have HQ : Hid (∀ k, k < 2 → ∃ aq cq q, (∀ w', Grow W1 w' → w'.cell? ⟨X, k, none⟩ = some (.slice aq q.length cq)) ∧ (∃ pq, RdV (Value.int .i64) 0 pq W1 (.slice aq q.length cq) q) ∧ q.length ≤ 20 ∧ (∀ x ∈ q, (Lit.int .i64 x).wf = true) ∧ (k = 1 → sm q q.length = S)) := fun k hk => by
        have hold : ∀ w', Grow W1 w' → ∀ u, W1.cell? ⟨X, k, none⟩ = some u → w'.cell? ⟨X, k, none⟩ = some u := fun w' g u hu => by
          rw [(g.s (S := fun _ => False)).cell (p := ⟨X, k, none⟩) hlt0 (fun f => f)]; exact hu
        by_cases e : k = 0
        · subst e
          exact ⟨a, c, F, fun w' g => hold w' g _ (by rw [hnew 0, HF.out.1]; rfl), ⟨_, by rw [HF.out.1]; exact (HV.out.grow HW.out).grow g1⟩, HF.out.2, HZ.out, fun h => by omega⟩
        · obtain rfl : k = 1 := by omega
          exact ⟨ag, cg, G, fun w' g => hold w' g _ (by rw [hnew 1]; rfl), ⟨_, ho.rd.grow g1⟩, HGm.out.1, HGm.out.2.1, fun _ => HGm.out.2.2⟩
      have HW2 : Hid (Grow w W1) := HW.out.trans g1
      have HWL : Hid (wr.alloc (.cells #[.slice a (zs.length) c, .slice ag G.length cg] 22) = W1 ∧ wr.heap.size = X) := ⟨hW1, hX⟩
      clear hnew g1 hlt0 HGm HG hGG hS hW1 hX ho hlt hj2
      go_upto_region 11 with fail
      (try rw [HWL.out.1])
      (try rw [HWL.out.2])
      clear HWL
      go_loopg [8] 2 (fun g iv wr => ∃ k : Nat, g = 2 - k ∧ k ≤ 2 ∧ iv = .int .i64 k ∧ Hid (Grow W1 wr))
      case atStart => exact ⟨0, rfl, by omega, rfl, Grow.refl _⟩
      case round =>
        obtain ⟨k, hk, hk2, rfl, HW⟩ := hrel
        have HG : Hid (gk = 2 - k) := hk
        clear hk
        by_cases hlt : k < 2
        · have hle : (k : Int) < 2 := by omega
          have hw0 : IntKind.i64.wrap ((k : Int) + 1) = ((k + 1 : Nat) : Int) := by rw [IntKind.wrap_i64]; omega
          obtain ⟨aq, cq, q, hcl, ⟨pq, hrd⟩, hq20, hqwf, hqs⟩ := HQ.out k hlt
          have hc0 := hcl wr HW.out
          have hc := cut_any wr pq _ q (hrd.grow HW.out) hqwf
          have HR : Hid ((∀ w', Grow W1 w' → w'.cell? ⟨X, k, none⟩ = some (.slice aq q.length cq)) ∧ (k = 1 → sm q q.length = S)) := ⟨hcl, hqs⟩
          have HM : Hid (∀ w', Grow W1 w' → Calls Try.prog 10 #[.slice aq q.length cq] w' fun e w'' => MayTold q e ∧ w' = w'') := fun w' g => may_any w' pq _ q (hrd.grow g) hqwf hq20
          clear hcl hrd hqwf hqs
          go_wp2_with fail
          refine hc.mono ?_
          rintro e w2 ⟨hp, g2⟩
          have HW3 : Hid (Grow W1 w2) := HW.out.trans g2
          have hm := HM.out w2 HW3.out
          have hc1 := HR.out.1 w2 HW3.out
          clear hc hc0 g2
          rcases hp with ⟨hok, A, M, rfl, kA, hl, hnw⟩ | ⟨hno, rfl⟩
          · have HOK : Hid (CutOk q) := hok
            have hmap := hnw.map hl (fun i hi => (hok.2.2.1 i hi).1)
            have hz0 := (hnw.none M.length (Nat.le_refl _)).1
            have hz1 := (hnw.none M.length (Nat.le_refl _)).2
            have HA : Hid (ArAt wr.heap.size w2 A M ∧ M.map PS.len = q ∧ M.length = q.length) := ⟨kA, hmap, hl⟩
            have hln := alen_any _ w2.drew A M (kA.grow (Grow.refl w2).drew)
            rw [hl] at hln
            have hem := aempty_any _ w2.drew A M (kA.grow (Grow.refl w2).drew)
            rw [hz1] at hem
            have e00 : ((0 : Int) == 0) = true := rfl
            rw [e00] at hem
            have hus : ∀ w', Grow w2.drew w' → Calls Try.prog 13 #[.pointer (some ⟨A, 0, none⟩)] w' fun e w'' => e = .returned (.int .i64 0) ∧ Grow w' w'' := fun w' g => by
              have := used_any _ w' A M (kA.grow ((Grow.refl w2).drew.trans g))
              rwa [hz0] at this
            have kx : ∀ w', Grow w2.drew w' → w'.cell? ⟨X, k, none⟩ = some (.slice aq q.length cq) := fun w' g => HR.out.1 w' (HW3.out.drew.trans g)
            have HW4 : Hid (Grow W1 w2.drew) := HW3.out.drew
            clear hok hnw hz0 hz1 kA hmap hl e00
            go_wp2_with fail
            refine hm.mono ?_
            rintro e w3 ⟨hm2, rfl⟩
            clear hm
            rcases hm2 with ⟨-, rfl⟩ | ⟨hno, -⟩
            · go_wp2
              refine wp_region_sched (by kernel_rfl) [(0, false), (2, false), (3, false), (4, false), (5, false), (6, false), (1, true), (7, false), (8, false), (9, false), (10, true), (11, false), (12, false), (13, false), (14, false), (15, true), (16, false), (17, false)] (by kernel_rfl) (by kernel_rfl) rfl (fun _ _ d _ _ h => by cases d <;> exact h) ?_
              simp only [inOrder, List.filterMap_cons, List.filterMap_nil, List.getElem?_toArray, List.getElem?_cons_zero, List.getElem?_cons_succ, Option.map_some]
              repeat (first
                | (refine wpS_move rfl ?_; simp only [Act.eval, Act.put, Array.getD_eq_getD_getElem?, List.getElem?_toArray, List.getElem?_cons_zero, List.getElem?_cons_succ, Option.getD_some, List.setIfInBounds_toArray, List.set_cons_zero, List.set_cons_succ])
                | (refine wpS_assign rfl ?_; simp only [Act.eval, Act.put, Array.getD_eq_getD_getElem?, List.getElem?_toArray, List.getElem?_cons_zero, List.getElem?_cons_succ, Option.getD_some, List.setIfInBounds_toArray, List.set_cons_zero, List.set_cons_succ])
                | (refine wpS_read (v := ?_) rfl ?_ ?_; rotate_left; (focus (intro w' hG; have k0 := kx w' hG; go_simp; try (with_reducible rfl))); simp only [Act.put, List.setIfInBounds_toArray, List.set_cons_zero, List.set_cons_succ])
                | (refine wpS_skip rfl ?_; simp only [Act.put, List.setIfInBounds_toArray, List.set_cons_zero, List.set_cons_succ]))
              refine wpS_call (f := ?_) (args := ?_) (by rfl) ?_ ?_
              rotate_left 2; focus (go_simp; constructor <;> with_reducible rfl)
              refine (hln).mono ?_
              rintro e w5 ⟨rfl, rfl⟩
              refine ⟨_, rfl, Grow.refl _, ?_⟩
              simp only [Act.put, List.setIfInBounds_toArray, List.set_cons_zero, List.set_cons_succ]
              repeat (first
                | (refine wpS_move rfl ?_; simp only [Act.eval, Act.put, Array.getD_eq_getD_getElem?, List.getElem?_toArray, List.getElem?_cons_zero, List.getElem?_cons_succ, Option.getD_some, List.setIfInBounds_toArray, List.set_cons_zero, List.set_cons_succ])
                | (refine wpS_assign rfl ?_; simp only [Act.eval, Act.put, Array.getD_eq_getD_getElem?, List.getElem?_toArray, List.getElem?_cons_zero, List.getElem?_cons_succ, Option.getD_some, List.setIfInBounds_toArray, List.set_cons_zero, List.set_cons_succ])
                | (refine wpS_read (v := ?_) rfl ?_ ?_; rotate_left; (focus (intro w' hG; go_simp; try (with_reducible rfl))); simp only [Act.put, List.setIfInBounds_toArray, List.set_cons_zero, List.set_cons_succ])
                | (refine wpS_skip rfl ?_; simp only [Act.put, List.setIfInBounds_toArray, List.set_cons_zero, List.set_cons_succ]))
              refine wpS_call (f := ?_) (args := ?_) (by rfl) ?_ ?_
              rotate_left 2; focus (go_simp; constructor <;> with_reducible rfl)
              refine (hem).mono ?_
              rintro e w6 ⟨rfl, g6⟩
              refine ⟨_, rfl, g6, ?_⟩
              simp only [Act.put, List.setIfInBounds_toArray, List.set_cons_zero, List.set_cons_succ]
              repeat (first
                | (refine wpS_move rfl ?_; simp only [Act.eval, Act.put, Array.getD_eq_getD_getElem?, List.getElem?_toArray, List.getElem?_cons_zero, List.getElem?_cons_succ, Option.getD_some, List.setIfInBounds_toArray, List.set_cons_zero, List.set_cons_succ])
                | (refine wpS_assign rfl ?_; simp only [Act.eval, Act.put, Array.getD_eq_getD_getElem?, List.getElem?_toArray, List.getElem?_cons_zero, List.getElem?_cons_succ, Option.getD_some, List.setIfInBounds_toArray, List.set_cons_zero, List.set_cons_succ])
                | (refine wpS_read (v := ?_) rfl ?_ ?_; rotate_left; (focus (intro w' hG; go_simp; try (with_reducible rfl))); simp only [Act.put, List.setIfInBounds_toArray, List.set_cons_zero, List.set_cons_succ])
                | (refine wpS_skip rfl ?_; simp only [Act.put, List.setIfInBounds_toArray, List.set_cons_zero, List.set_cons_succ]))
              refine wpS_call (f := ?_) (args := ?_) (by rfl) ?_ ?_
              rotate_left 2; focus (go_simp; constructor <;> with_reducible rfl)
              refine ((hus w6 g6)).mono ?_
              rintro e w7 ⟨rfl, g7⟩
              refine ⟨_, rfl, g7, ?_⟩
              simp only [Act.put, List.setIfInBounds_toArray, List.set_cons_zero, List.set_cons_succ]
              repeat (first
                | (refine wpS_move rfl ?_; simp only [Act.eval, Act.put, Array.getD_eq_getD_getElem?, List.getElem?_toArray, List.getElem?_cons_zero, List.getElem?_cons_succ, Option.getD_some, List.setIfInBounds_toArray, List.set_cons_zero, List.set_cons_succ])
                | (refine wpS_assign rfl ?_; simp only [Act.eval, Act.put, Array.getD_eq_getD_getElem?, List.getElem?_toArray, List.getElem?_cons_zero, List.getElem?_cons_succ, Option.getD_some, List.setIfInBounds_toArray, List.set_cons_zero, List.set_cons_succ])
                | (refine wpS_read (v := ?_) rfl ?_ ?_; rotate_left; (focus (intro w' hG; go_simp; try (with_reducible rfl))); simp only [Act.put, List.setIfInBounds_toArray, List.set_cons_zero, List.set_cons_succ])
                | (refine wpS_skip rfl ?_; simp only [Act.put, List.setIfInBounds_toArray, List.set_cons_zero, List.set_cons_succ]))
              refine wpS_nil ?_
              have HW7 : Hid (Grow W1 w7) := HW4.out.trans (g6.trans g7)
              have hfr := frames_any _ w7 A M (HA.out.1.grow ((Grow.refl w2).drew.trans (g6.trans g7)))
              rw [HA.out.2.1, HA.out.2.2] at hfr
              clear kx hln hem hus g6 g7 hc1
              by_cases hk1 : k = 1
              · have e1 : ((k : Int) == 1) = true := by rw [beq_iff_eq]; omega
                have e2 : (k : Int) = 1 := by omega
                have HK : Hid (k = 1) := hk1
                rw [HR.out.2 hk1] at hfr
                clear hk1 e2
                go_wp2_with fail
                refine hfr.mono ?_
                rintro e w8 ⟨rfl, g8⟩
                have HW8 : Hid (Grow W1 w8) := HW7.out.trans g8
                clear hfr g8
                go_wp2
                go_roundg (2 - (k + 1))
                case measure => have := HG.out; have := HK.out; omega
                case rel => exact ⟨k + 1, rfl, by have := HK.out; omega, by go_num, HW8.out⟩
              · have e1 : ((k : Int) == 1) = false := by rw [beq_eq_false_iff_ne]; omega
                have e2 : ¬ (k : Int) = 1 := by omega
                have HK : Hid (k < 2) := hlt
                clear hk1 hfr
                go_wp2
                go_roundg (2 - (k + 1))
                case measure => have := HG.out; have := HK.out; omega
                case rel => exact ⟨k + 1, rfl, by have := HK.out; omega, by go_num, HW7.out⟩
            · exact absurd HOK.out hno
          · have HK : Hid (k < 2) := hlt
            go_wp2_with fail
            refine hm.mono ?_
            rintro e w3 ⟨hm2, rfl⟩
            clear hm
            rcases hm2 with ⟨hok, -⟩ | ⟨-, rfl⟩
            · exact absurd hok hno
            · clear hno hc1
              go_wp2
              go_roundg (2 - (k + 1))
              case measure => have := HG.out; have := HK.out; omega
              case rel => exact ⟨k + 1, rfl, by have := HK.out; omega, by go_num, HW3.out⟩
        · have hge : ¬ (k : Int) < 2 := by omega
          have HW3 : Hid (Grow w wr) := HW2.out.trans HW.out
          have hlv := alives_any wr
          clear hlt hk2 HG HW
          go_wp2_with fail
          refine hlv.mono ?_
          rintro e w4 ⟨rfl, g4⟩
          have HW4 : Hid (Grow w w4) := HW3.out.trans g4
          clear hlv g4
          go_wp2
          go_ret
          exact ⟨rfl, HW4.out⟩
set_option maxRecDepth 8000 in
set_option maxHeartbeats 4000000 in
theorem arenaCuts_long (a : Option Addr) (c : Nat) (p : Nat → Prop) (zs F : List Int) (w : World) (hl : 20 < zs.length) (hF : F.length = 20) (hv : RdV (Value.int .i64) 0 p w (.slice a (20) c) F) (hz : ∀ x ∈ F, (Lit.int .i64 x).wf = true) (hcap : zs.length ≤ c) (hmax : c ≤ maxLen) : Calls Try.prog 3 #[.slice a zs.length c] w fun e w' => e = .returned (.bool true) ∧ Grow w w' := by
  obtain ⟨i0, hi, hz0, hz1, hz2⟩ := info_parts infoTI15
  have HV : Hid (RdV (Value.int .i64) 0 p w (.slice a (20) c) F) := hv
  have HZ : Hid (∀ x ∈ F, (Lit.int .i64 x).wf = true) := hz
  have HA : Hid (∀ wr j, j < F.length → Calls Try.prog 8 #[.int .i64 (F.getD j 0), .int .i64 8] wr fun e w' => e = .returned (.int .i64 (around (F.getD j 0) 8)) ∧ wr = w') := fun wr j hj => around_any _ 8 wr (hz _ (getD_in hj)) (by omega) (by omega)
  have HC : Hid (∀ wr, Grow w wr → ∀ j, j < F.length → ∃ b o, a = some ⟨b, o, none⟩ ∧ wr.cell? ⟨b, o + j, none⟩ = some (.int .i64 (F.getD j 0))) := fun wr g j hj => by
    obtain ⟨b, o, e, -, hc⟩ := (hv.grow g).addr (by omega)
    exact ⟨b, o, e, hc j hj⟩
  have HF : Hid (F.length = 20 ∧ F.length ≤ 20) := by show _ ∧ _; omega
  have hle20 : ¬ (zs.length : Int) ≤ 20 := by omega
  have hle21 : (20 : Int) ≤ (zs.length : Int) := by omega
  have hlc : (20 : Int) ≤ (c : Int) := by omega
  have hlc2 : 20 ≤ c := by omega
  unfold maxLen at hmax
  clear hv hz
  go_enter Try.func3, Try.ntmps3
  go_wp2
  go_loopg [4, 5, 6] (20) (fun g d s iv wr => ∃ j : Nat, g = 20 - j ∧ j ≤ 20 ∧ iv = .int .i64 j ∧ s = .int .i64 (smallTo F j).sum ∧ OwnV (Value.int .i64) 0 (fun i => w.heap.size ≤ i) wr d (smallTo F j) ∧ Hid (Grow w wr))
  case atStart => exact ⟨0, rfl, Nat.zero_le _, rfl, rfl, OwnV.nil _ _ _ _ _, Grow.refl _⟩
  case round =>
    obtain ⟨j, hj, hj2, rfl, rfl, ho, HW⟩ := hrel
    have HG : Hid (gk = 20 - j ∧ j ≤ 20) := ⟨hj, hj2⟩
    clear hj
    by_cases hlt : j < 20
    · have hle : (j : Int) < ((20 : Nat) : Int) := by omega
      have hle2 : (j : Int) < 20 := by omega
      have hjF : j < F.length := by have := HF.out; omega
      have HJ : Hid (j < F.length ∧ j < 20) := ⟨hjF, hlt⟩
      obtain ⟨b, o, rfl, hcell⟩ := HC.out wr HW.out j hjF
      have har := HA.out wr j hjF
      have HS : Hid (smallTo F (j + 1) = smallTo F j ++ [1 + around (F.getD j 0) 8]) := smallTo_succ hjF
      have hsm := smallTo_sum (F := F) (j := j) (by omega)
      have hll : (smallTo F j).length = j := smallTo_len (by omega)
      have hab := around_bd (F.getD j 0) 8 (by omega)
      generalize smallTo F j = D at ho hll HS hsm ⊢
      obtain ⟨S, hS⟩ : ∃ S, D.sum = S := ⟨_, rfl⟩
      rw [hS] at hsm ⊢
      have HSum : Hid (D.sum = S) := hS
      clear hS
      generalize around (F.getD j 0) 8 = y at har hab HS
      generalize F.getD j 0 = x at hcell har
      have hw1 : IntKind.i64.wrap (1 + y) = 1 + y := by rw [IntKind.wrap_i64]; omega
      have hw2 : IntKind.i64.wrap (S + (1 + y)) = S + (1 + y) := by rw [IntKind.wrap_i64]; omega
      have hw0 : IntKind.i64.wrap ((j : Int) + 1) = ((j + 1 : Nat) : Int) := by rw [IntKind.wrap_i64]; omega
      have hj20 : j ≤ 20 := by have := HF.out; omega
      have hll20 : D.length ≤ 20 := by omega
      have HLen : Hid (D.length = j) := hll
      clear hab hj2 hsm hll hjF hlt
      go_wp2_with fail
      refine har.mono ?_
      rintro e w1 ⟨rfl, rfl⟩
      clear har hcell
      have ho1 := ho.grow ((Grow.refl wr).alloc (.cells #[.int .i64 (1 + y)] 3))
      obtain ⟨a3, c3, hsh⟩ := ho1.shape
      subst hsh
      clear ho
      go_wp2_with (at_builtin; refine wpList_appV (f := Value.int .i64) (d := 0) rfl (.tmp 23) (.tmp 30) 22 22 rfl i0 (.int .i64 0) 8 Try.underlying22 hi hz0 hz1 hz2 rfl rfl rfl ho1 (Src.oneV (w := wr) Try.underlying22 (Value.int .i64) (1 + y) (oneI .i64 _) 3) (by simp only [maxLen, List.length_singleton]; omega) (by simp only [List.length_singleton]; omega) ?_)
      intro v' w' ho' hu'
      have HN : Hid (OwnV (Value.int .i64) 0 (fun i => w.heap.size ≤ i) w' v' (smallTo F (j + 1)) ∧ Grow w w' ∧ (smallTo F (j + 1)).sum = S + (1 + y)) := by
        have hg := HW.out.size
        refine ⟨?_, UpdS.new (HW.out.alloc _) hu' (fun i hi => hi), by rw [HS.out, sum_one, HSum.out]⟩
        rw [HS.out]
        exact ho'.mono (fun i _ hi => by rcases hi with hi | hi; exact hi; omega)
      obtain ⟨a4, c4, hsh4⟩ := ho'.shape
      obtain ⟨n4, hn4⟩ : ∃ n4, (D ++ [1 + y]).length = n4 := ⟨_, rfl⟩
      rw [hn4] at hsh4
      have hn5 : n4 = j + 1 := by rw [← hn4, List.length_append, List.length_singleton, HLen.out]
      have hj4 : (j : Int) < (n4 : Int) := by omega
      have hj5 : j < n4 := by omega
      subst hsh4
      have hc4 : ∃ b4 o4, a4 = some ⟨b4, o4, none⟩ ∧ w'.cell? ⟨b4, o4 + j, none⟩ = some (.int .i64 (1 + y)) := by
        obtain ⟨b4, o4, e, -, hc⟩ := ho'.rd.addr (by rw [hn4]; omega)
        have := hc j (by rw [hn4]; omega)
        rw [getD_app, if_neg (by rw [HLen.out]; omega), if_pos HLen.out.symm] at this
        exact ⟨b4, o4, e, this⟩
      obtain ⟨b4, o4, rfl, hc4⟩ := hc4
      clear ho' hu' ho1 hn4 hn5
      go_wp2
      go_roundg (20 - (j + 1))
      case measure => have := HG.out; have := HJ.out; omega
      case rel => exact ⟨j + 1, rfl, by have := HJ.out; omega, by go_num, by rw [HN.out.2.2], HN.out.1, HN.out.2.1⟩
    · have hge : ¬ (j : Int) < ((20 : Nat) : Int) := by omega
      have hge2 : ¬ (j : Int) < 20 := by omega
      have hjL : j = 20 := by omega
      have hjF : j = F.length := by have := HF.out; omega
      obtain ⟨G, hGG⟩ : ∃ G, smallTo F j = G := ⟨_, rfl⟩
      have HGm : Hid (G.length ≤ 20 ∧ (∀ x ∈ G, (Lit.int .i64 x).wf = true) ∧ sm G G.length = G.sum) := by
        rw [← hGG]
        refine ⟨by rw [smallTo_len (by omega)]; have := HF.out; omega, fun x hx => wfI (by have := smallTo_each F j x hx; omega), sm_all _⟩
      rw [hGG] at ho ⊢
      obtain ⟨S, hS⟩ : ∃ S, G.sum = S := ⟨_, rfl⟩
      rw [hS] at HGm ⊢
      obtain ⟨ag, cg, hsh⟩ := ho.shape
      subst hsh
      -- the two lists in a row
      have hnew := fun k => World.cell?_alloc_new wr #[.slice a (20) c, .slice ag G.length cg] 22 k
      have g1 : Grow wr (wr.alloc (.cells #[.slice a (20) c, .slice ag G.length cg] 22)) := (Grow.refl wr).alloc _
      obtain ⟨X, hX⟩ : ∃ X, wr.heap.size = X := ⟨_, rfl⟩
      rw [hX] at hnew
      have hlt0 : X < (wr.alloc (.cells #[.slice a (20) c, .slice ag G.length cg] 22)).heap.size := by rw [World.size_alloc]; omega
      obtain ⟨W1, hW1⟩ : ∃ W1, wr.alloc (.cells #[.slice a (20) c, .slice ag G.length cg] 22) = W1 := ⟨_, rfl⟩
      rw [hW1] at hnew g1 hlt0
      have HQ : Hid (∀ k, k < 2 → ∃ aq cq q, (∀ w', Grow W1 w' → w'.cell? ⟨X, k, none⟩ = some (.slice aq q.length cq)) ∧ (∃ pq, RdV (Value.int .i64) 0 pq W1 (.slice aq q.length cq) q) ∧ q.length ≤ 20 ∧ (∀ x ∈ q, (Lit.int .i64 x).wf = true) ∧ (k = 1 → sm q q.length = S)) := fun k hk => by
        have hold : ∀ w', Grow W1 w' → ∀ u, W1.cell? ⟨X, k, none⟩ = some u → w'.cell? ⟨X, k, none⟩ = some u := fun w' g u hu => by
          rw [(g.s (S := fun _ => False)).cell (p := ⟨X, k, none⟩) hlt0 (fun f => f)]; exact hu
        by_cases e : k = 0
        · subst e
          exact ⟨a, c, F, fun w' g => hold w' g _ (by rw [hnew 0, HF.out.1]; rfl), ⟨_, by rw [HF.out.1]; exact (HV.out.grow HW.out).grow g1⟩, HF.out.2, HZ.out, fun h => by omega⟩
        · obtain rfl : k = 1 := by omega
          exact ⟨ag, cg, G, fun w' g => hold w' g _ (by rw [hnew 1]; rfl), ⟨_, ho.rd.grow g1⟩, HGm.out.1, HGm.out.2.1, fun _ => HGm.out.2.2⟩
      have HW2 : Hid (Grow w W1) := HW.out.trans g1
      have HWL : Hid (wr.alloc (.cells #[.slice a (20) c, .slice ag G.length cg] 22) = W1 ∧ wr.heap.size = X) := ⟨hW1, hX⟩
      clear hnew g1 hlt0 HGm HG hGG hS hW1 hX ho hlt hj2
      go_upto_region 11 with fail
      (try rw [HWL.out.1])
      (try rw [HWL.out.2])
      clear HWL
      go_loopg [8] 2 (fun g iv wr => ∃ k : Nat, g = 2 - k ∧ k ≤ 2 ∧ iv = .int .i64 k ∧ Hid (Grow W1 wr))
      case atStart => exact ⟨0, rfl, by omega, rfl, Grow.refl _⟩
      case round =>
        obtain ⟨k, hk, hk2, rfl, HW⟩ := hrel
        have HG : Hid (gk = 2 - k) := hk
        clear hk
        by_cases hlt : k < 2
        · have hle : (k : Int) < 2 := by omega
          have hw0 : IntKind.i64.wrap ((k : Int) + 1) = ((k + 1 : Nat) : Int) := by rw [IntKind.wrap_i64]; omega
          obtain ⟨aq, cq, q, hcl, ⟨pq, hrd⟩, hq20, hqwf, hqs⟩ := HQ.out k hlt
          have hc0 := hcl wr HW.out
          have hc := cut_any wr pq _ q (hrd.grow HW.out) hqwf
          have HR : Hid ((∀ w', Grow W1 w' → w'.cell? ⟨X, k, none⟩ = some (.slice aq q.length cq)) ∧ (k = 1 → sm q q.length = S)) := ⟨hcl, hqs⟩
          have HM : Hid (∀ w', Grow W1 w' → Calls Try.prog 10 #[.slice aq q.length cq] w' fun e w'' => MayTold q e ∧ w' = w'') := fun w' g => may_any w' pq _ q (hrd.grow g) hqwf hq20
          clear hcl hrd hqwf hqs
          go_wp2_with fail
          refine hc.mono ?_
          rintro e w2 ⟨hp, g2⟩
          have HW3 : Hid (Grow W1 w2) := HW.out.trans g2
          have hm := HM.out w2 HW3.out
          have hc1 := HR.out.1 w2 HW3.out
          clear hc hc0 g2
          rcases hp with ⟨hok, A, M, rfl, kA, hl, hnw⟩ | ⟨hno, rfl⟩
          · have HOK : Hid (CutOk q) := hok
            have hmap := hnw.map hl (fun i hi => (hok.2.2.1 i hi).1)
            have hz0 := (hnw.none M.length (Nat.le_refl _)).1
            have hz1 := (hnw.none M.length (Nat.le_refl _)).2
            have HA : Hid (ArAt wr.heap.size w2 A M ∧ M.map PS.len = q ∧ M.length = q.length) := ⟨kA, hmap, hl⟩
            have hln := alen_any _ w2.drew A M (kA.grow (Grow.refl w2).drew)
            rw [hl] at hln
            have hem := aempty_any _ w2.drew A M (kA.grow (Grow.refl w2).drew)
            rw [hz1] at hem
            have e00 : ((0 : Int) == 0) = true := rfl
            rw [e00] at hem
            have hus : ∀ w', Grow w2.drew w' → Calls Try.prog 13 #[.pointer (some ⟨A, 0, none⟩)] w' fun e w'' => e = .returned (.int .i64 0) ∧ Grow w' w'' := fun w' g => by
              have := used_any _ w' A M (kA.grow ((Grow.refl w2).drew.trans g))
              rwa [hz0] at this
            have kx : ∀ w', Grow w2.drew w' → w'.cell? ⟨X, k, none⟩ = some (.slice aq q.length cq) := fun w' g => HR.out.1 w' (HW3.out.drew.trans g)
            have HW4 : Hid (Grow W1 w2.drew) := HW3.out.drew
            clear hok hnw hz0 hz1 kA hmap hl e00
            go_wp2_with fail
            refine hm.mono ?_
            rintro e w3 ⟨hm2, rfl⟩
            clear hm
            rcases hm2 with ⟨-, rfl⟩ | ⟨hno, -⟩
            · go_wp2
              refine wp_region_sched (by kernel_rfl) [(0, false), (2, false), (3, false), (4, false), (5, false), (6, false), (1, true), (7, false), (8, false), (9, false), (10, true), (11, false), (12, false), (13, false), (14, false), (15, true), (16, false), (17, false)] (by kernel_rfl) (by kernel_rfl) rfl (fun _ _ d _ _ h => by cases d <;> exact h) ?_
              simp only [inOrder, List.filterMap_cons, List.filterMap_nil, List.getElem?_toArray, List.getElem?_cons_zero, List.getElem?_cons_succ, Option.map_some]
              repeat (first
                | (refine wpS_move rfl ?_; simp only [Act.eval, Act.put, Array.getD_eq_getD_getElem?, List.getElem?_toArray, List.getElem?_cons_zero, List.getElem?_cons_succ, Option.getD_some, List.setIfInBounds_toArray, List.set_cons_zero, List.set_cons_succ])
                | (refine wpS_assign rfl ?_; simp only [Act.eval, Act.put, Array.getD_eq_getD_getElem?, List.getElem?_toArray, List.getElem?_cons_zero, List.getElem?_cons_succ, Option.getD_some, List.setIfInBounds_toArray, List.set_cons_zero, List.set_cons_succ])
                | (refine wpS_read (v := ?_) rfl ?_ ?_; rotate_left; (focus (intro w' hG; have k0 := kx w' hG; go_simp; try (with_reducible rfl))); simp only [Act.put, List.setIfInBounds_toArray, List.set_cons_zero, List.set_cons_succ])
                | (refine wpS_skip rfl ?_; simp only [Act.put, List.setIfInBounds_toArray, List.set_cons_zero, List.set_cons_succ]))
              refine wpS_call (f := ?_) (args := ?_) (by rfl) ?_ ?_
              rotate_left 2; focus (go_simp; constructor <;> with_reducible rfl)
              refine (hln).mono ?_
              rintro e w5 ⟨rfl, rfl⟩
              refine ⟨_, rfl, Grow.refl _, ?_⟩
              simp only [Act.put, List.setIfInBounds_toArray, List.set_cons_zero, List.set_cons_succ]
              repeat (first
                | (refine wpS_move rfl ?_; simp only [Act.eval, Act.put, Array.getD_eq_getD_getElem?, List.getElem?_toArray, List.getElem?_cons_zero, List.getElem?_cons_succ, Option.getD_some, List.setIfInBounds_toArray, List.set_cons_zero, List.set_cons_succ])
                | (refine wpS_assign rfl ?_; simp only [Act.eval, Act.put, Array.getD_eq_getD_getElem?, List.getElem?_toArray, List.getElem?_cons_zero, List.getElem?_cons_succ, Option.getD_some, List.setIfInBounds_toArray, List.set_cons_zero, List.set_cons_succ])
                | (refine wpS_read (v := ?_) rfl ?_ ?_; rotate_left; (focus (intro w' hG; go_simp; try (with_reducible rfl))); simp only [Act.put, List.setIfInBounds_toArray, List.set_cons_zero, List.set_cons_succ])
                | (refine wpS_skip rfl ?_; simp only [Act.put, List.setIfInBounds_toArray, List.set_cons_zero, List.set_cons_succ]))
              refine wpS_call (f := ?_) (args := ?_) (by rfl) ?_ ?_
              rotate_left 2; focus (go_simp; constructor <;> with_reducible rfl)
              refine (hem).mono ?_
              rintro e w6 ⟨rfl, g6⟩
              refine ⟨_, rfl, g6, ?_⟩
              simp only [Act.put, List.setIfInBounds_toArray, List.set_cons_zero, List.set_cons_succ]
              repeat (first
                | (refine wpS_move rfl ?_; simp only [Act.eval, Act.put, Array.getD_eq_getD_getElem?, List.getElem?_toArray, List.getElem?_cons_zero, List.getElem?_cons_succ, Option.getD_some, List.setIfInBounds_toArray, List.set_cons_zero, List.set_cons_succ])
                | (refine wpS_assign rfl ?_; simp only [Act.eval, Act.put, Array.getD_eq_getD_getElem?, List.getElem?_toArray, List.getElem?_cons_zero, List.getElem?_cons_succ, Option.getD_some, List.setIfInBounds_toArray, List.set_cons_zero, List.set_cons_succ])
                | (refine wpS_read (v := ?_) rfl ?_ ?_; rotate_left; (focus (intro w' hG; go_simp; try (with_reducible rfl))); simp only [Act.put, List.setIfInBounds_toArray, List.set_cons_zero, List.set_cons_succ])
                | (refine wpS_skip rfl ?_; simp only [Act.put, List.setIfInBounds_toArray, List.set_cons_zero, List.set_cons_succ]))
              refine wpS_call (f := ?_) (args := ?_) (by rfl) ?_ ?_
              rotate_left 2; focus (go_simp; constructor <;> with_reducible rfl)
              refine ((hus w6 g6)).mono ?_
              rintro e w7 ⟨rfl, g7⟩
              refine ⟨_, rfl, g7, ?_⟩
              simp only [Act.put, List.setIfInBounds_toArray, List.set_cons_zero, List.set_cons_succ]
              repeat (first
                | (refine wpS_move rfl ?_; simp only [Act.eval, Act.put, Array.getD_eq_getD_getElem?, List.getElem?_toArray, List.getElem?_cons_zero, List.getElem?_cons_succ, Option.getD_some, List.setIfInBounds_toArray, List.set_cons_zero, List.set_cons_succ])
                | (refine wpS_assign rfl ?_; simp only [Act.eval, Act.put, Array.getD_eq_getD_getElem?, List.getElem?_toArray, List.getElem?_cons_zero, List.getElem?_cons_succ, Option.getD_some, List.setIfInBounds_toArray, List.set_cons_zero, List.set_cons_succ])
                | (refine wpS_read (v := ?_) rfl ?_ ?_; rotate_left; (focus (intro w' hG; go_simp; try (with_reducible rfl))); simp only [Act.put, List.setIfInBounds_toArray, List.set_cons_zero, List.set_cons_succ])
                | (refine wpS_skip rfl ?_; simp only [Act.put, List.setIfInBounds_toArray, List.set_cons_zero, List.set_cons_succ]))
              refine wpS_nil ?_
              have HW7 : Hid (Grow W1 w7) := HW4.out.trans (g6.trans g7)
              have hfr := frames_any _ w7 A M (HA.out.1.grow ((Grow.refl w2).drew.trans (g6.trans g7)))
              rw [HA.out.2.1, HA.out.2.2] at hfr
              clear kx hln hem hus g6 g7 hc1
              by_cases hk1 : k = 1
              · have e1 : ((k : Int) == 1) = true := by rw [beq_iff_eq]; omega
                have e2 : (k : Int) = 1 := by omega
                have HK : Hid (k = 1) := hk1
                rw [HR.out.2 hk1] at hfr
                clear hk1 e2
                go_wp2_with fail
                refine hfr.mono ?_
                rintro e w8 ⟨rfl, g8⟩
                have HW8 : Hid (Grow W1 w8) := HW7.out.trans g8
                clear hfr g8
                go_wp2
                go_roundg (2 - (k + 1))
                case measure => have := HG.out; have := HK.out; omega
                case rel => exact ⟨k + 1, rfl, by have := HK.out; omega, by go_num, HW8.out⟩
              · have e1 : ((k : Int) == 1) = false := by rw [beq_eq_false_iff_ne]; omega
                have e2 : ¬ (k : Int) = 1 := by omega
                have HK : Hid (k < 2) := hlt
                clear hk1 hfr
                go_wp2
                go_roundg (2 - (k + 1))
                case measure => have := HG.out; have := HK.out; omega
                case rel => exact ⟨k + 1, rfl, by have := HK.out; omega, by go_num, HW7.out⟩
            · exact absurd HOK.out hno
          · have HK : Hid (k < 2) := hlt
            go_wp2_with fail
            refine hm.mono ?_
            rintro e w3 ⟨hm2, rfl⟩
            clear hm
            rcases hm2 with ⟨hok, -⟩ | ⟨-, rfl⟩
            · exact absurd hok hno
            · clear hno hc1
              go_wp2
              go_roundg (2 - (k + 1))
              case measure => have := HG.out; have := HK.out; omega
              case rel => exact ⟨k + 1, rfl, by have := HK.out; omega, by go_num, HW3.out⟩
        · have hge : ¬ (k : Int) < 2 := by omega
          have HW3 : Hid (Grow w wr) := HW2.out.trans HW.out
          have hlv := alives_any wr
          clear hlt hk2 HG HW
          go_wp2_with fail
          refine hlv.mono ?_
          rintro e w4 ⟨rfl, g4⟩
          have HW4 : Hid (Grow w w4) := HW3.out.trans g4
          clear hlv g4
          go_wp2
          go_ret
          exact ⟨rfl, HW4.out⟩
theorem arenaCuts_walk (v : Value) (p : Nat → Prop) (zs : List Int) (w : World) (hv : RdV (Value.int .i64) 0 p w v zs) (hz : ∀ x ∈ zs, (Lit.int .i64 x).wf = true) : Calls Try.prog 3 #[v] w fun e w' => e = .returned (.bool true) ∧ Grow w w' := by
  obtain ⟨a, c, rfl⟩ := hv.shape
  obtain ⟨-, h1, h2⟩ := hv.caps
  by_cases hl : zs.length ≤ 20
  · exact arenaCuts_short a c p zs zs w hl rfl hv hz h1 h2
  · exact arenaCuts_long a c p zs (zs.take 20) w (by omega) (by rw [List.length_take]; omega) (hv.take 20 (by omega)) (fun x hx => hz x (List.mem_of_mem_take hx)) h1 h2
end Go.Proofs.Ytgpigllimoafaaa
