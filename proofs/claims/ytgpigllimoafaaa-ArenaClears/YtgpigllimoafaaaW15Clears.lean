/-
  The walk of ArenaClears. Conditions: the theorem's own.
-/
import Derived.Test.YtgpigllimoafaaaAreU
import Derived.Deep.LoopGhost
namespace Go.Proofs.Ytgpigllimoafaaa
open Go.RowKit
set_option linter.unusedVariables false
set_option linter.unusedSimpArgs false

/-- an arena beside another block X -/
def ArP (X B : Nat) (w : World) (A : Nat) (M : List PS) : Prop :=
  ∃ v, VarAt w A [v] ∧ RdV PS.v PS.zero (fun i => i ≠ X ∧ B ≤ i ∧ NoP M i) w v M ∧ A ≠ X ∧ NoP M X ∧ B ≤ A ∧ NoP M A ∧ RowP B w M ∧ 0 < M.length ∧ M.length ≤ 16
theorem ArP.of {X B A : Nat} {w : World} {M : List PS} (k : ArAt B w A M) (hX : w.heap.size ≤ X) : ArP X B w A M := by
  obtain ⟨v, h1, h2, h3, h4, h5, h6⟩ := k
  exact ⟨v, h1, h2.mono (fun i hi hp => ⟨by omega, hp⟩), by have := h1.lt; omega, fun i hi hh => by have := (h5.1 i hi).lt hh; omega, h3, h4, h5, h6⟩
theorem ArP.at {X B A : Nat} {w : World} {M : List PS} (k : ArP X B w A M) : ArAt B w A M := by
  obtain ⟨v, h1, h2, -, -, h3, h4, h5, h6⟩ := k
  exact ⟨v, h1, h2.mono (fun i _ hp => hp.2), h3, h4, h5, h6⟩
theorem ArP.upd {S : Nat → Prop} {X B A : Nat} {w w' : World} {M : List PS} (k : ArP X B w A M) (hu : UpdS S w w') (hS : ∀ x, S x → x = X ∨ w.heap.size ≤ x) : ArP X B w' A M := by
  obtain ⟨v, h1, h2, g1, g2, h3, h4, h5, h6⟩ := k
  refine ⟨v, h1.upd hu (fun hs => ?_), h2.upd hu (fun i hi hp hs => ?_), g1, g2, h3, h4, h5.upd hu (fun x hs => ?_), h6⟩
  · have := h1.lt
    rcases hS _ hs with h | h
    · exact g1 h
    · omega
  · rcases hS _ hs with h | h
    · exact hp.1 h
    · omega
  · rcases hS _ hs with h | h
    · exact .inl (by rw [h]; exact g2)
    · exact .inr h
theorem ArP.grow {X B A : Nat} {w w' : World} {M : List PS} (k : ArP X B w A M) (hu : Grow w w') : ArP X B w' A M := k.upd (S := fun _ => False) hu.s (fun _ f => f.elim)
theorem ArP.turn {X B A : Nat} {w w' : World} {M : List PS} (k : ArP X B w A M) {i : Nat} (hi : i < M.length) {s : PS} (hs : s.There w') (hP : s.P = (M.getD i PS.zero).P ∧ s.b = (M.getD i PS.zero).b) (hu : UpdS (M.getD i PS.zero).has w w') : ArP X B w' A (M.set i s) := by
  obtain ⟨v, h1, h2, g1, g2, h3, h4, h5, h6⟩ := k
  have h2' := h2.upd hu (fun x hx hp hs => hp.2.2 i hi hs)
  refine ⟨v, h1.upd hu (fun hs => h4 i hi hs), ?_, g1, noP_set hi hP g2, h3, noP_set hi hP h4, h5.turn hi hs hP hu, by rw [List.length_set]; exact h6⟩
  obtain ⟨a, c, hv, f1, f2, f3⟩ := h2'
  refine ⟨a, c, by rw [List.length_set]; exact hv, by rw [List.length_set]; exact f1, f2, fun j hj => ?_⟩
  rw [List.length_set] at hj
  obtain ⟨bb, o, e, hb, hc⟩ := f3 j hj
  refine ⟨bb, o, e, ⟨hb.1, hb.2.1, noP_set hi hP hb.2.2⟩, ?_⟩
  rw [hc, getD_set hj]
  by_cases e : i = j
  · rw [if_pos e]; subst e; unfold PS.v; rw [hP.1]
  · rw [if_neg e]

/-- what stands behind some loads -/
def ClrSt (w wr : World) (X oX cX B A : Nat) (q : List Int) (M : List PS) (U : List Bool) : Prop :=
  ArP X B wr A M ∧ M.map PS.len = q ∧ M.length = q.length ∧ OwnV Value.bool false (fun i => i = X) wr (.slice (some ⟨X, oX, none⟩) 20 cX) U ∧ Fits q M U ∧ Grow w wr
theorem ClrSt.grow {w wr w' : World} {X oX cX B A : Nat} {q : List Int} {M : List PS} {U : List Bool} (h : ClrSt w wr X oX cX B A q M U) (g : Grow wr w') : ClrSt w w' X oX cX B A q M U :=
  ⟨h.1.grow g, h.2.1, h.2.2.1, h.2.2.2.1.grow g, h.2.2.2.2.1, h.2.2.2.2.2.trans g⟩
/-- its mark's cell -/
theorem ClrSt.mark {w wr : World} {X oX cX B A : Nat} {q : List Int} {M : List PS} {U : List Bool} (h : ClrSt w wr X oX cX B A q M U) {n : Nat} (hn : n < 20) :
    wr.cell? ⟨X, oX + n, none⟩ = some (.bool (U.getD n false)) ∧ wr.frozen? ⟨X, oX + n, none⟩ = false ∧ OwnV Value.bool false (fun i => i = X) (wr.setCell ⟨X, oX + n, none⟩ (.bool true)) (.slice (some ⟨X, oX, none⟩) 20 cX) (U.set n true) ∧ 20 ≤ cX ∧ cX ≤ maxLen := by
  obtain ⟨g, o, c, e, -, -, h1, h2, h3, h4, h5⟩ := h.2.2.2.1.row (j := n) (by rw [h.2.2.2.2.1.1]; exact hn)
  injection e with e1 e2 e3
  injection e1 with e1
  injection e1 with e4 e5
  subst e4 e5 e3
  refine ⟨h3, h4, h5 true, by rw [h.2.2.2.2.1.1] at h1; exact h1, h2⟩
/-- a page loaded, and marked -/
theorem ClrSt.load {w wr w4 : World} {X oX cX B A : Nat} {q : List Int} {M : List PS} {U : List Bool} (h : ClrSt w wr X oX cX B A q M U) (hB : w.heap.size ≤ B) (hX : w.heap.size ≤ X) (hq : CutOk q) (hT : sm q q.length ≤ 12) {t k n : Nat} (ht : t < M.length) (hk : k < (M.getD t PS.zero).L.length) (hn : (n : Int) = sm q t + k) (h20 : n < 20)
    (hp : PtO w4 (M.getD t PS.zero).P (M.getD t PS.zero).b 0 ((M.getD t PS.zero).L.set k (pg15 n)) (M.getD t PS.zero).h) (hu : UpdS (fun i => i = (M.getD t PS.zero).P ∨ i = (M.getD t PS.zero).b) wr w4) :
    w4.cell? ⟨X, oX + n, none⟩ = some (.bool (U.getD n false)) ∧ w4.frozen? ⟨X, oX + n, none⟩ = false ∧ 20 ≤ cX ∧
    ∃ M', ClrSt w (w4.setCell ⟨X, oX + n, none⟩ (.bool true)) X oX cX B A q M' (U.set n true) ∧ cntM PS.used M' M'.length = cntM PS.used M M.length + (if U.getD n false = true then 0 else 1) := by
  have hs0 : 0 ≤ sm q t := by
    have := sm_mono hq.low (m := 0) (n := t) (by omega) (by rw [← h.2.2.1]; omega)
    rwa [sm_zero] at this
  have hidx : (sm q t).toNat + k = n := by omega
  obtain ⟨-, f2, f3⟩ := Fits.load h.2.2.2.2.1 h.2.1 hq hT ht hk hn
  rw [hidx] at f2 f3
  have hth := h.1.at.row.1 t ht
  have hpo := hth.pos
  have hth2 : PS.There w4 ⟨(M.getD t PS.zero).P, (M.getD t PS.zero).b, (M.getD t PS.zero).L.set k (pg15 n), (M.getD t PS.zero).h⟩ := ⟨hp, hth.2.set (pg15_ok n)⟩
  have hmap : (M.set t ⟨(M.getD t PS.zero).P, (M.getD t PS.zero).b, (M.getD t PS.zero).L.set k (pg15 n), (M.getD t PS.zero).h⟩).map PS.len = q := by
    rw [map_len_set ht (by simp)]; exact h.2.1
  have hXn : ¬ (M.getD t PS.zero).has X := by
    obtain ⟨v, -, -, -, g2, -⟩ := h.1
    exact g2 t ht
  have hlow := h.1.at.row.2.1 t ht
  have h4 : ClrSt w w4 X oX cX B A q (M.set t ⟨(M.getD t PS.zero).P, (M.getD t PS.zero).b, (M.getD t PS.zero).L.set k (pg15 n), (M.getD t PS.zero).h⟩) U → True := fun _ => trivial
  have a4 := h.1.turn ht hth2 ⟨rfl, rfl⟩ hu
  have o4 := h.2.2.2.1.upd hu (fun i _ hi hs => hXn (by rw [← hi]; exact hs))
  have g4 : Grow w w4 := UpdS.new h.2.2.2.2.2 hu (fun i hi => by have := hlow i hi; omega)
  obtain ⟨g, o, c, e, -, -, h1, h2, h3, h5, h6⟩ := o4.row (j := n) (by rw [h.2.2.2.2.1.1]; exact h20)
  injection e with e1 e2 e3
  injection e1 with e1
  injection e1 with e4 e5
  subst e4 e5 e3
  have hsc := upd_one w4 X (oX + n) (.bool true)
  refine ⟨h3, h5, by rw [h.2.2.2.2.1.1] at h1; exact h1, _, ⟨a4.upd hsc (fun x hx => .inl hx), hmap, by rw [List.length_set]; exact h.2.2.1, h6 true, f2, UpdS.new g4 hsc (fun i hi => by omega)⟩, ?_⟩
  rw [List.length_set]; exact f3

set_option maxRecDepth 8000 in
set_option maxHeartbeats 4000000 in
theorem arenaClears_walk (v vn : Value) (p pn : Nat → Prop) (zs ns : List Int) (w : World) (hv : RdV (Value.int .i64) 0 p w v zs) (hz : ∀ x ∈ zs, (Lit.int .i64 x).wf = true) (hvn : RdV (Value.int .i64) 0 pn w vn ns) (hzn : ∀ x ∈ ns, (Lit.int .i64 x).wf = true) : Calls Try.prog 6 #[v, vn] w fun e w' => e = .returned (.bool true) ∧ Grow w w' := by
  have hgd := agood_any w p v zs hv hz
  have hQ : CutOk (quoL zs) := quoL_ok zs
  obtain ⟨T, hT⟩ : ∃ T : Nat, sm (quoL zs) (quoL zs).length = T := ⟨(sm (quoL zs) (quoL zs).length).toNat, by have := quoL_sum zs; omega⟩
  have hTb : 1 ≤ T ∧ T ≤ 12 := by have := quoL_sum zs; have := quoL_len zs; omega
  have hqwf : ∀ x ∈ quoL zs, (Lit.int .i64 x).wf = true := fun x hx => wfI (by have := quoL_each zs x hx; omega)
  generalize quoL zs = q at hgd hQ hT hqwf
  have HQ : Hid (CutOk q ∧ sm q q.length = T ∧ 1 ≤ T ∧ T ≤ 12) := ⟨hQ, hT, hTb⟩
  obtain ⟨a2, c2, rfl⟩ := hvn.shape
  have HC : Hid (∀ wr, Grow w wr → ∀ j, j < ns.length → ∃ b o, a2 = some ⟨b, o, none⟩ ∧ wr.cell? ⟨b, o + j, none⟩ = some (.int .i64 (ns.getD j 0))) := fun wr g j hj => by
    obtain ⟨b, o, e, -, hc⟩ := (hvn.grow g).addr (by omega)
    exact ⟨b, o, e, hc j hj⟩
  have HA : Hid (∀ wr j, j < ns.length → Calls Try.prog 8 #[.int .i64 (ns.getD j 0), .int .i64 T] wr fun e w' => e = .returned (.int .i64 (around (ns.getD j 0) T)) ∧ wr = w') := fun wr j hj => around_any _ T wr (hzn _ (getD_in hj)) (by omega) (by omega)
  clear hQ hT hv hz hvn hzn hTb
  obtain ⟨i0, hi0, hz0, hz1, hz2⟩ := info_parts (show (Try.prog.info? 4).map (fun i => (i.zero, i.size, i.bytes)) = some (some (.bool false), 1, 1) by kernel_rfl)
  obtain ⟨i1, hi1, hy0, hy1, hy2⟩ := info_parts Try.info5
  go_enter Try.func6, Try.ntmps6
  go_wp2_with fail
  refine hgd.mono ?_
  rintro e w1 ⟨v1, rfl, ho, g1⟩
  have hc := cut_any w1 _ v1 q ho.rd hqwf
  have hB : w.heap.size ≤ w1.heap.size := g1.size
  clear hgd hqwf ho
  go_wp2_with fail
  refine hc.mono ?_
  rintro e w2 ⟨hp, g2⟩
  clear hc
  rcases hp with ⟨-, A, M0, rfl, kA, hl, hnw⟩ | ⟨hno, -⟩
  · go_wp2_with (at_make; refine wpList_makeV rfl (.const (.int .i64 20)) (.const (.int .i64 20)) 58 rfl Value.bool false 4 i0 Try.underlying58 hi0 hz0 rfl 1 hz1 hz2 .i64 .i64 20 20 rfl rfl rfl (by omega) (by omega) ?_)
    intro v5 w5 ho5 g5 hlt5
    replace ho5 : OwnV Value.bool false (fun i => i = w2.heap.size) w5 v5 (List.replicate 20 false) := ho5
    obtain ⟨X, hX⟩ : ∃ X, w2.heap.size = X := ⟨_, rfl⟩
    rw [hX] at ho5
    have hm0 := hnw.map hl (fun i hi => (HQ.out.1.2.2.1 i hi).1)
    have hfit := Fits.new hnw
    have hus0 := (hnw.none M0.length (Nat.le_refl _)).1
    obtain ⟨gx, oX, cX, hv5, hgx, -⟩ := ho5.row (j := 0) (by rw [List.length_replicate]; omega)
    subst hgx
    rw [List.length_replicate] at hv5
    subst hv5
    obtain ⟨B, hBB⟩ : ∃ B, w1.heap.size = B := ⟨_, rfl⟩
    rw [hBB] at kA hB
    have HB : Hid (w.heap.size ≤ B ∧ w.heap.size ≤ gx) := by
      refine ⟨hB, ?_⟩
      have := g1.size
      have := g2.size
      omega
    have H0 : Hid (ClrSt w w5 gx oX cX B A q M0 (List.replicate 20 false) ∧ cntM PS.used M0 M0.length = 0) := ⟨⟨(ArP.of kA (by omega)).grow g5, hm0, hl, ho5, hfit, (g1.trans g2).trans g5⟩, hus0⟩
    clear kA hl hnw g1 g2 ho5 g5 hlt5 hX hm0 hfit hus0 hB hBB
    obtain ⟨K, hK⟩ : ∃ K, K = min ns.length 6 := ⟨_, rfl⟩
    have HK : Hid (K ≤ ns.length ∧ K ≤ 6 ∧ (K = ns.length ∨ K = 6)) := by show _ ∧ _; omega
    clear hK
    go_wp2
    go_loopg [9, 10] K (fun g mv iv wr => ∃ (j : Nat) (M : List PS) (U : List Bool), g = K - j ∧ j ≤ K ∧ iv = .int .i64 j ∧ mv = .int .i64 (cntM PS.used M M.length) ∧ Hid (ClrSt w wr gx oX cX B A q M U))
    case atStart => exact ⟨0, M0, _, rfl, Nat.zero_le _, rfl, by rw [H0.out.2], H0.out.1⟩
    case round =>
      clear H0
      obtain ⟨j, M, U, hj, hj2, rfl, rfl, HS⟩ := hrel
      have HG : Hid (gk = K - j ∧ j ≤ K) := ⟨hj, hj2⟩
      clear hj
      have hcb : 0 ≤ cntM PS.used M M.length ∧ cntM PS.used M M.length ≤ 1024 := by
        have h1 := cntM_bd (c := PS.used) (M := M) (fun i hi => PS.used_bd (HS.out.1.at.row.1 i hi)) (Nat.le_refl _)
        have h2 := HS.out.1.at.size.2
        omega
      obtain ⟨C0, hC0⟩ : ∃ C0, cntM PS.used M M.length = C0 := ⟨_, rfl⟩
      rw [hC0] at hcb ⊢
      have HC0 : Hid (cntM PS.used M M.length = C0) := hC0
      clear hC0
      by_cases hlt : j < K
      · have hl1 : (j : Int) < (ns.length : Int) := by have := HK.out; omega
        have hl1' : j < ns.length := by have := HK.out; omega
        have hl2 : (j : Int) < 6 := by have := HK.out; omega
        have hw0 : IntKind.i64.wrap ((j : Int) + 1) = ((j + 1 : Nat) : Int) := by rw [IntKind.wrap_i64]; omega
        have hwc : IntKind.i64.wrap (C0 + 1) = C0 + 1 := by rw [IntKind.wrap_i64]; omega
        have HJ : Hid (j < K) := hlt
        obtain ⟨b, o, rfl, -⟩ := HC.out wr HS.out.2.2.2.2.2 j hl1'
        have kx : ∀ w', Grow wr.drew w' → w'.cell? ⟨b, o + j, none⟩ = some (.int .i64 (ns.getD j 0)) := fun w' g => by
          obtain ⟨b', o', e, hc⟩ := HC.out w' ((HS.out.2.2.2.2.2.drew).trans g) j hl1'
          injection e with e
          injection e with e1 e2
          subst e1 e2
          exact hc
        have hfr := frames_any _ wr.drew A M (HS.out.1.at.grow (Grow.refl wr).drew)
        rw [HS.out.2.1, HS.out.2.2.1, HQ.out.2.1] at hfr
        have har : ∀ w', Calls Try.prog 8 #[.int .i64 (ns.getD j 0), .int .i64 T] w' fun e w'' => e = .returned (.int .i64 (around (ns.getD j 0) T)) ∧ w' = w'' := fun w' => HA.out w' j hl1'
        have hab := around_bd (ns.getD j 0) T (by have := HQ.out; omega)
        obtain ⟨n, hn⟩ : ∃ n : Nat, around (ns.getD j 0) T = n := ⟨(around (ns.getD j 0) T).toNat, by omega⟩
        rw [hn] at har hab
        have HN : Hid (n < T) := by show n < T; omega
        generalize ns.getD j 0 = x at kx har
        have HS1 : Hid (ClrSt w wr.drew gx oX cX B A q M U) := HS.out.grow (Grow.refl wr).drew
        clear hn hab hlt hj2 hcb HS
        go_wp2
        refine wp_region_sched (by kernel_rfl) [(0, false), (1, false), (2, false), (3, false), (4, false), (5, true), (6, true), (7, false)] (by kernel_rfl) (by kernel_rfl) rfl (fun _ _ d _ _ h => by cases d <;> exact h) ?_
        simp only [inOrder, List.filterMap_cons, List.filterMap_nil, List.getElem?_toArray, List.getElem?_cons_zero, List.getElem?_cons_succ, Option.map_some]
        repeat (first
          | (refine wpS_move rfl ?_; simp only [Act.eval, Act.put, Array.getD_eq_getD_getElem?, List.getElem?_toArray, List.getElem?_cons_zero, List.getElem?_cons_succ, Option.getD_some, List.setIfInBounds_toArray, List.set_cons_zero, List.set_cons_succ])
          | (refine wpS_assign rfl ?_; simp only [Act.eval, Act.put, Array.getD_eq_getD_getElem?, List.getElem?_toArray, List.getElem?_cons_zero, List.getElem?_cons_succ, Option.getD_some, List.setIfInBounds_toArray, List.set_cons_zero, List.set_cons_succ])
          | (refine wpS_read (v := ?_) rfl ?_ ?_; rotate_left; (focus (intro w' hG; have k0 := kx w' hG; go_simp; try (with_reducible rfl))); simp only [Act.put, List.setIfInBounds_toArray, List.set_cons_zero, List.set_cons_succ])
          | (refine wpS_skip rfl ?_; simp only [Act.put, List.setIfInBounds_toArray, List.set_cons_zero, List.set_cons_succ]))
        refine wpS_call (f := ?_) (args := ?_) (by rfl) ?_ ?_
        rotate_left 2; focus (go_simp; constructor <;> with_reducible rfl)
        refine (hfr).mono ?_
        rintro e w6 ⟨rfl, g6⟩
        refine ⟨_, rfl, g6, ?_⟩
        simp only [Act.put, List.setIfInBounds_toArray, List.set_cons_zero, List.set_cons_succ]
        repeat (first
          | (refine wpS_move rfl ?_; simp only [Act.eval, Act.put, Array.getD_eq_getD_getElem?, List.getElem?_toArray, List.getElem?_cons_zero, List.getElem?_cons_succ, Option.getD_some, List.setIfInBounds_toArray, List.set_cons_zero, List.set_cons_succ])
          | (refine wpS_assign rfl ?_; simp only [Act.eval, Act.put, Array.getD_eq_getD_getElem?, List.getElem?_toArray, List.getElem?_cons_zero, List.getElem?_cons_succ, Option.getD_some, List.setIfInBounds_toArray, List.set_cons_zero, List.set_cons_succ])
          | (refine wpS_read (v := ?_) rfl ?_ ?_; rotate_left; (focus (intro w' hG; go_simp; try (with_reducible rfl))); simp only [Act.put, List.setIfInBounds_toArray, List.set_cons_zero, List.set_cons_succ])
          | (refine wpS_skip rfl ?_; simp only [Act.put, List.setIfInBounds_toArray, List.set_cons_zero, List.set_cons_succ]))
        refine wpS_call (f := ?_) (args := ?_) (by rfl) ?_ ?_
        rotate_left 2; focus (go_simp; constructor <;> with_reducible rfl)
        refine ((har w6)).mono ?_
        rintro e w7 ⟨rfl, rfl⟩
        refine ⟨_, rfl, Grow.refl _, ?_⟩
        simp only [Act.put, List.setIfInBounds_toArray, List.set_cons_zero, List.set_cons_succ]
        repeat (first
          | (refine wpS_move rfl ?_; simp only [Act.eval, Act.put, Array.getD_eq_getD_getElem?, List.getElem?_toArray, List.getElem?_cons_zero, List.getElem?_cons_succ, Option.getD_some, List.setIfInBounds_toArray, List.set_cons_zero, List.set_cons_succ])
          | (refine wpS_assign rfl ?_; simp only [Act.eval, Act.put, Array.getD_eq_getD_getElem?, List.getElem?_toArray, List.getElem?_cons_zero, List.getElem?_cons_succ, Option.getD_some, List.setIfInBounds_toArray, List.set_cons_zero, List.set_cons_succ])
          | (refine wpS_read (v := ?_) rfl ?_ ?_; rotate_left; (focus (intro w' hG; go_simp; try (with_reducible rfl))); simp only [Act.put, List.setIfInBounds_toArray, List.set_cons_zero, List.set_cons_succ])
          | (refine wpS_skip rfl ?_; simp only [Act.put, List.setIfInBounds_toArray, List.set_cons_zero, List.set_cons_succ]))
        refine wpS_nil ?_
        have HS2 : Hid (ClrSt w w6 gx oX cX B A q M U) := HS1.out.grow g6
        have hof := of_any _ w6 A M HS2.out.1.at n (wfI (by have := HN.out; have := HQ.out; omega))
        rw [HS2.out.2.1] at hof
        clear kx hfr har g6 HS1
        go_wp2_with fail
        refine hof.mono ?_
        rintro e w8 ⟨⟨i, y, is, rfl, hoi⟩, rfl⟩
        clear hof
        rcases hoi with ⟨rfl, t, ht, rfl, rfl, b1, b2⟩ | ⟨-, -, -, hbad⟩
        · have htM : t < M.length := by rw [HS2.out.2.2.1]; exact ht
          have hsc := sm_succ (q := q) (n := t) ht
          have hlq := len_q HS2.out.2.1 htM
          obtain ⟨k, hk⟩ : ∃ k : Nat, (n : Int) - sm q t = k := ⟨((n : Int) - sm q t).toNat, by omega⟩
          rw [hk]
          have HT : Hid (t < M.length ∧ k < (M.getD t PS.zero).L.length ∧ (n : Int) = sm q t + k ∧ n < 20 ∧ sm q q.length ≤ 12) := by
            have := HN.out
            have := HQ.out
            exact ⟨htM, by omega, by omega, by omega, by omega⟩
          have hpt := part_yes _ w6 A M HS2.out.1.at t htM
          clear hsc hlq hk b1 b2 ht htM
          go_wp2_with fail
          refine hpt.mono ?_
          rintro e w8 ⟨rfl, rfl⟩
          clear hpt
          go_wp2_with (at_make; refine wpList_makeV rfl (.const (.int .i64 32)) (.const (.int .i64 32)) 42 rfl (Value.int .u8) 0 5 i1 Try.underlying42 hi1 hy0 rfl 1 hy1 hy2 .i64 .i64 32 32 rfl rfl rfl (by omega) (by omega) ?_)
          intro v9 w9 ho9 g9 hlt9
          replace ho9 : OwnV (Value.int .u8) 0 (fun i => i = w6.heap.size) w9 v9 z32 := ho9
          have HS3 : Hid (ClrSt w w9 gx oX cX B A q M U) := HS2.out.grow g9
          have hld := fun hth hy => load_any w9 (M.getD t PS.zero).P (M.getD t PS.zero).b 0 (M.getD t PS.zero).L (M.getD t PS.zero).h (PS.There.grow hth g9).1 hth.2 (k : Int) (n : Int) v9 z32 hy
          have hth := HS2.out.1.at.row.1 t HT.out.1
          have hld2 := hld hth (ho9.rd.mono (fun i _ hi => ⟨fun e => by have := hth.lt (i := i) (.inl e); omega, fun e => by have := hth.lt (i := i) (.inr e); omega⟩))
          rw [(Fits.load HS2.out.2.2.2.2.1 HS2.out.2.1 HQ.out.1 HT.out.2.2.2.2 HT.out.1 HT.out.2.1 HT.out.2.2.1).1] at hld2
          obtain ⟨a9, c9, hv9⟩ := ho9.shape
          rw [z32_len] at hv9
          subst hv9
          clear hld hth ho9 g9 hlt9 HS2
          go_wp2_with fail
          refine hld2.mono ?_
          rintro e w10 ⟨rfl, hp10, u10⟩
          obtain ⟨m0, f0, hcx, M', hM', hcnt⟩ := HS3.out.load HB.out.1 HB.out.2 HQ.out.1 HT.out.2.2.2.2 HT.out.1 HT.out.2.1 HT.out.2.2.1 HT.out.2.2.2.1 hp10 u10
          have hn20 : (n : Int) < 20 := by have := HT.out.2.2.2.1; omega
          have hn20' : n < 20 := HT.out.2.2.2.1
          have HM' : Hid (ClrSt w (w10.setCell ⟨gx, oX + n, none⟩ (.bool true)) gx oX cX B A q M' (U.set n true)) := hM'
          rw [HC0.out] at hcnt
          have HCN : Hid (cntM PS.used M' M'.length = C0 + (if U.getD n false = true then 0 else 1)) := hcnt
          generalize U.getD n false = u0 at m0 HCN
          clear hM' hcnt hld2 hp10 u10 HS3
          cases u0 with
          | true =>
            have HCN' : Hid (cntM PS.used M' M'.length = C0) := by show _ = _; rw [HCN.out, if_pos rfl]; omega
            clear HCN
            go_wp2
            go_roundg (K - (j + 1))
            case measure => have := HG.out; have := HJ.out; omega
            case rel => exact ⟨j + 1, M', _, rfl, by have := HJ.out; omega, by go_num, by rw [HCN'.out], HM'.out⟩
          | false =>
            have HCN' : Hid (cntM PS.used M' M'.length = C0 + 1) := by show _ = _; rw [HCN.out, if_neg (by decide)]
            clear HCN
            go_wp2
            go_roundg (K - (j + 1))
            case measure => have := HG.out; have := HJ.out; omega
            case rel => exact ⟨j + 1, M', _, rfl, by have := HJ.out; omega, by go_num, by rw [HCN'.out], HM'.out⟩
        · exfalso
          have := HN.out
          have := HQ.out
          omega
      · have hus := used_any _ wr A M HS.out.1.at
        rw [HC0.out] at hus
        obtain rfl : K = j := by have := HG.out; omega
        clear hlt hj2 HG hcb HC HA
        by_cases hl1 : (K : Int) < (ns.length : Int)
        · have hl2 : ¬ (K : Int) < 6 := by have := HK.out; omega
          clear HK
          by_cases hz : C0 = 0
          · have ez : (C0 == 0) = true := by rw [beq_iff_eq]; exact hz
            go_wp2_with fail
            refine hus.mono ?_
            rintro e w6 ⟨rfl, g6⟩
            have HS6 : Hid (ClrSt w w6 gx oX cX B A q M U) := HS.out.grow g6
            have hem := aempty_any _ w6 A M HS6.out.1.at
            rw [HS6.out.2.2.2.2.1.empty, HC0.out, ez] at hem
            clear hus g6 HS
            go_wp2_with fail
            refine hem.mono ?_
            rintro e w7 ⟨rfl, g7⟩
            have HS7 : Hid (ClrSt w w7 gx oX cX B A q M U) := HS6.out.grow g7
            have hcl := aclear_any _ w7 A M HS7.out.1.at
            clear hem g7 HS6
            go_wp2_with fail
            refine hcl.mono ?_
            rintro e w8 ⟨rfl, kA8, u8⟩
            have HS8 : Hid (ArAt B w8 A (clrTo M M.length) ∧ Grow w w8) := ⟨kA8, UpdS.new HS7.out.2.2.2.2.2 u8 (fun i hi => Nat.le_trans HB.out.1 hi)⟩
            have hn8 := (clr_new M).none (clrTo M M.length).length (Nat.le_refl _)
            have hus := used_any _ w8 A _ kA8
            rw [hn8.1] at hus
            have HN8 : Hid (cntM PS.full (clrTo M M.length) (clrTo M M.length).length = 0) := hn8.2
            clear hcl kA8 u8 HS7 hn8
            go_wp2_with fail
            refine hus.mono ?_
            rintro e w9 ⟨rfl, g9⟩
            have HS9 : Hid (ArAt B w9 A (clrTo M M.length) ∧ Grow w w9) := ⟨HS8.out.1.grow g9, HS8.out.2.trans g9⟩
            have hem := aempty_any _ w9 A _ HS9.out.1
            rw [HN8.out] at hem
            have e00 : ((0 : Int) == 0) = true := rfl
            rw [e00] at hem
            clear hus g9 HS8 e00
            go_wp2_with fail
            refine hem.mono ?_
            rintro e w10 ⟨rfl, g10⟩
            have HS10 : Hid (Grow w w10) := HS9.out.2.trans g10
            have hlv := alives_any w10
            clear hem g10 HS9
            go_wp2_with fail
            refine hlv.mono ?_
            rintro e w11 ⟨rfl, g11⟩
            have HS11 : Hid (Grow w w11) := HS10.out.trans g11
            clear hlv g11
            go_wp2
            go_ret
            exact ⟨rfl, HS11.out⟩
          · have ez : (C0 == 0) = false := by rw [beq_eq_false_iff_ne]; exact hz
            go_wp2_with fail
            refine hus.mono ?_
            rintro e w6 ⟨rfl, g6⟩
            have HS6 : Hid (ClrSt w w6 gx oX cX B A q M U) := HS.out.grow g6
            have hem := aempty_any _ w6 A M HS6.out.1.at
            rw [HS6.out.2.2.2.2.1.empty, HC0.out, ez] at hem
            clear hus g6 HS
            go_wp2_with fail
            refine hem.mono ?_
            rintro e w7 ⟨rfl, g7⟩
            have HS7 : Hid (ClrSt w w7 gx oX cX B A q M U) := HS6.out.grow g7
            have hcl := aclear_any _ w7 A M HS7.out.1.at
            clear hem g7 HS6
            go_wp2_with fail
            refine hcl.mono ?_
            rintro e w8 ⟨rfl, kA8, u8⟩
            have HS8 : Hid (ArAt B w8 A (clrTo M M.length) ∧ Grow w w8) := ⟨kA8, UpdS.new HS7.out.2.2.2.2.2 u8 (fun i hi => Nat.le_trans HB.out.1 hi)⟩
            have hn8 := (clr_new M).none (clrTo M M.length).length (Nat.le_refl _)
            have hus := used_any _ w8 A _ kA8
            rw [hn8.1] at hus
            have HN8 : Hid (cntM PS.full (clrTo M M.length) (clrTo M M.length).length = 0) := hn8.2
            clear hcl kA8 u8 HS7 hn8
            go_wp2_with fail
            refine hus.mono ?_
            rintro e w9 ⟨rfl, g9⟩
            have HS9 : Hid (ArAt B w9 A (clrTo M M.length) ∧ Grow w w9) := ⟨HS8.out.1.grow g9, HS8.out.2.trans g9⟩
            have hem := aempty_any _ w9 A _ HS9.out.1
            rw [HN8.out] at hem
            have e00 : ((0 : Int) == 0) = true := rfl
            rw [e00] at hem
            clear hus g9 HS8 e00
            go_wp2_with fail
            refine hem.mono ?_
            rintro e w10 ⟨rfl, g10⟩
            have HS10 : Hid (Grow w w10) := HS9.out.2.trans g10
            have hlv := alives_any w10
            clear hem g10 HS9
            go_wp2_with fail
            refine hlv.mono ?_
            rintro e w11 ⟨rfl, g11⟩
            have HS11 : Hid (Grow w w11) := HS10.out.trans g11
            clear hlv g11
            go_wp2
            go_ret
            exact ⟨rfl, HS11.out⟩
        · clear HK
          by_cases hz : C0 = 0
          · have ez : (C0 == 0) = true := by rw [beq_iff_eq]; exact hz
            go_wp2_with fail
            refine hus.mono ?_
            rintro e w6 ⟨rfl, g6⟩
            have HS6 : Hid (ClrSt w w6 gx oX cX B A q M U) := HS.out.grow g6
            have hem := aempty_any _ w6 A M HS6.out.1.at
            rw [HS6.out.2.2.2.2.1.empty, HC0.out, ez] at hem
            clear hus g6 HS
            go_wp2_with fail
            refine hem.mono ?_
            rintro e w7 ⟨rfl, g7⟩
            have HS7 : Hid (ClrSt w w7 gx oX cX B A q M U) := HS6.out.grow g7
            have hcl := aclear_any _ w7 A M HS7.out.1.at
            clear hem g7 HS6
            go_wp2_with fail
            refine hcl.mono ?_
            rintro e w8 ⟨rfl, kA8, u8⟩
            have HS8 : Hid (ArAt B w8 A (clrTo M M.length) ∧ Grow w w8) := ⟨kA8, UpdS.new HS7.out.2.2.2.2.2 u8 (fun i hi => Nat.le_trans HB.out.1 hi)⟩
            have hn8 := (clr_new M).none (clrTo M M.length).length (Nat.le_refl _)
            have hus := used_any _ w8 A _ kA8
            rw [hn8.1] at hus
            have HN8 : Hid (cntM PS.full (clrTo M M.length) (clrTo M M.length).length = 0) := hn8.2
            clear hcl kA8 u8 HS7 hn8
            go_wp2_with fail
            refine hus.mono ?_
            rintro e w9 ⟨rfl, g9⟩
            have HS9 : Hid (ArAt B w9 A (clrTo M M.length) ∧ Grow w w9) := ⟨HS8.out.1.grow g9, HS8.out.2.trans g9⟩
            have hem := aempty_any _ w9 A _ HS9.out.1
            rw [HN8.out] at hem
            have e00 : ((0 : Int) == 0) = true := rfl
            rw [e00] at hem
            clear hus g9 HS8 e00
            go_wp2_with fail
            refine hem.mono ?_
            rintro e w10 ⟨rfl, g10⟩
            have HS10 : Hid (Grow w w10) := HS9.out.2.trans g10
            have hlv := alives_any w10
            clear hem g10 HS9
            go_wp2_with fail
            refine hlv.mono ?_
            rintro e w11 ⟨rfl, g11⟩
            have HS11 : Hid (Grow w w11) := HS10.out.trans g11
            clear hlv g11
            go_wp2
            go_ret
            exact ⟨rfl, HS11.out⟩
          · have ez : (C0 == 0) = false := by rw [beq_eq_false_iff_ne]; exact hz
            go_wp2_with fail
            refine hus.mono ?_
            rintro e w6 ⟨rfl, g6⟩
            have HS6 : Hid (ClrSt w w6 gx oX cX B A q M U) := HS.out.grow g6
            have hem := aempty_any _ w6 A M HS6.out.1.at
            rw [HS6.out.2.2.2.2.1.empty, HC0.out, ez] at hem
            clear hus g6 HS
            go_wp2_with fail
            refine hem.mono ?_
            rintro e w7 ⟨rfl, g7⟩
            have HS7 : Hid (ClrSt w w7 gx oX cX B A q M U) := HS6.out.grow g7
            have hcl := aclear_any _ w7 A M HS7.out.1.at
            clear hem g7 HS6
            go_wp2_with fail
            refine hcl.mono ?_
            rintro e w8 ⟨rfl, kA8, u8⟩
            have HS8 : Hid (ArAt B w8 A (clrTo M M.length) ∧ Grow w w8) := ⟨kA8, UpdS.new HS7.out.2.2.2.2.2 u8 (fun i hi => Nat.le_trans HB.out.1 hi)⟩
            have hn8 := (clr_new M).none (clrTo M M.length).length (Nat.le_refl _)
            have hus := used_any _ w8 A _ kA8
            rw [hn8.1] at hus
            have HN8 : Hid (cntM PS.full (clrTo M M.length) (clrTo M M.length).length = 0) := hn8.2
            clear hcl kA8 u8 HS7 hn8
            go_wp2_with fail
            refine hus.mono ?_
            rintro e w9 ⟨rfl, g9⟩
            have HS9 : Hid (ArAt B w9 A (clrTo M M.length) ∧ Grow w w9) := ⟨HS8.out.1.grow g9, HS8.out.2.trans g9⟩
            have hem := aempty_any _ w9 A _ HS9.out.1
            rw [HN8.out] at hem
            have e00 : ((0 : Int) == 0) = true := rfl
            rw [e00] at hem
            clear hus g9 HS8 e00
            go_wp2_with fail
            refine hem.mono ?_
            rintro e w10 ⟨rfl, g10⟩
            have HS10 : Hid (Grow w w10) := HS9.out.2.trans g10
            have hlv := alives_any w10
            clear hem g10 HS9
            go_wp2_with fail
            refine hlv.mono ?_
            rintro e w11 ⟨rfl, g11⟩
            have HS11 : Hid (Grow w w11) := HS10.out.trans g11
            clear hlv g11
            go_wp2
            go_ret
            exact ⟨rfl, HS11.out⟩
  · exact absurd HQ.out.1 hno
end Go.Proofs.Ytgpigllimoafaaa
